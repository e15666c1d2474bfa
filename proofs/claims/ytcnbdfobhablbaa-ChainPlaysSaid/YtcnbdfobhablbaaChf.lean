/-
  A version as the document's; a version cut.
-/
import Derived.Test.YtcnbdfobhablbaaChe
set_option linter.unusedVariables false
set_option linter.unusedSimpArgs false
set_option maxRecDepth 100000
namespace Go.Proofs.Ytcnbdfobhablbaa
open Go.RowKit
theorem vv_10 (x : D.Vn) : (vS.v x)[10]? = some (.string x.r.t) := rfl
theorem vv_set10 (x : D.Vn) (t : ByteArray) : (vS.v x).setIfInBounds 10 (.string t) = vS.v { x with r := { x.r with t := t } } := rfl
def putAll : Array Value → Nat → List Value → Array Value
  | C, _, [] => C
  | C, o, v :: vs => putAll (C.setIfInBounds o v) (o + 1) vs
theorem setCells_new (w : World) (T U : TypeId) (cs : Array Value) : ∀ (vs : List Value) (o : Nat) (C : Array Value), ((w.alloc (.cells C T)).alloc (.cells cs U)).setCells w.heap.size o vs = (w.alloc (.cells (putAll C o vs) T)).alloc (.cells cs U)
  | [], _, _ => rfl
  | v :: vs, o, C => by
    rw [World.setCells, World.setCell_alloc_past _ _ _ _ (by simp), World.setCell_alloc_at _ _ _ _ _ rfl, setCells_new w T U cs vs (o + 1)]
    rfl
set_option maxHeartbeats 1000000 in
theorem run_str_mid (w : World) (v : D.Vn) (x : D.Rc) (n : Nat) (cs : Array Value) (U : TypeId) (h : n = w.heap.size) : (str (.pointer (some ⟨n, 2, none⟩)) (.agg (rS.v x))).run Try.prog ((w.alloc (.cells (vS.v v) 32)).alloc (.cells cs U)) = .ok () ((w.alloc (.cells (vS.v { v with r := x }) 32)).alloc (.cells cs U)) := by
  subst h
  have hB : Blk ((w.alloc (.cells (vS.v v) 32)).alloc (.cells cs U)) w.heap.size 32 (vS.v v) := (Blk.new w 32 (vS.v v)).alloc _
  generalize hW : (w.alloc (.cells (vS.v v) 32)).alloc (.cells cs U) = W at hB
  have ht : W.there w.heap.size 2 9 := fun j hj => ⟨by rw [hB.c, Array.getElem?_eq_getElem (by rw [vS.v_size]; show 2 + j < 11; omega)]; rfl, hB.f _⟩
  have h := run_storeAt_mid (P := Try.prog) W w.heap.size 2 30 (rS.v x) (by rw [rS.v_size]; exact ht) (by rw [rS.v_size]; kernel_rfl) (rS.v_one x)
  refine h.trans ?_
  have e : putAll (vS.v v) 2 (rS.v x).toList = vS.v { v with r := x } := by simp [putAll, rv_eq, vv_eq]
  rw [← hW, setCells_new, e]
attribute [local go_sem ↓] Go.wp_at_zero Go.wp_at_succ ld_v lv_v st_v ne_v bd_v bs_v ld_w lv_w st_w ne_w bd_w bs_w ld_r ld_d lv_r lv_d st_r st_d ne_r eq_r ne_d bd_r bd_d
attribute [local go_sem] run_ldv run_lvv run_stv run_nev run_bdv_z run_bdv_d run_bdv_r run_bsv1 run_bsv0 run_ldw run_lvw run_stw run_new run_bdw_3 run_bsw1 run_bsw0 run_ldr run_ldd run_lvr run_lvd run_str run_std run_ner run_eqr run_ned run_bdr0 run_bdd0 run_bdr1 run_bdd1 run_bdd9 Shp.rd_new Shp.rd_old Shp.rd_drew Shp.rd_drewN Shp.rd_set Shp.tn_new Shp.tn_old Shp.tn_drew Shp.tn_drewN setRow_alloc vv_0 vv_1 vv_10 vv_set10 wv_0 wv_1 run_fdv0 run_fdv1 Shp.rd_extk cell_ext run_str_mid setRow_alloc2
theorem of_any (r : D.Rc) (w : World) (hr : r.wf) :
    Calls Try.prog 16 #[.agg (rS.v r)] w fun en w' => en = .returned (.agg (dS.v r)) ∧ Below w.heap.size w w' := by
  have b1 := hr.k
  have b2 := hr.s
  have b3 := hr.u
  have b4 := hr.p
  have b5 := hr.m
  have b6 := hr.v
  have P0 := Lib.hid ((RB.new w w.heap.size r rfl).on (below_alloc _ (.cells #[.int .i64 0, .int .i64 0, .int .i64 0, .int .i64 0, .int .i64 0, .bool false, .int .u64 0, .int .u64 0, .string ⟨#[]⟩] 42)))
  obtain ⟨c0, c1, c2, c3, c4, c5, c6, c7, c8⟩ := rf_of P0.out.rd
  go_enter Try.func16, Try.ntmps16
  go_wp2_with fail
  exact bodyPost_ret (v := .agg (dS.v r)) (by rw [results_cell1 rfl]; simp [asAddr, Result.andThen, lvd_of (Shp.rd_new (S := dS) (w.alloc (.cells (rS.v r) 30)) (w.heap.size + 1) 42 r (by simp))]) rfl ⟨rfl, ((Below.refl _ _).alloc (Nat.le_refl _) _).alloc (by simp) _⟩
set_option maxHeartbeats 2000000 in
theorem vof_any (v : D.Vn) (w : World) (hr : v.wf) :
    Calls Try.prog 12 #[.agg (vS.v v)] w fun en w' => en = .returned (.agg (wS.v v)) ∧ Below w.heap.size w w' := by
  have b0 : Below w.heap.size w ((w.alloc (.cells (vS.v v) 32)).alloc (.cells #[.int .u64 0, .bool false, .int .i64 0, .int .i64 0, .int .i64 0, .int .i64 0, .int .i64 0, .bool false, .int .u64 0, .int .u64 0, .string ⟨#[]⟩] 44)) := (below_alloc_ _ _).alloc (by simp) _
  have q0 : vS.rd ((w.alloc (.cells (vS.v v) 32)).alloc (.cells #[.int .u64 0, .bool false, .int .i64 0, .int .i64 0, .int .i64 0, .int .i64 0, .int .i64 0, .bool false, .int .u64 0, .int .u64 0, .string ⟨#[]⟩] 44)) ⟨w.heap.size, 0, none⟩ = some v := Shp.rd_on (Shp.rd_new _ _ _ _ rfl) (below_alloc_ _ _)
  have t0 : Shp.tn 11 ((w.alloc (.cells (vS.v v) 32)).alloc (.cells #[.int .u64 0, .bool false, .int .i64 0, .int .i64 0, .int .i64 0, .int .i64 0, .int .i64 0, .bool false, .int .u64 0, .int .u64 0, .string ⟨#[]⟩] 44)) (w.heap.size + 1) = true := Shp.tn_new _ _ _ _ _ (by simp) rfl
  go_enter Try.func12, Try.ntmps12
  go_wp2_with fail
  generalize (w.alloc (.cells (vS.v v) 32)).alloc (.cells #[.int .u64 0, .bool false, .int .i64 0, .int .i64 0, .int .i64 0, .int .i64 0, .int .i64 0, .bool false, .int .u64 0, .int .u64 0, .string ⟨#[]⟩] 44) = W0 at b0 q0 t0 ⊢
  obtain ⟨w4, hw4⟩ : ∃ w4, W0.drew = w4 := ⟨_, rfl⟩
  have b4 : Below W0.heap.size W0 w4 := by rw [← hw4]; exact (Below.refl _ _).drew
  have q4 := Shp.rd_on q0 b4
  have t4 := Shp.tn_on t0 b4
  have z4 := below_up b0 b0.size b4
  have CO := Lib.hid (of_any v.r w4 hr.r)
  refine wp_region_noPanic ?_
  refine wp_region_held_drew (S := fun W => vS.rd W ⟨w.heap.size, 0, none⟩ = some v) (by kernel_rfl) (by rw [hw4]; exact q4) (fun sd => ?_)
  rw [hw4]
  refine takeS 0 (some 3) ?vq0 (by kernel_rfl) (by kernel_rfl) (by kernel_rfl) (by kernel_rfl) (fun _ _ _ h => h) (by rfl) ?hyq0 q4 ?restq0
  case hyq0 => (intro o ho W hW; simp only [List.getElem?_toArray, List.getElem?_cons_succ, List.getElem?_cons_zero, Option.some.injEq] at ho; subst ho; (try dsimp only at hW); obtain ⟨k1, k2, k3, -⟩ := vf hW; go_simp; try rfl)
  try simp only [Act.put, List.setIfInBounds_toArray, List.set_cons_zero, List.set_cons_succ]
  refine takeS 1 (some 4) (.int .u64 (v.a : Nat)) (by kernel_rfl) (by kernel_rfl) (by kernel_rfl) (by kernel_rfl) (fun _ _ _ h => h) (by rfl) ?hyq1 q4 ?restq1
  case hyq1 => (intro o ho W hW; simp only [List.getElem?_toArray, List.getElem?_cons_succ, List.getElem?_cons_zero, Option.some.injEq] at ho; subst ho; (try dsimp only at hW); obtain ⟨k1, k2, k3, -⟩ := vf hW; go_simp; try rfl)
  try simp only [Act.put, List.setIfInBounds_toArray, List.set_cons_zero, List.set_cons_succ]
  refine takeS 2 (some 5) ?vq2 (by kernel_rfl) (by kernel_rfl) (by kernel_rfl) (by kernel_rfl) (fun _ _ _ h => h) (by rfl) ?hyq2 q4 ?restq2
  case hyq2 => (intro o ho W hW; simp only [List.getElem?_toArray, List.getElem?_cons_succ, List.getElem?_cons_zero, Option.some.injEq] at ho; subst ho; (try dsimp only at hW); obtain ⟨k1, k2, k3, -⟩ := vf hW; go_simp; try rfl)
  try simp only [Act.put, List.setIfInBounds_toArray, List.set_cons_zero, List.set_cons_succ]
  refine takeS 3 (some 6) (.bool v.d) (by kernel_rfl) (by kernel_rfl) (by kernel_rfl) (by kernel_rfl) (fun _ _ _ h => h) (by rfl) ?hyq3 q4 ?restq3
  case hyq3 => (intro o ho W hW; simp only [List.getElem?_toArray, List.getElem?_cons_succ, List.getElem?_cons_zero, Option.some.injEq] at ho; subst ho; (try dsimp only at hW); obtain ⟨k1, k2, k3, -⟩ := vf hW; go_simp; try rfl)
  try simp only [Act.put, List.setIfInBounds_toArray, List.set_cons_zero, List.set_cons_succ]
  refine takeS 4 (some 7) ?vq4 (by kernel_rfl) (by kernel_rfl) (by kernel_rfl) (by kernel_rfl) (fun _ _ _ h => h) (by rfl) ?hyq4 q4 ?restq4
  case hyq4 => (intro o ho W hW; simp only [List.getElem?_toArray, List.getElem?_cons_succ, List.getElem?_cons_zero, Option.some.injEq] at ho; subst ho; (try dsimp only at hW); obtain ⟨k1, k2, k3, -⟩ := vf hW; go_simp; try rfl)
  try simp only [Act.put, List.setIfInBounds_toArray, List.set_cons_zero, List.set_cons_succ]
  refine takeS 5 (some 8) (.agg (rS.v v.r)) (by kernel_rfl) (by kernel_rfl) (by kernel_rfl) (by kernel_rfl) (fun _ _ _ h => h) (by rfl) ?hyq5 q4 ?restq5
  case hyq5 => (intro o ho W hW; simp only [List.getElem?_toArray, List.getElem?_cons_succ, List.getElem?_cons_zero, Option.some.injEq] at ho; subst ho; (try dsimp only at hW); obtain ⟨k1, k2, k3, -⟩ := vf hW; go_simp; try rfl)
  try simp only [Act.put, List.setIfInBounds_toArray, List.set_cons_zero, List.set_cons_succ]
  refine nextS 6 (by kernel_rfl) (by rfl) (fun o ho K hK => ?_)
  simp only [List.getElem?_toArray, List.getElem?_cons_succ, List.getElem?_cons_zero, Option.some.injEq] at ho; subst ho
  go_simp
  (go_at_call 16; (with_reducible refine (CO.out).mono ?_); rintro e w5 ⟨rfl, b5⟩)
  have q5 := Shp.rd_on q4 b5
  have t5 := Shp.tn_on t4 b5
  refine hK.out _ _ q5 (fun _ => ?_)
  clear hK K
  try simp only [Act.put, List.setIfInBounds_toArray, List.set_cons_zero, List.set_cons_succ]
  refine takeS 7 (some 10) (.agg (wS.v v)) (by kernel_rfl) (by kernel_rfl) (by kernel_rfl) (by kernel_rfl) (fun _ _ _ h => h) (by rfl) ?hyq7 q5 ?restq7
  case hyq7 => (intro o ho W hW; simp only [List.getElem?_toArray, List.getElem?_cons_succ, List.getElem?_cons_zero, Option.some.injEq] at ho; subst ho; (try dsimp only at hW); skip; go_simp; try rfl)
  try simp only [Act.put, List.setIfInBounds_toArray, List.set_cons_zero, List.set_cons_succ]
  refine nextS 8 (by kernel_rfl) (by rfl) (fun o ho K hK => ?_)
  simp only [List.getElem?_toArray, List.getElem?_cons_succ, List.getElem?_cons_zero, Option.some.injEq] at ho; subst ho
  go_simp
  refine hK.out _ _ ((Shp.rd_far _ _ _ _ (by simp only; omega)).trans q5) (fun _ => ?_)
  clear hK K
  try simp only [Act.put, List.setIfInBounds_toArray, List.set_cons_zero, List.set_cons_succ]
  refine wpAnyH_done (by kernel_rfl) ?_ _
  refine NoPanic.normal ?_
  go_wp2
  refine bodyPost_ret (v := .agg (wS.v v)) (by rw [results_cell1 rfl]; simp [asAddr, Result.andThen, lvw_of (Shp.rd_set (S := wS) w5 (w.heap.size + 1) v t5)]) rfl ⟨rfl, bel_setRow (below_up z4 z4.size b5) (by omega) _⟩
/-- A version whose text has at most 80 bytes; a dead one without a record, if it is told so. -/
def D.cutV (v : D.Vn) (cl : Bool) : D.Vn := ⟨v.a, v.d, if cl = true ∧ v.d = true then D.zRc else { v.r with t := v.r.t.extract 0 (min v.r.t.size 80) }⟩
theorem D.cutV_wf {v : D.Vn} (h : v.wf) (cl : Bool) : (D.cutV v cl).wf := by
  refine ⟨h.a, ?_⟩
  unfold D.cutV
  simp only
  split
  · exact ⟨by decide, by decide, by decide, by decide, by decide, by decide, by decide⟩
  · have := h.r; exact ⟨this.k, this.s, this.u, this.p, this.m, this.v, this.a⟩
set_option maxHeartbeats 4000000 in
theorem vcut_any (v : D.Vn) (cl : Bool) (w : World) (hm : v.r.t.size ≤ 9223372036854775807) :
    Calls Try.prog 10 #[.agg (vS.v v), .bool cl] w fun en w' => en = .returned (.agg (vS.v (D.cutV v cl))) ∧ Below w.heap.size w w' := by
  have key : ∀ y : D.Vn, D.cutV v cl = y → ∀ W' : World, W' = ((w.alloc (.cells (vS.v y) 32)).alloc (.cells (vS.v y) 32)) → vS.rd W' ⟨w.heap.size + 1, 0, none⟩ = some (D.cutV v cl) ∧ Below w.heap.size w W' := by
    rintro y rfl W' rfl
    exact ⟨Shp.rd_new _ _ _ _ (by simp), (below_alloc_ _ _).alloc (by simp) _⟩
  have KEY := Lib.hid key
  clear key
  obtain ⟨x, hx, hxe⟩ : ∃ x, v.r.t.extract 0 (min v.r.t.size 80) = x ∧ (v.r.t.size ≤ 80 → x = v.r.t) := ⟨_, rfl, fun h => by rw [Nat.min_eq_left h]; exact ByteArray.extract_zero_size⟩
  have q2 : v.d = true ∨ v.d = false := by cases v.d <;> simp
  have hl0 : (0 : Int) ≤ (v.r.t.size : Int) := by omega
  cases cl with
  | false =>
    have HE : Hid (D.cutV v false = ⟨v.a, v.d, { v.r with t := x }⟩) := by show D.cutV v false = _; simp [D.cutV, hx]
    clear q2
    by_cases h80 : v.r.t.size ≤ 80
    · have hxt := hxe h80
      subst hxt
      have i1 : (v.r.t.size : Int) ≤ 80 := by omega
      clear h80 hx hxe
      go_enter Try.func10, Try.ntmps10
      go_wp2
      have k := KEY.out _ HE.out _ rfl
      exact bodyPost_ret (v := .agg (vS.v (D.cutV v false))) (by rw [results_cell1 rfl]; simp [asAddr, Result.andThen, lvv_of k.1]) rfl ⟨rfl, k.2⟩
    · have h8 : min v.r.t.size 80 = 80 := Nat.min_eq_right (by omega)
      rw [h8] at hx
      have i1 : (80 : Int) < (v.r.t.size : Int) := by omega
      clear h80 h8 hxe
      go_enter Try.func10, Try.ntmps10
      go_wp2
      have k := KEY.out _ HE.out _ rfl
      exact bodyPost_ret (v := .agg (vS.v (D.cutV v false))) (by rw [results_cell1 rfl]; simp [asAddr, Result.andThen, lvv_of k.1]) rfl ⟨rfl, k.2⟩
  | true =>
    rcases q2 with hd | hd
    · have HE : Hid (D.cutV v true = ⟨v.a, true, D.zRc⟩) := by show D.cutV v true = _; simp [D.cutV, hd]
      by_cases h80 : v.r.t.size ≤ 80
      · have hxt := hxe h80
        subst hxt
        have i1 : (v.r.t.size : Int) ≤ 80 := by omega
        clear h80 hx hxe
        go_enter Try.func10, Try.ntmps10
        go_wp2
        have k := KEY.out _ HE.out _ rfl
        exact bodyPost_ret (v := .agg (vS.v (D.cutV v true))) (by rw [results_cell1 rfl]; simp [asAddr, Result.andThen, lvv_of k.1]) rfl ⟨rfl, k.2⟩
      · have h8 : min v.r.t.size 80 = 80 := Nat.min_eq_right (by omega)
        rw [h8] at hx
        have i1 : (80 : Int) < (v.r.t.size : Int) := by omega
        clear h80 h8 hxe
        go_enter Try.func10, Try.ntmps10
        go_wp2
        have k := KEY.out _ HE.out _ rfl
        exact bodyPost_ret (v := .agg (vS.v (D.cutV v true))) (by rw [results_cell1 rfl]; simp [asAddr, Result.andThen, lvv_of k.1]) rfl ⟨rfl, k.2⟩
    · have HE : Hid (D.cutV v true = ⟨v.a, false, { v.r with t := x }⟩) := by show D.cutV v true = _; simp [D.cutV, hd, hx]
      by_cases h80 : v.r.t.size ≤ 80
      · have hxt := hxe h80
        subst hxt
        have i1 : (v.r.t.size : Int) ≤ 80 := by omega
        clear h80 hx hxe
        go_enter Try.func10, Try.ntmps10
        go_wp2
        have k := KEY.out _ HE.out _ rfl
        exact bodyPost_ret (v := .agg (vS.v (D.cutV v true))) (by rw [results_cell1 rfl]; simp [asAddr, Result.andThen, lvv_of k.1]) rfl ⟨rfl, k.2⟩
      · have h8 : min v.r.t.size 80 = 80 := Nat.min_eq_right (by omega)
        rw [h8] at hx
        have i1 : (80 : Int) < (v.r.t.size : Int) := by omega
        clear h80 h8 hxe
        go_enter Try.func10, Try.ntmps10
        go_wp2
        have k := KEY.out _ HE.out _ rfl
        exact bodyPost_ret (v := .agg (vS.v (D.cutV v true))) (by rw [results_cell1 rfl]; simp [asAddr, Result.andThen, lvv_of k.1]) rfl ⟨rfl, k.2⟩
end Go.Proofs.Ytcnbdfobhablbaa
