/-
  The key of bytes: the program's Read, the document's.
-/
import Derived.Test.YtjblepjkejihcaaGreatDoorKrby
import Derived.Test.YtjblepjkejihcaaGreatDoorKrt
set_option linter.unusedVariables false
set_option linter.unusedSimpArgs false
set_option maxRecDepth 100000
namespace Go.Proofs.YtjblepjkejihcaaGreatDoor
open Go.RowKit
theorem bdk_4t (w : World) (x : D.Ky) (t : D.Tg) : (bdk #[(0, .int .u8 (x.k : Int)), (1, .int .u8 (x.p : Int)), (2, .int .u8 (x.a : Int)), (4, .agg (nc t))]).run Tryz.prog w = .ok (.agg (kS.v (D.mkK x.k x.p x.a Nm.D.zero t))) w := by
  rw [kv_mk _ _ x.k_lt x.p_lt x.a_lt]
  obtain ⟨c0, c1, c2, c3, c4, c5, c6, c7, c8, c9, ht⟩ := ten t
  have e2 : bys t.l = [c0, c1, c2, c3, c4, c5, c6, c7, c8, c9] := by simpa [nc] using congrArg Array.toList ht
  rw [ht, e2]
  simp [bdk, Instr.build, go_sem]
  rfl
/-- The document's key so far. -/
def rq (x : D.Ky) (i j : Nat) : Array Value := ((Value.int .i64 x.k) :: (Value.int .i64 x.p) :: (Value.int .i64 x.a) :: (bys (D.padn (x.n.l.take i) 12) ++ bys (D.padn (x.t.l.take j) 10))).toArray
theorem rq_size (x : D.Ky) (i j : Nat) : (rq x i j).size = 25 := by simp [rq, bys_len, D.padn_len]
theorem bys_set (l : List Nat) (i b : Nat) : (bys l).set i (.int .u8 (b : Int)) = bys (l.set i b) := by simp [bys, List.map_set]
theorem rq_next1 {x : D.Ky} {i b : Nat} (hb : x.n.l[i]? = some b) (hi : i < 12) : (rq x i 0).setIfInBounds (3 + i) (.int .u8 b) = rq x (i + 1) 0 := by
  unfold rq
  rw [← pad_set hb hi, ← bys_set]
  simp only [List.setIfInBounds_toArray, show 3 + i = i + 3 by omega, List.set_cons_succ]
  rw [List.set_append_left _ _ (by rw [bys_len, D.padn_len]; exact hi)]
theorem rq_next2 {x : D.Ky} {j b : Nat} (hb : x.t.l[j]? = some b) (hj : j < 10) : (rq x 12 j).setIfInBounds (15 + j) (.int .u8 b) = rq x 12 (j + 1) := by
  unfold rq
  rw [← pad_set hb hj, ← bys_set]
  simp only [List.setIfInBounds_toArray, show 15 + j = (12 + j) + 3 by omega, List.set_cons_succ]
  have hl : (bys (D.padn (x.n.l.take 12) 12)).length = 12 := by rw [bys_len, D.padn_len]
  rw [List.set_append_right _ _ (by omega), hl, Nat.add_sub_cancel_left]
theorem rq_end (x : D.Ky) : rq x 12 10 = rS.v (D.toR x) := by
  unfold rq
  rw [padn_full x.n.len, padn_full x.t.len]
  rfl
theorem bdr3 (w : World) (x : D.Ky) : (bdr #[(0, .int .i64 (x.k : Int)), (1, .int .i64 (x.p : Int)), (2, .int .i64 (x.a : Int))]).run Tryz.prog w = .ok (.agg (rq x 0 0)) w := by
  have e1 : D.padn (x.n.l.take 0) 12 = [0, 0, 0, 0, 0, 0, 0, 0, 0, 0, 0, 0] := rfl
  have e2 : D.padn (x.t.l.take 0) 10 = [0, 0, 0, 0, 0, 0, 0, 0, 0, 0] := rfl
  unfold rq
  rw [e1, e2]
  simp [bdr, Instr.build, go_sem, bys]
theorem run_strkq (w : World) (g : Nat) (x : D.Ky) (h : Shp.tn 25 w g = true) : (strk (.pointer (some ⟨g, 0, none⟩)) (.agg (rq x 0 0))).run Tryz.prog w = .ok () (w.setRow g (rq x 0 0)) := by
  have e : rq x 0 0 = rS.v ⟨x.k, x.p, x.a, Nm.D.zero, D.zero, (D.toR x).hk, (D.toR x).hp, (D.toR x).ha⟩ := rfl
  rw [e, run_strk, h]
  rfl
theorem run_arr (g o : Nat) : ∀ W, (Instr.arrayAt 28 (.slice (some ⟨g, o, none⟩) 10 10)).run Tryz.prog W = .ok (.pointer (some ⟨g, o, none⟩)) W := by
  intro W
  simp [Instr.arrayAt, Sem.run_bind, Tryz.runUnderlying28, Result.andThen, go_sem]
theorem kname_cell {w : World} {g : Nat} {x : D.Ky} (h : kS.rd w ⟨g, 0, none⟩ = some x) {j b : Nat} (hb : x.n.l[j]? = some b) : w.cell? ⟨g, 3 + j, none⟩ = some (.int .u8 b) := by
  have := Nm.at_of (kf0 h).2.2.2.1 j (.int .u8 b) (bys_at hb)
  rwa [add_o] at this
attribute [local go_sem ↓] Go.wp_at_zero Go.wp_at_succ ld_k lv_k st_k eq_k ne_k bd_k ld_b lv_b st_b eq_b ne_b bd_25 ld_r lv_r st_rk eq_rk ne_rk bd_r ld_p lv_p st_px bd_p Nm.ld_a Nm.ld_n Nm.st_a Nm.st_n Nm.eq_a Nm.eq_n Nm.ne_a Nm.ne_n Nm.lv_a Nm.lv_n ld_a ld_n st_a st_n eq_a eq_n ne_a ne_n lv_a lv_n
attribute [local go_sem] run_ldk run_lvk run_stk run_eqk run_nek run_bdk_z run_ldb run_lvb run_stb run_eqb run_neb run_ldr run_lvr run_strk run_eqrk run_nerk run_bdr_z run_ldp run_lvp run_stpx Nm.run_ld_a Nm.run_ld_n Nm.run_st_n Nm.run_eq_a Nm.run_eq_n Nm.run_ne_a Nm.run_ne_n Nm.run_lv_a Nm.run_lv_n Nm.rd_new Nm.rd_old Nm.rd_drew Nm.rd_drewN run_ld_a run_ld_n run_sw_a run_sw_n run_eq_a run_eq_n run_ne_a run_ne_n run_lv_a run_lv_n st_z ne_z eq_z rd_new rd_old rd_drew rd_drewN Shp.rd_new Shp.rd_old Shp.rd_drew Shp.rd_drewN Shp.rd_set Shp.tn_new Shp.tn_old Shp.tn_drew Shp.tn_drewN tn_new tn_old tn_drew tn_drewN rd_set setRow_alloc run_stn3 run_stt15 bdk_4t bdr3

/-- The key of bytes, or what is wrong. -/
def D.kread (x : D.Ky) : D.Ky × Int := if D.kright x then (x, 0) else (D.zK, 3)
theorem right_zero_t : D.right D.zero = true := by decide +kernel
theorem kright_tag {x : D.Ky} (h : D.right x.t = false) : D.kright x = false := by
  cases hk : D.kright x with
  | false => rfl
  | true =>
    simp only [D.kright, decide_eq_true_eq] at hk
    obtain ⟨_, _, _, _, h5⟩ := D.err_ok hk.1
    cases ht : D.tgd x.k with
    | true => rw [(h5 ht).2] at h; cases h
    | false =>
      have e := congrArg D.Ky.t hk.2
      rw [D.mkI_t, ht] at e
      have e : D.zero = x.t := e
      rw [← e, right_zero_t] at h
      cases h

set_option maxHeartbeats 4000000 in
theorem kread_ok (x : D.Ky) (w : World) (ht : D.right x.t = true) (hk : D.kright x = true) : Calls Tryz.prog 19 #[.agg (kS.v x)] w fun e w' => e = .returned (.tuple #[.agg (kS.v (D.kread x).1), .int .i64 (D.kread x).2]) ∧ Below w.heap.size w w' := by
  have CO := Lib.hid (fun w => (show Calls Tryz.prog 44 #[.agg (nc x.t)] w fun e w' => e = .returned (.tuple #[.agg (nc x.t), .int .i64 0]) ∧ Below w.heap.size w w' from by have := of_any x.t w; unfold D.tof at this; rw [ht] at this; exact this))
  have CR := Lib.hid (fun w => (show Calls Tryz.prog 13 #[.agg (kS.v x)] w fun e w' => e = .returned (.bool true) ∧ Below w.heap.size w w' from by have := keyright_any x w; rwa [hk] at this))
  have HR := Lib.hid (show D.kread x = (x, 0) by unfold D.kread; rw [hk]; rfl)
  clear ht hk
  obtain ⟨W0, hW0⟩ : ∃ W, (w.alloc (.cells (kS.v x) 42)).alloc (.cells z25 33) = W := ⟨_, rfl⟩
  have f0 : kS.rd W0 ⟨w.heap.size, 0, none⟩ = some x := by rw [← hW0]; exact Shp.rd_on (Shp.rd_new (S := kS) w _ _ x rfl) (below_alloc_ _ _)
  have k0 : Shp.tn 25 W0 (w.heap.size + 1) = true := by rw [← hW0]; exact Shp.tn_new _ _ _ _ _ (by simp) rfl
  have z0 : Below w.heap.size w W0 := by rw [← hW0]; exact (below_alloc_ _ _).alloc (by simp) _
  have s0 : w.heap.size + 1 < W0.heap.size := by rw [← hW0]; simp
  unfold z25 at hW0
  obtain ⟨c0, c1, c2, c3, c4⟩ := kf0 f0
  have hbd := fun w => bdk_4t w x x.t
  obtain ⟨y, hy⟩ : ∃ y, D.mkK x.k x.p x.a Nm.D.zero x.t = y := ⟨_, rfl⟩
  rw [hy] at hbd
  have hra := run_arr w.heap.size 15
  go_enter Tryz.func19, Tryz.ntmps19
  go_wp2_with fail
  try rw [hW0]
  clear hW0
  go_wp2_with (go_at_call 44; (with_reducible refine (CO.out _).mono ?_); rintro e w2 ⟨rfl, b2⟩; obtain ⟨d0, d1, d2, d3, d4⟩ := kf0 (Shp.rd_on f0 b2); have q2 : w.heap.size < w2.heap.size := by have := b2.size; omega)
  obtain ⟨W1, hW1⟩ : ∃ W, (w2.alloc (.cells (nc x.t) 27)).alloc (.cells (kS.v y) 33) = W := ⟨_, rfl⟩
  have bA : Below W0.heap.size W0 W1 := by rw [← hW1]; exact (b2.alloc b2.size _).alloc (b2.alloc b2.size _).size _
  have D1 : Blk W1 (w2.heap.size + 1) 33 (kS.v y) := by
    rw [← hW1]
    have := Blk.new (w2.alloc (.cells (nc x.t) 27)) 33 (kS.v y)
    rw [World.size_alloc] at this
    exact this
  have N1 : Nm.rd W1 ⟨w.heap.size, 3, none⟩ = some x.n := Nm.rd_on c3 bA
  have k1 := Shp.tn_on k0 bA
  have z1 := below_up z0 z0.size bA
  have s1 : w.heap.size + 1 < w2.heap.size + 1 := by have := b2.size; omega
  try rw [hW1]
  clear hW1
  obtain ⟨G, hG⟩ : ∃ G, w2.heap.size + 1 = G := ⟨_, rfl⟩
  rw [hG] at D1 s1
  try rw [hG]
  clear hG b2 c0 c1 c2 c3 c4 d0 d1 d2 d3 d4 k0 z0 f0 bA CO q2
  subst hy
  have zd : Below w.heap.size w W1.drew := z1.drew
  refine wp_region_noPanic ?_
  refine wp_region_held_drew (S := fun W => Below w.heap.size w W) (by kernel_rfl) zd (fun _ => ?_)
  refine takeS 0 (some 22) ?va0 (by kernel_rfl) (by kernel_rfl) (by kernel_rfl) (by kernel_rfl) (fun _ _ _ h => h) (by rfl) ?hya0 zd ?resta0
  case hya0 => (intro o ho W hW; simp only [List.getElem?_toArray, List.getElem?_cons_succ, List.getElem?_cons_zero, Option.some.injEq] at ho; subst ho; (try dsimp only at hW); skip; go_simp; try rfl)
  try simp only [Act.put, List.setIfInBounds_toArray, List.set_cons_zero, List.set_cons_succ]
  refine takeS 1 (some 23) (.slice (some ⟨G, 3, none⟩) 12 12) (by kernel_rfl) (by kernel_rfl) (by kernel_rfl) (by kernel_rfl) (fun _ _ _ h => h) (by rfl) ?hya1 zd ?resta1
  case hya1 => (intro o ho W hW; simp only [List.getElem?_toArray, List.getElem?_cons_succ, List.getElem?_cons_zero, Option.some.injEq] at ho; subst ho; (try dsimp only at hW); skip; go_simp; try rfl)
  try simp only [Act.put, List.setIfInBounds_toArray, List.set_cons_zero, List.set_cons_succ]
  refine takeS 2 (some 24) (.slice (some ⟨w.heap.size, 3, none⟩) 12 22) (by kernel_rfl) (by kernel_rfl) (by kernel_rfl) (by kernel_rfl) (fun _ _ _ h => h) (by rfl) ?hya2 zd ?resta2
  case hya2 => (intro o ho W hW; simp only [List.getElem?_toArray, List.getElem?_cons_succ, List.getElem?_cons_zero, Option.some.injEq] at ho; subst ho; (try dsimp only at hW); skip; go_simp; try rfl)
  try simp only [Act.put, List.setIfInBounds_toArray, List.set_cons_zero, List.set_cons_succ]
  refine nextS 3 (by kernel_rfl) (by rfl) (fun o ho K hK => ?_)
  simp only [List.getElem?_toArray, List.getElem?_cons_succ, List.getElem?_cons_zero, Option.some.injEq] at ho; subst ho
  go_simp
  have hrun := run_cpn W1.drew G 33 3 w.heap.size 3 x.k x.p x.a Nm.D.zero x.n x.t 12 22 ⟨D1.out⟩ ((Nm.rd_drew _ _).trans N1)
  rw [hrun]
  go_simp
  have zA : Below w.heap.size w (W1.drew.setRow G (kS.v (D.mkK x.k x.p x.a x.n x.t))) := below_setRow zd (by omega) _
  refine hK.out _ _ zA (fun _ => ?_)
  clear hK K
  try simp only [Act.put, List.setIfInBounds_toArray, List.set_cons_zero, List.set_cons_succ]
  refine wpAnyH_done (by kernel_rfl) ?_ _
  refine NoPanic.normal ?_
  obtain ⟨W2, hW2⟩ : ∃ W, W1.drew.setRow G (kS.v (D.mkK x.k x.p x.a x.n x.t)) = W := ⟨_, rfl⟩
  have D2 : Blk W2 G 33 (kS.v (D.mkK x.k x.p x.a x.n x.t)) := by rw [← hW2]; exact blk_set_ (w := W1.drew) ⟨D1.out⟩
  have k2 : Shp.tn 25 W2 (w.heap.size + 1) = true := by rw [← hW2]; exact (Shp.tn_to (heap_setRow _ _ _ _ (by omega))).trans ((Shp.tn_drew _ _ _).trans k1)
  rw [hW2] at zA
  try rw [hW2]
  clear hW2 D1 N1 k1 z1 zd
  rw [D.mkK_eta] at D2
  have r2 := Shp.rd_blk (S := kS) D2
  have sG := D2.lt
  have sB := Shp.tn_lt k2
  go_wp2_with (go_at_call 13; (with_reducible refine (CR.out _).mono ?_); rintro e w5 ⟨rfl, b5⟩; have r5 := Shp.rd_on r2 b5; have k5 := Shp.tn_on k2 b5; have z5 := below_up zA zA.size b5)
  have hset := Shp.rd_set (S := kS) w5 (w.heap.size + 1) x k5
  have z9 := below_setRow z5 (Nat.le_succ _) (kS.v x)
  exact bodyPost_ret (v := .tuple #[.agg (kS.v x), .int .i64 0]) (by rw [results_cell_tmp rfl]; simp [asAddr, Result.andThen, lvk_of hset]) rfl ⟨by rw [HR.out], z9⟩
set_option maxHeartbeats 4000000 in
theorem kread_no (x : D.Ky) (w : World) (ht : D.right x.t = true) (hk : D.kright x = false) : Calls Tryz.prog 19 #[.agg (kS.v x)] w fun e w' => e = .returned (.tuple #[.agg (kS.v (D.kread x).1), .int .i64 (D.kread x).2]) ∧ Below w.heap.size w w' := by
  have CO := Lib.hid (fun w => (show Calls Tryz.prog 44 #[.agg (nc x.t)] w fun e w' => e = .returned (.tuple #[.agg (nc x.t), .int .i64 0]) ∧ Below w.heap.size w w' from by have := of_any x.t w; unfold D.tof at this; rw [ht] at this; exact this))
  have CR := Lib.hid (fun w => (show Calls Tryz.prog 13 #[.agg (kS.v x)] w fun e w' => e = .returned (.bool false) ∧ Below w.heap.size w w' from by have := keyright_any x w; rwa [hk] at this))
  have HR := Lib.hid (show D.kread x = (D.zK, 3) by unfold D.kread; rw [hk]; rfl)
  clear ht hk
  obtain ⟨W0, hW0⟩ : ∃ W, (w.alloc (.cells (kS.v x) 42)).alloc (.cells z25 33) = W := ⟨_, rfl⟩
  have f0 : kS.rd W0 ⟨w.heap.size, 0, none⟩ = some x := by rw [← hW0]; exact Shp.rd_on (Shp.rd_new (S := kS) w _ _ x rfl) (below_alloc_ _ _)
  have k0 : Shp.tn 25 W0 (w.heap.size + 1) = true := by rw [← hW0]; exact Shp.tn_new _ _ _ _ _ (by simp) rfl
  have z0 : Below w.heap.size w W0 := by rw [← hW0]; exact (below_alloc_ _ _).alloc (by simp) _
  have s0 : w.heap.size + 1 < W0.heap.size := by rw [← hW0]; simp
  unfold z25 at hW0
  obtain ⟨c0, c1, c2, c3, c4⟩ := kf0 f0
  have hbd := fun w => bdk_4t w x x.t
  obtain ⟨y, hy⟩ : ∃ y, D.mkK x.k x.p x.a Nm.D.zero x.t = y := ⟨_, rfl⟩
  rw [hy] at hbd
  have hra := run_arr w.heap.size 15
  go_enter Tryz.func19, Tryz.ntmps19
  go_wp2_with fail
  try rw [hW0]
  clear hW0
  go_wp2_with (go_at_call 44; (with_reducible refine (CO.out _).mono ?_); rintro e w2 ⟨rfl, b2⟩; obtain ⟨d0, d1, d2, d3, d4⟩ := kf0 (Shp.rd_on f0 b2); have q2 : w.heap.size < w2.heap.size := by have := b2.size; omega)
  obtain ⟨W1, hW1⟩ : ∃ W, (w2.alloc (.cells (nc x.t) 27)).alloc (.cells (kS.v y) 33) = W := ⟨_, rfl⟩
  have bA : Below W0.heap.size W0 W1 := by rw [← hW1]; exact (b2.alloc b2.size _).alloc (b2.alloc b2.size _).size _
  have D1 : Blk W1 (w2.heap.size + 1) 33 (kS.v y) := by
    rw [← hW1]
    have := Blk.new (w2.alloc (.cells (nc x.t) 27)) 33 (kS.v y)
    rw [World.size_alloc] at this
    exact this
  have N1 : Nm.rd W1 ⟨w.heap.size, 3, none⟩ = some x.n := Nm.rd_on c3 bA
  have k1 := Shp.tn_on k0 bA
  have z1 := below_up z0 z0.size bA
  have s1 : w.heap.size + 1 < w2.heap.size + 1 := by have := b2.size; omega
  try rw [hW1]
  clear hW1
  obtain ⟨G, hG⟩ : ∃ G, w2.heap.size + 1 = G := ⟨_, rfl⟩
  rw [hG] at D1 s1
  try rw [hG]
  clear hG b2 c0 c1 c2 c3 c4 d0 d1 d2 d3 d4 k0 z0 f0 bA CO q2
  subst hy
  have zd : Below w.heap.size w W1.drew := z1.drew
  refine wp_region_noPanic ?_
  refine wp_region_held_drew (S := fun W => Below w.heap.size w W) (by kernel_rfl) zd (fun _ => ?_)
  refine takeS 0 (some 22) ?va0 (by kernel_rfl) (by kernel_rfl) (by kernel_rfl) (by kernel_rfl) (fun _ _ _ h => h) (by rfl) ?hya0 zd ?resta0
  case hya0 => (intro o ho W hW; simp only [List.getElem?_toArray, List.getElem?_cons_succ, List.getElem?_cons_zero, Option.some.injEq] at ho; subst ho; (try dsimp only at hW); skip; go_simp; try rfl)
  try simp only [Act.put, List.setIfInBounds_toArray, List.set_cons_zero, List.set_cons_succ]
  refine takeS 1 (some 23) (.slice (some ⟨G, 3, none⟩) 12 12) (by kernel_rfl) (by kernel_rfl) (by kernel_rfl) (by kernel_rfl) (fun _ _ _ h => h) (by rfl) ?hya1 zd ?resta1
  case hya1 => (intro o ho W hW; simp only [List.getElem?_toArray, List.getElem?_cons_succ, List.getElem?_cons_zero, Option.some.injEq] at ho; subst ho; (try dsimp only at hW); skip; go_simp; try rfl)
  try simp only [Act.put, List.setIfInBounds_toArray, List.set_cons_zero, List.set_cons_succ]
  refine takeS 2 (some 24) (.slice (some ⟨w.heap.size, 3, none⟩) 12 22) (by kernel_rfl) (by kernel_rfl) (by kernel_rfl) (by kernel_rfl) (fun _ _ _ h => h) (by rfl) ?hya2 zd ?resta2
  case hya2 => (intro o ho W hW; simp only [List.getElem?_toArray, List.getElem?_cons_succ, List.getElem?_cons_zero, Option.some.injEq] at ho; subst ho; (try dsimp only at hW); skip; go_simp; try rfl)
  try simp only [Act.put, List.setIfInBounds_toArray, List.set_cons_zero, List.set_cons_succ]
  refine nextS 3 (by kernel_rfl) (by rfl) (fun o ho K hK => ?_)
  simp only [List.getElem?_toArray, List.getElem?_cons_succ, List.getElem?_cons_zero, Option.some.injEq] at ho; subst ho
  go_simp
  have hrun := run_cpn W1.drew G 33 3 w.heap.size 3 x.k x.p x.a Nm.D.zero x.n x.t 12 22 ⟨D1.out⟩ ((Nm.rd_drew _ _).trans N1)
  rw [hrun]
  go_simp
  have zA : Below w.heap.size w (W1.drew.setRow G (kS.v (D.mkK x.k x.p x.a x.n x.t))) := below_setRow zd (by omega) _
  refine hK.out _ _ zA (fun _ => ?_)
  clear hK K
  try simp only [Act.put, List.setIfInBounds_toArray, List.set_cons_zero, List.set_cons_succ]
  refine wpAnyH_done (by kernel_rfl) ?_ _
  refine NoPanic.normal ?_
  obtain ⟨W2, hW2⟩ : ∃ W, W1.drew.setRow G (kS.v (D.mkK x.k x.p x.a x.n x.t)) = W := ⟨_, rfl⟩
  have D2 : Blk W2 G 33 (kS.v (D.mkK x.k x.p x.a x.n x.t)) := by rw [← hW2]; exact blk_set_ (w := W1.drew) ⟨D1.out⟩
  have k2 : Shp.tn 25 W2 (w.heap.size + 1) = true := by rw [← hW2]; exact (Shp.tn_to (heap_setRow _ _ _ _ (by omega))).trans ((Shp.tn_drew _ _ _).trans k1)
  rw [hW2] at zA
  try rw [hW2]
  clear hW2 D1 N1 k1 z1 zd
  rw [D.mkK_eta] at D2
  have r2 := Shp.rd_blk (S := kS) D2
  have sG := D2.lt
  have sB := Shp.tn_lt k2
  go_wp2_with (go_at_call 13; (with_reducible refine (CR.out _).mono ?_); rintro e w5 ⟨rfl, b5⟩; have r5 := Shp.rd_on r2 b5; have k5 := Shp.tn_on k2 b5; have z5 := below_up zA zA.size b5)
  have hset := Shp.rd_set (S := kS) w5 (w.heap.size + 1) D.zK k5
  have z9 := below_setRow z5 (Nat.le_succ _) (kS.v D.zK)
  exact bodyPost_ret (v := .tuple #[.agg (kS.v D.zK), .int .i64 3]) (by rw [results_cell_tmp rfl]; simp [asAddr, Result.andThen, lvk_of hset]) rfl ⟨by rw [HR.out], z9⟩
set_option maxHeartbeats 4000000 in
theorem kread_bad (x : D.Ky) (w : World) (ht : D.right x.t = false) : Calls Tryz.prog 19 #[.agg (kS.v x)] w fun e w' => e = .returned (.tuple #[.agg (kS.v (D.kread x).1), .int .i64 (D.kread x).2]) ∧ Below w.heap.size w w' := by
  have CO := Lib.hid (fun w => (show Calls Tryz.prog 44 #[.agg (nc x.t)] w fun e w' => e = .returned (.tuple #[.agg (nc D.zero), .int .i64 14]) ∧ Below w.heap.size w w' from by have := of_any x.t w; unfold D.tof at this; rw [ht] at this; exact this))
  have HR := Lib.hid (show D.kread x = (D.zK, 3) by unfold D.kread; rw [kright_tag ht]; rfl)
  clear ht
  obtain ⟨W0, hW0⟩ : ∃ W, (w.alloc (.cells (kS.v x) 42)).alloc (.cells z25 33) = W := ⟨_, rfl⟩
  have f0 : kS.rd W0 ⟨w.heap.size, 0, none⟩ = some x := by rw [← hW0]; exact Shp.rd_on (Shp.rd_new (S := kS) w _ _ x rfl) (below_alloc_ _ _)
  have k0 : Shp.tn 25 W0 (w.heap.size + 1) = true := by rw [← hW0]; exact Shp.tn_new _ _ _ _ _ (by simp) rfl
  have z0 : Below w.heap.size w W0 := by rw [← hW0]; exact (below_alloc_ _ _).alloc (by simp) _
  have s0 : w.heap.size + 1 < W0.heap.size := by rw [← hW0]; simp
  unfold z25 at hW0
  obtain ⟨c0, c1, c2, c3, c4⟩ := kf0 f0
  have hbd := fun w => bdk_4t w x D.zero
  obtain ⟨y, hy⟩ : ∃ y, D.mkK x.k x.p x.a Nm.D.zero D.zero = y := ⟨_, rfl⟩
  rw [hy] at hbd
  have hra := run_arr w.heap.size 15
  go_enter Tryz.func19, Tryz.ntmps19
  go_wp2_with fail
  try rw [hW0]
  clear hW0
  go_wp2_with (go_at_call 44; (with_reducible refine (CO.out _).mono ?_); rintro e w2 ⟨rfl, b2⟩; obtain ⟨d0, d1, d2, d3, d4⟩ := kf0 (Shp.rd_on f0 b2); have q2 : w.heap.size < w2.heap.size := by have := b2.size; omega)
  obtain ⟨W1, hW1⟩ : ∃ W, (w2.alloc (.cells (nc D.zero) 27)).alloc (.cells (kS.v y) 33) = W := ⟨_, rfl⟩
  have bA : Below W0.heap.size W0 W1 := by rw [← hW1]; exact (b2.alloc b2.size _).alloc (b2.alloc b2.size _).size _
  have D1 : Blk W1 (w2.heap.size + 1) 33 (kS.v y) := by
    rw [← hW1]
    have := Blk.new (w2.alloc (.cells (nc D.zero) 27)) 33 (kS.v y)
    rw [World.size_alloc] at this
    exact this
  have N1 : Nm.rd W1 ⟨w.heap.size, 3, none⟩ = some x.n := Nm.rd_on c3 bA
  have k1 := Shp.tn_on k0 bA
  have z1 := below_up z0 z0.size bA
  have s1 : w.heap.size + 1 < w2.heap.size + 1 := by have := b2.size; omega
  try rw [hW1]
  clear hW1
  obtain ⟨G, hG⟩ : ∃ G, w2.heap.size + 1 = G := ⟨_, rfl⟩
  rw [hG] at D1 s1
  try rw [hG]
  clear hG b2 c0 c1 c2 c3 c4 d0 d1 d2 d3 d4 k0 z0 f0 bA CO q2
  subst hy
  have zd : Below w.heap.size w W1.drew := z1.drew
  refine wp_region_noPanic ?_
  refine wp_region_held_drew (S := fun W => Below w.heap.size w W) (by kernel_rfl) zd (fun _ => ?_)
  refine takeS 0 (some 22) ?va0 (by kernel_rfl) (by kernel_rfl) (by kernel_rfl) (by kernel_rfl) (fun _ _ _ h => h) (by rfl) ?hya0 zd ?resta0
  case hya0 => (intro o ho W hW; simp only [List.getElem?_toArray, List.getElem?_cons_succ, List.getElem?_cons_zero, Option.some.injEq] at ho; subst ho; (try dsimp only at hW); skip; go_simp; try rfl)
  try simp only [Act.put, List.setIfInBounds_toArray, List.set_cons_zero, List.set_cons_succ]
  refine takeS 1 (some 23) (.slice (some ⟨G, 3, none⟩) 12 12) (by kernel_rfl) (by kernel_rfl) (by kernel_rfl) (by kernel_rfl) (fun _ _ _ h => h) (by rfl) ?hya1 zd ?resta1
  case hya1 => (intro o ho W hW; simp only [List.getElem?_toArray, List.getElem?_cons_succ, List.getElem?_cons_zero, Option.some.injEq] at ho; subst ho; (try dsimp only at hW); skip; go_simp; try rfl)
  try simp only [Act.put, List.setIfInBounds_toArray, List.set_cons_zero, List.set_cons_succ]
  refine takeS 2 (some 24) (.slice (some ⟨w.heap.size, 3, none⟩) 12 22) (by kernel_rfl) (by kernel_rfl) (by kernel_rfl) (by kernel_rfl) (fun _ _ _ h => h) (by rfl) ?hya2 zd ?resta2
  case hya2 => (intro o ho W hW; simp only [List.getElem?_toArray, List.getElem?_cons_succ, List.getElem?_cons_zero, Option.some.injEq] at ho; subst ho; (try dsimp only at hW); skip; go_simp; try rfl)
  try simp only [Act.put, List.setIfInBounds_toArray, List.set_cons_zero, List.set_cons_succ]
  refine nextS 3 (by kernel_rfl) (by rfl) (fun o ho K hK => ?_)
  simp only [List.getElem?_toArray, List.getElem?_cons_succ, List.getElem?_cons_zero, Option.some.injEq] at ho; subst ho
  go_simp
  have hrun := run_cpn W1.drew G 33 3 w.heap.size 3 x.k x.p x.a Nm.D.zero x.n D.zero 12 22 ⟨D1.out⟩ ((Nm.rd_drew _ _).trans N1)
  rw [hrun]
  go_simp
  have zA : Below w.heap.size w (W1.drew.setRow G (kS.v (D.mkK x.k x.p x.a x.n D.zero))) := below_setRow zd (by omega) _
  refine hK.out _ _ zA (fun _ => ?_)
  clear hK K
  try simp only [Act.put, List.setIfInBounds_toArray, List.set_cons_zero, List.set_cons_succ]
  refine wpAnyH_done (by kernel_rfl) ?_ _
  refine NoPanic.normal ?_
  obtain ⟨W2, hW2⟩ : ∃ W, W1.drew.setRow G (kS.v (D.mkK x.k x.p x.a x.n D.zero)) = W := ⟨_, rfl⟩
  have D2 : Blk W2 G 33 (kS.v (D.mkK x.k x.p x.a x.n D.zero)) := by rw [← hW2]; exact blk_set_ (w := W1.drew) ⟨D1.out⟩
  have k2 : Shp.tn 25 W2 (w.heap.size + 1) = true := by rw [← hW2]; exact (Shp.tn_to (heap_setRow _ _ _ _ (by omega))).trans ((Shp.tn_drew _ _ _).trans k1)
  rw [hW2] at zA
  try rw [hW2]
  clear hW2 D1 N1 k1 z1 zd
  have sB := Shp.tn_lt k2
  go_wp2
  have hset := Shp.rd_set (S := kS) W2 (w.heap.size + 1) D.zK k2
  have z9 := below_setRow zA (Nat.le_succ _) (kS.v D.zK)
  exact bodyPost_ret (v := .tuple #[.agg (kS.v D.zK), .int .i64 3]) (by rw [results_cell_tmp rfl]; simp [asAddr, Result.andThen, lvk_of hset]) rfl ⟨by rw [HR.out], z9⟩
theorem kread_any (x : D.Ky) (w : World) : Calls Tryz.prog 19 #[.agg (kS.v x)] w fun e w' => e = .returned (.tuple #[.agg (kS.v (D.kread x).1), .int .i64 (D.kread x).2]) ∧ Below w.heap.size w w' := by
  cases ht : D.right x.t with
  | true => cases hk : D.kright x with
    | true => exact kread_ok x w ht hk
    | false => exact kread_no x w ht hk
  | false => exact kread_bad x w ht
/-- How far the document's Read has come. -/
structure RD (w w' : World) (x : D.Ky) (cs : Array Value) : Prop where
  r : kS.rd w' ⟨w.heap.size, 0, none⟩ = some x
  k : Shp.tn 25 w' (w.heap.size + 1) = true
  b : Blk w' (w.heap.size + 2) 30 cs
  z : Below w.heap.size w w'
theorem RD.put {w w' : World} {x : D.Ky} {cs : Array Value} (h : RD w w' x cs) (i : Nat) (v : Value) : RD w (w'.setCell ⟨w.heap.size + 2, i, none⟩ v) x (cs.setIfInBounds i v) :=
  ⟨(Shp.rd_setCell _ _ _ _ (by show w.heap.size ≠ w.heap.size + 2; omega)).trans h.r, (Shp.tn_to (Below.heap_setCell _ _ _ _ (by show w.heap.size + 1 ≠ w.heap.size + 2; omega))).trans h.k, h.b.put i v, h.z.setCell (by show w.heap.size ≤ w.heap.size + 2; omega) v⟩
set_option maxHeartbeats 16000000 in
theorem rread_any (x : D.Ky) (w : World) : Calls Tryz.prog 20 #[.agg (kS.v x)] w fun e w' => e = .returned (.agg (rS.v (D.toR x))) ∧ Below w.heap.size w w' := by
  obtain ⟨W0, hW0⟩ : ∃ W, (w.alloc (.cells (kS.v x) 42)).alloc (.cells zr25 30) = W := ⟨_, rfl⟩
  have f0 : kS.rd W0 ⟨w.heap.size, 0, none⟩ = some x := by rw [← hW0]; exact Shp.rd_on (Shp.rd_new (S := kS) w _ _ x rfl) (below_alloc_ _ _)
  have k0 : Shp.tn 25 W0 (w.heap.size + 1) = true := by rw [← hW0]; exact Shp.tn_new _ _ _ _ _ (by simp) rfl
  have z0 : Below w.heap.size w W0 := by rw [← hW0]; exact (below_alloc_ _ _).alloc (by simp) _
  have e0 : W0.heap.size = w.heap.size + 2 := by rw [← hW0]; simp
  unfold zr25 at hW0
  obtain ⟨c0, c1, c2, c3, c4⟩ := kf0 f0
  have l0 : (x.k : Int) < 256 := by have := x.k_lt; omega
  have l1 : (x.p : Int) < 256 := by have := x.p_lt; omega
  have l2 : (x.a : Int) < 256 := by have := x.a_lt; omega
  have R0 : RD w (W0.alloc (.cells (rq x 0 0) 30)) x (rq x 0 0) := by
    have B := Blk.new W0 30 (rq x 0 0)
    rw [e0] at B
    exact ⟨Shp.rd_on f0 (below_alloc_ _ _), Shp.tn_on k0 (below_alloc_ _ _), B, z0.alloc z0.size _⟩
  have hst := fun (ty : TypeId) (cs : Array Value) (hs : cs.size = 25) => run_strkq (W0.alloc (.cells cs ty)) W0.heap.size x (Shp.tn_new 25 W0 _ ty cs rfl hs)
  have hst0 := hst 30 zr25 rfl
  rw [setRow_alloc _ _ _ _ _ rfl] at hst0
  unfold zr25 at hst0
  rw [e0] at hst0
  clear hst
  go_enter Tryz.func20, Tryz.ntmps20
  go_wp2
  go_loopw [4] (fun i wr => ∃ k : Nat, k ≤ 12 ∧ i = .int .i64 k ∧ RD w wr x (rq x k 0)) (fun i _ => 12 - (intOf i).toNat)
  case atStart => exact ⟨0, Nat.zero_le _, rfl, R0⟩
  case round =>
    obtain ⟨k, hk, rfl, R⟩ := hrel
    clear R0 hst0 c0 c1 c2 c3 c4 l0 l1 l2 f0 k0 z0
    by_cases hlt : k < 12
    · obtain ⟨b, hb⟩ : ∃ b, x.n.l[k]? = some b := ⟨_, List.getElem?_eq_getElem (by rw [x.n.len]; exact hlt)⟩
      have hc := kname_cell R.r (j := k) (b := b) hb
      have hcs : ∃ v, wr.cell? ⟨w.heap.size + 2, 3 + k, none⟩ = some v := by
        rw [R.b.c]
        exact ⟨_, Array.getElem?_eq_getElem (by rw [rq_size]; omega)⟩
      obtain ⟨v0, hc0⟩ := hcs
      have hf := R.b.f (3 + k)
      have hn := R.put (3 + k) (.int .u8 b)
      rw [rq_next1 hb hlt] at hn
      clear R hb
      obtain rfl | rfl | rfl | rfl | rfl | rfl | rfl | rfl | rfl | rfl | rfl | rfl : k = 0 ∨ k = 1 ∨ k = 2 ∨ k = 3 ∨ k = 4 ∨ k = 5 ∨ k = 6 ∨ k = 7 ∨ k = 8 ∨ k = 9 ∨ k = 10 ∨ k = 11 := by omega
      all_goals
        simp only [Nat.reduceAdd] at hc hc0 hf hn
        go_wp2
        go_roundw
        case rel => exact ⟨_, by decide, rfl, hn⟩
        case measure => simp [intOf]
    · obtain rfl : k = 12 := by omega
      clear hlt hk
      go_wp2
      go_loopw [5] (fun i wr => ∃ k : Nat, k ≤ 10 ∧ i = .int .i64 k ∧ RD w wr x (rq x 12 k)) (fun i _ => 10 - (intOf i).toNat)
      case atStart => exact ⟨0, Nat.zero_le _, rfl, R⟩
      case round =>
        obtain ⟨k, hk, rfl, R⟩ := hrel
        by_cases hlt : k < 10
        · obtain ⟨b, hb⟩ : ∃ b, x.t.l[k]? = some b := ⟨_, List.getElem?_eq_getElem (by rw [x.t.len]; exact hlt)⟩
          have hc := key_cell R.r (j := k) (b := b) hb
          have hcs : ∃ v, wr.cell? ⟨w.heap.size + 2, 15 + k, none⟩ = some v := by
            rw [R.b.c]
            exact ⟨_, Array.getElem?_eq_getElem (by rw [rq_size]; omega)⟩
          obtain ⟨v0, hc0⟩ := hcs
          have hf := R.b.f (15 + k)
          have hn := R.put (15 + k) (.int .u8 b)
          rw [rq_next2 hb hlt] at hn
          clear R hb
          obtain rfl | rfl | rfl | rfl | rfl | rfl | rfl | rfl | rfl | rfl : k = 0 ∨ k = 1 ∨ k = 2 ∨ k = 3 ∨ k = 4 ∨ k = 5 ∨ k = 6 ∨ k = 7 ∨ k = 8 ∨ k = 9 := by omega
          all_goals
            simp only [Nat.reduceAdd] at hc hc0 hf hn
            go_wp2
            go_roundw
            case rel => exact ⟨_, by decide, rfl, hn⟩
            case measure => simp [intOf]
        · obtain rfl : k = 10 := by omega
          have D3 := R.b
          rw [rq_end] at D3
          have r3 := Shp.rd_blk (S := rS) D3
          have hset := Shp.rd_set (S := rS) wr (w.heap.size + 1) (D.toR x) R.k
          have z9 := below_setRow R.z (Nat.le_succ _) (rS.v (D.toR x))
          have tk := R.k
          clear R D3
          go_wp2
          exact bodyPost_ret (v := .agg (rS.v (D.toR x))) (by rw [Nm.results_cell1 rfl]; simp [asAddr, Result.andThen, lvr_of hset]) rfl ⟨rfl, z9⟩
end Go.Proofs.YtjblepjkejihcaaGreatDoor
