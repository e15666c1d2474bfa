/-
  A chain's calls that only read; what is wrong with a version.
-/
import Derived.Test.YtcnbdfobhablbaaCha
import Derived.Laws.ResultCell
set_option linter.unusedVariables false
set_option linter.unusedSimpArgs false
set_option maxRecDepth 100000
namespace Go.Proofs.Ytcnbdfobhablbaa
open Go.RowKit
theorem vv_0 (x : D.Vn) : (vS.v x)[0]? = some (.int .u64 (x.a : Nat)) := rfl
theorem vv_1 (x : D.Vn) : (vS.v x)[1]? = some (.bool x.d) := rfl
theorem wv_0 (x : D.Vn) : (wS.v x)[0]? = some (.int .u64 (x.a : Nat)) := rfl
theorem wv_1 (x : D.Vn) : (wS.v x)[1]? = some (.bool x.d) := rfl
theorem run_fdv0 (w : World) (x : D.Vn) : (Instr.field 32 (.agg (vS.v x)) 0).run Try.prog w = .ok (.int .u64 (x.a : Nat)) w := by
  simp [vv_eq, Instr.field, asAgg, go_sem]
theorem run_fdv1 (w : World) (x : D.Vn) : (Instr.field 32 (.agg (vS.v x)) 1).run Try.prog w = .ok (.bool x.d) w := by
  simp [vv_eq, Instr.field, asAgg, go_sem]
attribute [local go_sem ↓] Go.wp_at_zero Go.wp_at_succ ld_v lv_v st_v ne_v bd_v bs_v ld_w lv_w st_w ne_w bd_w bs_w ld_r ld_d lv_r lv_d st_r st_d ne_r eq_r ne_d bd_r bd_d
attribute [local go_sem] run_ldv run_lvv run_stv run_nev run_bdv_z run_bdv_d run_bdv_r run_bsv1 run_bsv0 run_ldw run_lvw run_stw run_new run_bdw_3 run_bsw1 run_bsw0 run_ldr run_ldd run_lvr run_lvd run_str run_std run_ner run_eqr run_ned run_bdr0 run_bdd0 run_bdr1 run_bdd1 run_bdd9 Shp.rd_new Shp.rd_old Shp.rd_drew Shp.rd_drewN Shp.rd_set Shp.tn_new Shp.tn_old Shp.tn_drew Shp.tn_drewN setRow_alloc vv_0 vv_1 wv_0 wv_1 run_fdv0 run_fdv1 Shp.rd_extk cell_ext
def D.liv (l : List D.Vn) : Bool := match l.getLast? with
  | none => false
  | some v => !v.d
theorem D.liv_seen {l : List D.Vn} (h : D.Srt l) {t : Nat} (ht : D.nwt l ≤ t) : (!(D.seen l t).d) = D.liv l := by
  rw [D.seen_late h ht, D.liv]
  cases l.getLast? <;> rfl
theorem D.nwt_top {l : List D.Vn} (h : ∀ v ∈ l, v.wf) : D.nwt l ≤ 18446744073709551615 := by
  rw [D.nwt]
  cases hl : l.getLast? with
  | none => exact Nat.zero_le _
  | some v => have := (h v (List.mem_of_getLast? hl)).a; simp only; omega
section
variable {w : World} {p A : Option Addr} {n c : Nat} {l : List D.Vn}
theorem seen_top (h : Al w p A n c l) : Calls Try.prog 30 #[.pointer p, .int .u64 18446744073709551615] w fun e w' => e = .returned (.agg (vS.v (D.seen l 18446744073709551615))) ∧ Below w.heap.size w w' := seen_any h 18446744073709551615
theorem newest_any (h : Al w p A n c l) (hw : ∀ v ∈ l, v.wf) : Calls Try.prog 20 #[.pointer p] w fun e w' => e = .returned (.int .u64 (D.nwt l : Nat)) ∧ Below w.heap.size w w' := by
  have CS := Lib.hid (seen_top h)
  have HE := Lib.hid (D.nwt_seen h.srt (D.nwt_top hw))
  clear h
  go_enter Try.func20, Try.ntmps20
  go_wp2_with (go_at_call 30; (with_reducible refine CS.out.mono ?_); rintro e w1 ⟨rfl, b1⟩)
  go_ret
  exact ⟨by rw [← HE.out]; rfl, b1⟩
theorem live_any (h : Al w p A n c l) (hw : ∀ v ∈ l, v.wf) : Calls Try.prog 21 #[.pointer p] w fun e w' => e = .returned (.bool (D.liv l)) ∧ Below w.heap.size w w' := by
  have CS := Lib.hid (seen_top h)
  have HE := Lib.hid (D.liv_seen h.srt (D.nwt_top hw))
  clear h
  go_enter Try.func21, Try.ntmps21
  go_wp2_with (go_at_call 30; (with_reducible refine CS.out.mono ?_); rintro e w1 ⟨rfl, b1⟩)
  go_ret
  exact ⟨by rw [← HE.out]; rfl, b1⟩
theorem len_any (h : Al w p A n c l) : Calls Try.prog 22 #[.pointer p] w fun e w' => e = .returned (.int .i64 (n : Nat)) ∧ Below w.heap.size w w' := by
  have CA := Lib.hid (h.all w (Below.refl _ _))
  clear h
  go_enter Try.func22, Try.ntmps22
  go_wp2_with (go_at_call 31; (with_reducible refine CA.out.mono ?_); rintro e w1 ⟨rfl, rfl⟩)
  go_ret
  exact ⟨rfl, Below.refl _ _⟩
theorem ver_info : (Try.prog.info? 32).map (fun i => (i.zero, i.size, i.bytes)) = some (some (.agg (vS.v D.zVn)), 11, 56) := by kernel_rfl
theorem dver_info : (Try.prog.info? 44).map (fun i => (i.zero, i.size, i.bytes)) = some (some (.agg (wS.v D.zVn)), 11, 96) := by kernel_rfl
/-- A slice of versions that a call handed back: its own, or nil. -/
def VMade (w : World) (l : List D.Vn) (e : Ending) (w' : World) : Prop := ∃ B d, e = .returned (.slice B l.length d) ∧ Ow 32 11 w.heap.size w' B l.length d (vS.rcs l) ∧ Below w.heap.size w w'
theorem ow_vrow {T : TypeId} {base n c : Nat} {A : Option Addr} {W : World} (h : Ow T 11 base W A n c (vS.rcs l)) : Shp.Row vS W A n l := Shp.Own.to_row (S := vS) (base := base) (e := T) (c := c) ⟨h.row, h.base⟩
theorem ow_wrow {T : TypeId} {base n c : Nat} {A : Option Addr} {W : World} (h : Ow T 11 base W A n c (wS.rcs l)) : Shp.Row wS W A n l := Shp.Own.to_row (S := wS) (base := base) (e := T) (c := c) ⟨h.row, h.base⟩
theorem row_rw {α : Type} {S : Shp α} {W : World} {B : Option Addr} {m : Nat} {k : List α} (hr : Shp.Row S W B m k) (h : ∀ {l : List α} {j : Nat} {u : Value}, (S.rcs l)[j]? = some u → ∃ (i q : Nat) (r : α), j = i * S.n + q ∧ l[i]? = some r ∧ (S.cs r)[q]? = some u) : Rw S.n W B m (S.rcs k) :=
  ⟨by rw [S.rcs_len, hr.len], fun hm => by
    obtain ⟨ad, e, hl, hc⟩ := hr.to hm
    refine ⟨ad, e, hl, fun j u hu => ?_⟩
    obtain ⟨i, q, r, rfl, h1, h2⟩ := h hu
    have := hc i r h1 q u h2
    rwa [add_of_add] at this⟩
theorem rcs_bk {α : Type} (S : Shp α) : ∀ {l : List α} {j : Nat} {u : Value}, (S.rcs l)[j]? = some u → ∃ (i q : Nat) (r : α), j = i * S.n + q ∧ l[i]? = some r ∧ (S.cs r)[q]? = some u
  | [], j, u, h => by simp [Shp.rcs] at h
  | y :: l, j, u, h => by
    rw [Shp.rcs_cons] at h
    have hl := S.len y
    by_cases hj : j < S.n
    · rw [List.getElem?_append_left (by omega)] at h
      exact ⟨0, j, y, by omega, rfl, h⟩
    · rw [List.getElem?_append_right (by omega), hl] at h
      obtain ⟨i, k, r, e, h1, h2⟩ := rcs_bk S h
      exact ⟨i + 1, k, r, by rw [Nat.add_mul, Nat.one_mul]; omega, by simpa using h1, h2⟩
theorem vrw {W : World} {B : Option Addr} {m : Nat} {k : List D.Vn} (hr : Shp.Row vS W B m k) : Rw 11 W B m (vS.rcs k) := row_rw hr (rcs_bk vS)
theorem wrw {W : World} {B : Option Addr} {m : Nat} {k : List D.Vn} (hr : Shp.Row wS W B m k) : Rw 11 W B m (wS.rcs k) := row_rw hr (rcs_bk wS)
set_option maxHeartbeats 1000000 in
theorem clone_any (hr : Shp.Row vS w A n l) (hn : n ≤ 1000000) : Calls Try.prog 32 #[.slice A n c] w (VMade w l) := by
  cases A with
  | none =>
    have h0 : n = 0 := by
      rcases Nat.eq_zero_or_pos n with h0 | h0
      · exact h0
      · obtain ⟨ad, h, _⟩ := hr.to h0
        cases h
    subst h0
    have hl : l = [] := List.eq_nil_of_length_eq_zero hr.len
    subst hl
    have he : ∀ W : World, (binOp .eql 24 (.slice none 0 c) (.slice none 0 0)).run Try.prog W = .ok (.bool true) W := fun _ => rfl
    go_enter Try.func32, Try.ntmps32
    go_wp2
    go_ret
    exact ⟨none, 0, rfl, Ow.nil _ 11 (Nat.le_refl _), Below.refl _ _⟩
  | some ad =>
    have HO : Ow 32 11 w.heap.size (w.alloc (.cells #[] 32)) (some ⟨w.heap.size, 0, none⟩) 0 0 [] := ⟨World.ownsRow_lit w #[] 0 (Nat.le_refl _) (by simp [maxLen]) rfl, by simp⟩
    have he : ∀ W : World, (binOp .eql 24 (.slice (some ad) n c) (.slice none 0 0)).run Try.prog W = .ok (.bool false) W := fun _ => rfl
    have hrw := (vrw hr).alloc (.cells #[] 32)
    have hl := hr.len
    go_enter Try.func32, Try.ntmps32
    go_wp2_with (at_builtin; refine gapp _ Try.underlying24 ver_info rfl (by decide) (by decide) rfl (.tmp 5) (.tmp 6) rfl rfl HO rfl hrw (vS.rcs_one l) (by omega) ?_; intro A1 c1 w1 ho1 hg1 hat1; rw [Nat.zero_add, List.nil_append] at ho1)
    go_ret
    subst hl
    exact ⟨A1, c1, by simp, ho1, ((Below.refl _ _).alloc (Nat.le_refl _) _).grown hg1 (by simp) fun k hk => by simp [Value.ownBlock] at hk; omega⟩
theorem list_any (h : Al w p A n c l) : Calls Try.prog 23 #[.pointer p] w (VMade w l) := by
  have CA := Lib.hid (h.all w (Below.refl _ _))
  have CC := Lib.hid (clone_any (c := c) h.row h.le)
  clear h
  go_enter Try.func23, Try.ntmps23
  go_wp2_with (first
    | (go_at_call 31; (with_reducible refine CA.out.mono ?_); rintro e w1 ⟨rfl, rfl⟩)
    | (go_at_call 32; (with_reducible refine CC.out.mono ?_); rintro e w2 ⟨B, d, rfl, ho, hb⟩))
  go_ret
  exact ⟨B, d, rfl, ho, hb⟩
end
set_option maxHeartbeats 2000000 in
theorem weigh_any (v : D.Vn) (w : World) (hw : v.wf) : Calls Try.prog 29 #[.agg (vS.v v)] w fun e w' => e = .returned (.int .i64 (D.wgh v : Nat)) ∧ Below w.heap.size w w' := by
  have q0 := Shp.rd_new (S := vS) w w.heap.size 32 v rfl
  obtain ⟨q1, q2, q3, -⟩ := vf q0
  have b0 := below_alloc_ w (.cells (vS.v v) 32)
  by_cases hd : v.d = true
  · by_cases hr : v.r = D.zRc
    · have e : D.wgh v = 0 := by simp [D.wgh, hd, hr]
      have hv : v = D.dd v.a := by obtain ⟨a, d, r⟩ := v; simp only at hd hr; subst hd hr; rfl
      have hde : decide (v = D.dd v.a) = true := decide_eq_true hv
      rw [e]
      rw [hd] at q2
      clear hv
      go_enter Try.func29, Try.ntmps29
      go_wp2
      go_ret
      exact ⟨rfl, b0⟩
    · have e : D.wgh v = 3 := by simp [D.wgh, hd, hr]
      have hde : decide (v = D.dd v.a) = false := decide_eq_false fun h => hr (by rw [h]; rfl)
      rw [e]
      rw [hd] at q2
      go_enter Try.func29, Try.ntmps29
      go_wp2
      go_ret
      exact ⟨rfl, b0⟩
  · have e : D.wgh v = D.chk v.r := by simp [D.wgh, hd]
    have hd : v.d = false := by simpa using hd
    have CC := Lib.hid (fun W => check_any v.r W hw.r)
    rw [e]
    rw [hd] at q2
    go_enter Try.func29, Try.ntmps29
    go_wp2_with (go_at_call 40; (with_reducible refine (CC.out _).mono ?_); rintro e w1 ⟨rfl, b1⟩)
    go_ret
    exact ⟨rfl, below_up b0 b0.size b1⟩
set_option maxHeartbeats 2000000 in
theorem at_any {w : World} {p A : Option Addr} {n c : Nat} {l : List D.Vn} (h : Al w p A n c l) (t : Nat) : Calls Try.prog 14 #[.pointer p, .int .u64 (t : Nat)] w fun e w' => e = .returned (.tuple #[.agg (rS.v (D.seen l t).r), .bool (!(D.seen l t).d)]) ∧ Below w.heap.size w w' := by
  have z0 := below_alloc_ w (.cells #[.int .u8 0, .int .u8 0, .int .u8 0, .int .u8 0, .int .u8 0, .bool false, .int .u32 0, .int .u64 0, .string ⟨#[]⟩] 30)
  have f0 : Shp.tn 9 (w.alloc (.cells #[.int .u8 0, .int .u8 0, .int .u8 0, .int .u8 0, .int .u8 0, .bool false, .int .u32 0, .int .u64 0, .string ⟨#[]⟩] 30)) w.heap.size = true := Shp.tn_new _ _ _ _ _ rfl rfl
  have CS := Lib.hid (seen_any (h.on z0) t)
  clear h
  go_enter Try.func14, Try.ntmps14
  go_wp2_with (go_at_call 30; (with_reducible refine CS.out.mono ?_); rintro e w1 ⟨rfl, b1⟩)
  have f1 := Shp.tn_on f0 b1
  have hne : w.heap.size < w1.heap.size := by have := b1.size; simp at this; omega
  obtain ⟨W2, hW2⟩ : ∃ W2, w1.alloc (.cells (vS.v (D.seen l t)) 32) = W2 := ⟨_, rfl⟩
  have b2 : Below w1.heap.size w1 W2 := by rw [← hW2]; exact below_alloc_ _ _
  have r2 : vS.rd W2 ⟨w1.heap.size, 0, none⟩ = some (D.seen l t) := by rw [← hW2]; exact Shp.rd_new _ _ _ _ rfl
  obtain ⟨-, q1, q2, -⟩ := vf r2
  have f2 := Shp.tn_on f1 b2
  have hZ := Lib.hid (below_up (below_up z0 z0.size b1) (below_up z0 z0.size b1).size b2)
  rw [hW2]
  clear f0 f1 z0 b1 b2 r2 hW2
  have q3 : rS.rd W2.drew ⟨w1.heap.size, 2, none⟩ = some (D.seen l t).r := (Shp.rd_drew _ _).trans q2
  have q4 : W2.drew.cell? ⟨w1.heap.size, 1, none⟩ = some (.bool (D.seen l t).d) := q1
  have f3 : Shp.tn 9 W2.drew w.heap.size = true := (Shp.tn_drew _ _ _).trans f2
  refine wp_region_noPanic ?_
  refine wp_region_held_drew (S := fun W => rS.rd W ⟨w1.heap.size, 2, none⟩ = some (D.seen l t).r ∧ W.cell? ⟨w1.heap.size, 1, none⟩ = some (.bool (D.seen l t).d)) (by kernel_rfl) ⟨q3, q4⟩ (fun sd => ?_)
  refine takeS 0 (some 10) ?vq0 (by kernel_rfl) (by kernel_rfl) (by kernel_rfl) (by kernel_rfl) (fun _ _ _ h => h) (by rfl) ?hyq0 sd ?restq0
  case hyq0 => (intro o ho W hW; simp only [List.getElem?_toArray, List.getElem?_cons_succ, List.getElem?_cons_zero, Option.some.injEq] at ho; subst ho; (try dsimp only at hW); obtain ⟨k1, k2⟩ := hW; go_simp; try rfl)
  try simp only [Act.put, List.setIfInBounds_toArray, List.set_cons_zero, List.set_cons_succ]
  refine takeS 1 (some 11) (.agg (rS.v (D.seen l t).r)) (by kernel_rfl) (by kernel_rfl) (by kernel_rfl) (by kernel_rfl) (fun _ _ _ h => h) (by rfl) ?hyq1 sd ?restq1
  case hyq1 => (intro o ho W hW; simp only [List.getElem?_toArray, List.getElem?_cons_succ, List.getElem?_cons_zero, Option.some.injEq] at ho; subst ho; (try dsimp only at hW); obtain ⟨k1, k2⟩ := hW; go_simp; try rfl)
  try simp only [Act.put, List.setIfInBounds_toArray, List.set_cons_zero, List.set_cons_succ]
  refine takeS 2 (some 12) ?vq2 (by kernel_rfl) (by kernel_rfl) (by kernel_rfl) (by kernel_rfl) (fun _ _ _ h => h) (by rfl) ?hyq2 sd ?restq2
  case hyq2 => (intro o ho W hW; simp only [List.getElem?_toArray, List.getElem?_cons_succ, List.getElem?_cons_zero, Option.some.injEq] at ho; subst ho; (try dsimp only at hW); obtain ⟨k1, k2⟩ := hW; go_simp; try rfl)
  try simp only [Act.put, List.setIfInBounds_toArray, List.set_cons_zero, List.set_cons_succ]
  refine takeS 3 (some 13) (.bool (D.seen l t).d) (by kernel_rfl) (by kernel_rfl) (by kernel_rfl) (by kernel_rfl) (fun _ _ _ h => h) (by rfl) ?hyq3 sd ?restq3
  case hyq3 => (intro o ho W hW; simp only [List.getElem?_toArray, List.getElem?_cons_succ, List.getElem?_cons_zero, Option.some.injEq] at ho; subst ho; (try dsimp only at hW); obtain ⟨k1, k2⟩ := hW; go_simp; try rfl)
  try simp only [Act.put, List.setIfInBounds_toArray, List.set_cons_zero, List.set_cons_succ]
  refine takeS 4 (some 14) (.bool (!(D.seen l t).d)) (by kernel_rfl) (by kernel_rfl) (by kernel_rfl) (by kernel_rfl) (fun _ _ _ h => h) (by rfl) ?hyq4 sd ?restq4
  case hyq4 => (intro o ho W hW; simp only [List.getElem?_toArray, List.getElem?_cons_succ, List.getElem?_cons_zero, Option.some.injEq] at ho; subst ho; (try dsimp only at hW); obtain ⟨k1, k2⟩ := hW; go_simp; try rfl)
  try simp only [Act.put, List.setIfInBounds_toArray, List.set_cons_zero, List.set_cons_succ]
  refine nextS 5 (by kernel_rfl) (by rfl) (fun o ho K hK => ?_)
  simp only [List.getElem?_toArray, List.getElem?_cons_succ, List.getElem?_cons_zero, Option.some.injEq] at ho; subst ho
  go_simp
  refine hK.out _ _ ⟨(Shp.rd_far _ _ _ _ (by simp only; omega)).trans q3, (World.cell?_of_block (heap_setRow _ _ _ _ (by simp only; omega))).trans q4⟩ (fun _ => ?_)
  clear hK K
  try simp only [Act.put, List.setIfInBounds_toArray, List.set_cons_zero, List.set_cons_succ]
  refine takeS 6 (some 5) ?vq6 (by kernel_rfl) (by kernel_rfl) (by kernel_rfl) (by kernel_rfl) (fun _ _ _ h => h) (by rfl) ?hyq6 (by assumption) ?restq6
  case hyq6 => (intro o ho W hW; simp only [List.getElem?_toArray, List.getElem?_cons_succ, List.getElem?_cons_zero, Option.some.injEq] at ho; subst ho; (try dsimp only at hW); skip; go_simp; try rfl)
  try simp only [Act.put, List.setIfInBounds_toArray, List.set_cons_zero, List.set_cons_succ]
  refine wpAnyH_done (by kernel_rfl) ?_ _
  refine NoPanic.normal ?_
  have r9 : rS.rd (W2.drew.setRow w.heap.size (rS.v (D.seen l t).r)) ⟨w.heap.size, 0, none⟩ = some (D.seen l t).r := Shp.rd_set (S := rS) _ _ _ f3
  go_wp2
  refine bodyPost_ret (v := .tuple #[.agg (rS.v (D.seen l t).r), .bool (!(D.seen l t).d)]) (by rw [results_cell_tmp rfl]; simp [asAddr, Result.andThen, lvr_of r9]) rfl ⟨rfl, bel_setRow hZ.out.drew (Nat.le_refl _) _⟩
end Go.Proofs.Ytcnbdfobhablbaa
