/-
  Rows of entries, cut and appended; the document's Del.
  The document's Put.
  The document's Next.
-/
import Derived.Test.YtkhjnfplcaffnaaDa
import Derived.Test.YtkhjnfplcaffnaaCbr
set_option linter.unusedVariables false
set_option linter.unusedSimpArgs false
set_option maxRecDepth 100000
namespace Go.Proofs.Ytkhjnfplcaffnaa
open Go.RowKit
attribute [local go_sem ↓] Go.wp_at_zero Go.wp_at_succ ld_k lv_k st_k eq_k ne_k bd_k ld_b lv_b st_b eq_b ne_b bd_25 ld_r lv_r st_rk eq_rk ne_rk bd_r ld_p lv_p st_px bd_p Nm.ld_a Nm.ld_n Nm.st_a Nm.st_n Nm.eq_a Nm.eq_n Nm.ne_a Nm.ne_n Nm.lv_a Nm.lv_n ld_a ld_n st_a st_n eq_a eq_n ne_a ne_n lv_a lv_n ld_l lv_l st_l bd_l bd_n bs_l bs_k ld_e lv_e bd_e bs_e ld_ac lv_ac st_ac
attribute [local go_sem] run_ldk run_lvk run_stk run_eqk run_nek run_bdk_z run_ldb run_lvb run_stb run_eqb run_neb run_ldr run_lvr run_strk run_eqrk run_nerk run_bdr_z run_ldp run_lvp run_stpx Nm.run_ld_a Nm.run_ld_n Nm.run_st_n Nm.run_eq_a Nm.run_eq_n Nm.run_ne_a Nm.run_ne_n Nm.run_lv_a Nm.run_lv_n Nm.rd_new Nm.rd_old Nm.rd_drew Nm.rd_drewN run_ld_a run_ld_n run_sw_a run_sw_n run_eq_a run_eq_n run_ne_a run_ne_n run_lv_a run_lv_n st_z ne_z eq_z rd_new rd_old rd_drew rd_drewN Shp.rd_new Shp.rd_old Shp.rd_drew Shp.rd_drewN Shp.rd_set Shp.tn_new Shp.tn_old Shp.tn_drew Shp.tn_drewN tn_new tn_old tn_drew tn_drewN rd_set setRow_alloc run_stn3 run_stt15 run_lvl run_ldl run_stl run_bdl run_bdn run_bdn0 run_bsl run_bsk run_lde run_lve run_bde run_bse run_bse0 run_lda run_lva run_sta
theorem row_rw {α : Type} {S : Shp α} {W : World} {B : Option Addr} {m : Nat} {k : List α} (hr : Shp.Row S W B m k) (h : ∀ {l : List α} {j : Nat} {u : Value}, (S.rcs l)[j]? = some u → ∃ (i q : Nat) (r : α), j = i * S.n + q ∧ l[i]? = some r ∧ (S.cs r)[q]? = some u) : Rw S.n W B m (S.rcs k) :=
  ⟨by rw [S.rcs_len, hr.len], fun hm => by
    obtain ⟨ad, e, hl, hc⟩ := hr.tow hm
    refine ⟨ad, e, hl, fun j u hu => ?_⟩
    obtain ⟨i, q, r, rfl, h1, h2⟩ := h hu
    have := hc i r h1 q u h2
    rwa [add_of_add] at this⟩
theorem rcs_bk {α : Type} (S : Shp α) : ∀ {l : List α} {j : Nat} {u : Value}, (S.rcs l)[j]? = some u → ∃ (i q : Nat) (r : α), j = i * S.n + q ∧ l[i]? = some r ∧ (S.cs r)[q]? = some u
  | [], j, u, h => by simp [Shp.rcs] at h
  | y :: l, j, u, h => by
    rw [Shp.rcs_cons] at h
    have hl := S.len y
    by_cases hj : j < S.n
    · rw [List.getElem?_append_left (by omega)] at h
      exact ⟨0, j, y, by omega, rfl, h⟩
    · rw [List.getElem?_append_right (by omega), hl] at h
      obtain ⟨i, k, r, e, h1, h2⟩ := rcs_bk S h
      exact ⟨i + 1, k, r, by rw [Nat.add_mul, Nat.one_mul]; omega, by simpa using h1, h2⟩
theorem erw {W : World} {B : Option Addr} {m : Nat} {k : List Lf} (hr : Shp.Row eS W B m k) : Rw 26 W B m (eS.rcs k) := row_rw hr (rcs_bk eS)
theorem ow_erow {T : TypeId} {base n c : Nat} {A : Option Addr} {W : World} {l : List Lf} (h : Ow T 26 base W A n c (eS.rcs l)) : Shp.Row eS W A n l := Shp.Own.to_row (S := eS) (base := base) (e := T) (c := c) ⟨h.row, h.base⟩
theorem ent_info : (Try.prog.info? 59).map (fun i => (i.zero, i.size, i.bytes)) = some (some (.agg (eS.v (D.zK, 0))), 26, 56) := by kernel_rfl
theorem ent_under : Try.prog.underlying 33 = some (.slice 59) := by kernel_rfl
theorem efrom_run (A : Option Addr) (n c k : Nat) (z : Int) (hz : z = k) (hk : k ≤ n) : ∃ A1, (∀ W, (Instr.slice 33 (.slice A n c) (some (.int .i64 z)) none none).run Try.prog W = .ok (.slice A1 (n - k) (c - k)) W) ∧
    ∀ W (l : List Lf), Shp.Row eS W A n l → n ≤ c → Shp.Row eS W A1 (n - k) (l.drop k) := by
  subst hz
  refine ⟨if c = k then A else A.map (·.add (k * 26)), fun W => ?_, fun W l h hc => ?_⟩
  · rw [run_slice_l W 33 A n c (by kernel_rfl) .i64 k (by omega) (by omega)]
    simp [Result.andThen, sliced, go_sem]
  · refine ⟨by rw [List.length_drop, h.len], fun hn => ?_⟩
    obtain ⟨ad, e, hl, hcl⟩ := h.tow (by omega)
    rw [if_neg (by omega), e]
    refine ⟨ad.add (k * 26), rfl, by rw [block_of_add]; exact hl, fun i x hx => ?_⟩
    rw [add_of_add]
    have := hcl (k + i) x (by rw [List.getElem?_drop] at hx; exact hx)
    have e2 : k * 26 + i * eS.n = (k + i) * eS.n := by show k * 26 + i * 26 = (k + i) * 26; omega
    rw [e2]
    exact this
theorem eupto_run (A : Option Addr) (n c k : Nat) (hk : k ≤ c) : ∀ W, (Instr.slice 33 (.slice A n c) none (some (.int .i64 (k : Int))) none).run Try.prog W = .ok (.slice A k c) W := by
  intro W
  rw [run_slice_h W 33 A n c (by kernel_rfl) .i64 k (by omega) (by omega)]
  have : ∀ a : Addr, a.add 0 = a := add_zero_
  simp [Result.andThen, sliced, go_sem]
/-- The document's row, in blocks of its own type. -/
structure DE (w : World) (A : Option Addr) (n : Nat) (l : List Lf) : Prop where
  row : Shp.Row eS w A n l
  ty : ∀ ad, A = some ad → 0 < n → ∃ cs, w.heap[ad.block]? = some (Obj.cells cs 59 (0, 0))
theorem DE.nil (w : World) (A : Option Addr) : DE w A 0 [] := ⟨Shp.Row.nil _ _, fun _ _ h => absurd h (by omega)⟩
theorem DE.kept {S : Nat → Prop} {w w' : World} {A : Option Addr} {n : Nat} {l : List Lf} (h : DE w A n l) (hs : w.heap.size ≤ w'.heap.size) (hk : ∀ i, i < w.heap.size → ¬ S i → w'.heap[i]? = w.heap[i]?) (hS : ∀ i, S i → ∀ cs, w.heap[i]? ≠ some (Obj.cells cs 59 (0, 0))) : DE w' A n l := by
  rcases Nat.eq_zero_or_pos n with h0 | h0
  · subst h0
    have : l = [] := List.eq_nil_of_length_eq_zero h.row.len
    subst this
    exact DE.nil _ _
  · have key : ∀ ad, A = some ad → w'.heap[ad.block]? = w.heap[ad.block]? := fun ad e => by
      obtain ⟨cs, hcs⟩ := h.ty ad e h0
      exact hk _ (Array.getElem?_eq_some_iff.1 hcs).1 fun hs => hS _ hs cs hcs
    exact ⟨h.row.kept hs key, fun ad e h1 => by
      obtain ⟨cs, hcs⟩ := h.ty ad e h1
      exact ⟨cs, (key ad e).trans hcs⟩⟩
theorem DE.on {w w' : World} {A : Option Addr} {n : Nat} {l : List Lf} (h : DE w A n l) (hb : Below w.heap.size w w') : DE w' A n l := h.kept (S := fun _ => False) hb.size (fun i hi _ => hb.block i hi) fun _ hf => hf.elim
theorem DE.of {base c : Nat} {w : World} {A : Option Addr} {n : Nat} {l : List Lf} (h : Ow 59 26 base w A n c (eS.rcs l)) : DE w A n l := ⟨ow_erow h, fun ad e _ => by
  subst e
  rcases h.row.2 with ⟨e, _⟩ | ⟨g2, cap, cur, e, _, hh, _⟩
  · cases e
  · injection e with e1 e2 e3
    injection e1 with e1
    subst e1
    exact ⟨_, hh⟩⟩
/-- What the document's Put and Del tell. -/
def DPd (w : World) (l : List Lf) (b : Bool) (e : Ending) (w' : World) : Prop := ∃ A' c', e = .returned (.tuple #[.slice A' l.length c', .bool b]) ∧ l.length ≤ c' ∧ DE w' A' l.length l ∧ Below w.heap.size w w'
set_option maxHeartbeats 4000000 in
theorem rdel_any {w : World} {A : Option Addr} {n c : Nat} {l : List Lf} (hr : DE w A n l) (hnc : n ≤ c) (hU : Cr.Up l) (hn : n ≤ 100000) (k : D.Ky) :
    Calls Try.prog 7 #[.slice A n c, .agg (rS.v (D.toR k))] w (DPd w (Cr.del k l) (Cr.has k l)) := by
  have hlen := hr.row.len
  have q0 := Shp.rd_new (S := rS) w w.heap.size 40 (D.toR k) rfl
  have b0 := below_alloc_ w (.cells (rS.v (D.toR k)) 40)
  obtain ⟨w0, hw0⟩ : ∃ w0, w.alloc (.cells (rS.v (D.toR k)) 40) = w0 := ⟨_, rfl⟩
  rw [hw0] at q0 b0
  have CF := Lib.hid (find_any (c := c) (hr.on b0).row (by omega) k)
  have HR := Lib.hid (hr.on b0)
  have HB := Lib.hid b0
  clear hr b0
  cases hf : Cr.fix k l with
  | none =>
    have e1 : fxi k l = -1 := by unfold fxi; rw [hf]
    have e2 : Cr.has k l = false := by rw [← Cr.fix_has, hf]; rfl
    have e3 : Cr.del k l = l := Cr.del_not e2
    rw [e1] at CF
    rw [e2, e3]
    clear hf e1 e2 e3 hU
    go_enter Try.func7, Try.ntmps7
    go_wp2_with fail
    try rw [hw0]
    go_wp2_with (go_at_call 27; (with_reducible refine CF.out.mono ?_); rintro e w1 ⟨rfl, b1⟩; have B1 := Lib.hid (below_up HB.out HB.out.size b1); have HR1 := Lib.hid (HR.out.on b1); clear b1)
    exact bodyPost_ret (results_tmp2 rfl _ _ _) rfl ⟨A, c, by rw [hlen]; rfl, by omega, by rw [hlen]; exact HR1.out, B1.out⟩
  | some i =>
    obtain ⟨⟨v, hv⟩, _⟩ := Cr.fix_some hf
    have e1 : fxi k l = (i : Int) := by unfold fxi; rw [hf]
    have e2 : Cr.has k l = true := by rw [← Cr.fix_has, hf]; rfl
    have e3 := Cr.del_at hU hf
    have hi := (List.getElem?_eq_some_iff.1 hv).1
    rw [e1] at CF
    rw [e2, e3]
    have i0 : (0 : Int) ≤ (i : Int) := by omega
    have i2 : ¬ ((i : Int) < 0) := by omega
    have HU1 := eupto_run A n c i (by omega)
    obtain ⟨A2, HU2, HR2⟩ := efrom_run A n c (i + 1) ((i : Int) + 1) (by omega) (by omega)
    have HR2 := Lib.hid HR2
    have hl3 : (l.take i ++ l.drop (i + 1)).length = i + (n - (i + 1)) := by rw [List.length_append, List.length_take, List.length_drop]; omega
    clear hf e1 e2 e3 hU hv
    go_enter Try.func7, Try.ntmps7
    go_wp2_with fail
    try rw [hw0]
    go_wp2_with (go_at_call 27; (with_reducible refine CF.out.mono ?_); rintro e w1 ⟨rfl, b1⟩; have B1 := Lib.hid (below_up HB.out HB.out.size b1); have HR1 := Lib.hid (HR.out.on b1); clear b1)
    obtain ⟨w4, hw4⟩ : ∃ w4, w1.drew = w4 := ⟨_, rfl⟩
    have b4 : Below w1.heap.size w1 w4 := by rw [← hw4]; exact (Below.refl _ _).drew
    have R4 := Lib.hid (HR1.out.on b4)
    have B4 := Lib.hid (below_up B1.out B1.out.size b4)
    clear b4
    refine wp_region_noPanic ?_
    refine wp_region_held_drew (S := fun W => True) (by kernel_rfl) trivial (fun sd => ?_)
    rw [hw4]
    clear hw4
    refine takeS 1 (some 14) ?vd1 (by kernel_rfl) (by kernel_rfl) (by kernel_rfl) (by kernel_rfl) (fun _ _ _ h => h) (by rfl) ?hyd1 trivial ?restd1
    case hyd1 => (intro o ho W hW; simp only [List.getElem?_toArray, List.getElem?_cons_succ, List.getElem?_cons_zero, Option.some.injEq] at ho; subst ho; go_simp; try rfl)
    try simp only [Act.put, List.setIfInBounds_toArray, List.set_cons_zero, List.set_cons_succ]
    refine takeS 2 (some 15) ?vd2 (by kernel_rfl) (by kernel_rfl) (by kernel_rfl) (by kernel_rfl) (fun _ _ _ h => h) (by rfl) ?hyd2 trivial ?restd2
    case hyd2 => (intro o ho W hW; simp only [List.getElem?_toArray, List.getElem?_cons_succ, List.getElem?_cons_zero, Option.some.injEq] at ho; subst ho; go_simp; try rfl)
    try simp only [Act.put, List.setIfInBounds_toArray, List.set_cons_zero, List.set_cons_succ]
    refine takeS 3 (some 16) (.slice A i c) (by kernel_rfl) (by kernel_rfl) (by kernel_rfl) (by kernel_rfl) (fun _ _ _ h => h) (by rfl) ?hyd3 trivial ?restd3
    case hyd3 => (intro o ho W hW; simp only [List.getElem?_toArray, List.getElem?_cons_succ, List.getElem?_cons_zero, Option.some.injEq] at ho; subst ho; go_simp; try rfl)
    try simp only [Act.put, List.setIfInBounds_toArray, List.set_cons_zero, List.set_cons_succ]
    refine takeS 5 (some 18) ?vd5 (by kernel_rfl) (by kernel_rfl) (by kernel_rfl) (by kernel_rfl) (fun _ _ _ h => h) (by rfl) ?hyd5 trivial ?restd5
    case hyd5 => (intro o ho W hW; simp only [List.getElem?_toArray, List.getElem?_cons_succ, List.getElem?_cons_zero, Option.some.injEq] at ho; subst ho; go_simp; try rfl)
    try simp only [Act.put, List.setIfInBounds_toArray, List.set_cons_zero, List.set_cons_succ]
    refine takeS 6 (some 19) ?vd6 (by kernel_rfl) (by kernel_rfl) (by kernel_rfl) (by kernel_rfl) (fun _ _ _ h => h) (by rfl) ?hyd6 trivial ?restd6
    case hyd6 => (intro o ho W hW; simp only [List.getElem?_toArray, List.getElem?_cons_succ, List.getElem?_cons_zero, Option.some.injEq] at ho; subst ho; go_simp; try rfl)
    try simp only [Act.put, List.setIfInBounds_toArray, List.set_cons_zero, List.set_cons_succ]
    refine takeS 7 (some 20) (.int .i64 ((i : Int) + 1)) (by kernel_rfl) (by kernel_rfl) (by kernel_rfl) (by kernel_rfl) (fun _ _ _ h => h) (by rfl) ?hyd7 trivial ?restd7
    case hyd7 => (intro o ho W hW; simp only [List.getElem?_toArray, List.getElem?_cons_succ, List.getElem?_cons_zero, Option.some.injEq] at ho; subst ho; go_simp; try exact IntWalk.i64_in _ (by omega))
    try simp only [Act.put, List.setIfInBounds_toArray, List.set_cons_zero, List.set_cons_succ]
    refine takeS 8 (some 21) (.slice A2 (n - (i + 1)) (c - (i + 1))) (by kernel_rfl) (by kernel_rfl) (by kernel_rfl) (by kernel_rfl) (fun _ _ _ h => h) (by rfl) ?hyd8 trivial ?restd8
    case hyd8 => (intro o ho W hW; simp only [List.getElem?_toArray, List.getElem?_cons_succ, List.getElem?_cons_zero, Option.some.injEq] at ho; subst ho; go_simp; try rfl)
    try simp only [Act.put, List.setIfInBounds_toArray, List.set_cons_zero, List.set_cons_succ]
    refine nextS 0 (by kernel_rfl) (by rfl) (fun o ho K hK => ?_)
    simp only [List.getElem?_toArray, List.getElem?_cons_succ, List.getElem?_cons_zero, Option.some.injEq] at ho; subst ho
    go_simp
    refine hK.out _ _ trivial (fun _ => ?_)
    clear hK K
    try simp only [Act.put, List.setIfInBounds_toArray, List.set_cons_zero, List.set_cons_succ]
    have a1 := below_alloc_ w4 (.cells #[] 59)
    obtain ⟨y1, hy1⟩ : ∃ V, w4.alloc (.cells #[] 59) = V := ⟨_, rfl⟩
    rw [hy1] at a1
    have E1 : Ow 59 26 w4.heap.size y1 (some ⟨w4.heap.size, 0, none⟩) 0 0 [] := by rw [← hy1]; exact ⟨World.ownsRow_lit w4 #[] 0 (Nat.le_refl _) (by simp [maxLen]) rfl, by simp⟩
    rw [hy1]
    clear hy1
    refine nextS 4 (by kernel_rfl) (by rfl) (fun o ho K hK => ?_)
    simp only [List.getElem?_toArray, List.getElem?_cons_succ, List.getElem?_cons_zero, Option.some.injEq] at ho; subst ho
    refine wp_gapp _ ent_under ent_info (by kernel_rfl) (by decide) (by decide) (.tmp 13) (.tmp 16) rfl rfl E1 rfl (erw ((R4.out.on a1).row.take (k := i) (by omega))) (eS.rcs_one _) (by omega) ?_
    intro A5 c5 y5 o5 hg5
    rw [List.nil_append] at o5
    rw [Nat.zero_add] at o5 ⊢
    have b5 := a1.grown hg5 a1.size (fun q hq => (E1.lt q hq).1)
    refine hK.out _ _ trivial (fun _ => ?_)
    clear hK K
    try simp only [Act.put, List.setIfInBounds_toArray, List.set_cons_zero, List.set_cons_succ]
    refine nextS 9 (by kernel_rfl) (by rfl) (fun o ho K hK => ?_)
    simp only [List.getElem?_toArray, List.getElem?_cons_succ, List.getElem?_cons_zero, Option.some.injEq] at ho; subst ho
    refine wp_gapp _ ent_under ent_info (by kernel_rfl) (by decide) (by decide) (.tmp 17) (.tmp 21) rfl rfl o5 rfl (erw (HR2.out _ _ (R4.out.on b5).row hnc)) (eS.rcs_one _) (by omega) ?_
    intro A6 c6 y6 o6 hg6
    rw [← Shp.rcs_app] at o6
    have b6 := b5.grown hg6 b5.size (fun q hq => (o5.lt q hq).1)
    refine hK.out _ _ trivial (fun _ => ?_)
    clear hK K
    try simp only [Act.put, List.setIfInBounds_toArray, List.set_cons_zero, List.set_cons_succ]
    refine takeS 10 (some 4) ?vd10 (by kernel_rfl) (by kernel_rfl) (by kernel_rfl) (by kernel_rfl) (fun _ _ _ h => h) (by rfl) ?hyd10 trivial ?restd10
    case hyd10 => (intro o ho W hW; simp only [List.getElem?_toArray, List.getElem?_cons_succ, List.getElem?_cons_zero, Option.some.injEq] at ho; subst ho; go_simp; try rfl)
    try simp only [Act.put, List.setIfInBounds_toArray, List.set_cons_zero, List.set_cons_succ]
    refine takeS 11 (some 5) ?vd11 (by kernel_rfl) (by kernel_rfl) (by kernel_rfl) (by kernel_rfl) (fun _ _ _ h => h) (by rfl) ?hyd11 trivial ?restd11
    case hyd11 => (intro o ho W hW; simp only [List.getElem?_toArray, List.getElem?_cons_succ, List.getElem?_cons_zero, Option.some.injEq] at ho; subst ho; go_simp; try rfl)
    try simp only [Act.put, List.setIfInBounds_toArray, List.set_cons_zero, List.set_cons_succ]
    refine wpAnyH_done (by kernel_rfl) ?_ _
    refine NoPanic.normal ?_
    go_wp2
    exact bodyPost_ret (results_tmp2 rfl _ _ _) rfl ⟨A6, c6, by rw [hl3]; rfl, by rw [hl3]; exact o6.cap.1, by rw [hl3]; exact DE.of o6, B4.out.trans (b6.mono B4.out.size)⟩
end Go.Proofs.Ytkhjnfplcaffnaa
set_option linter.unusedVariables false
set_option linter.unusedSimpArgs false
set_option maxRecDepth 100000
namespace Go.Proofs.Ytkhjnfplcaffnaa
open Go.RowKit
attribute [local go_sem ↓] Go.wp_at_zero Go.wp_at_succ ld_k lv_k st_k eq_k ne_k bd_k ld_b lv_b st_b eq_b ne_b bd_25 ld_r lv_r st_rk eq_rk ne_rk bd_r ld_p lv_p st_px bd_p Nm.ld_a Nm.ld_n Nm.st_a Nm.st_n Nm.eq_a Nm.eq_n Nm.ne_a Nm.ne_n Nm.lv_a Nm.lv_n ld_a ld_n st_a st_n eq_a eq_n ne_a ne_n lv_a lv_n ld_l lv_l st_l bd_l bd_n bs_l bs_k ld_e lv_e bd_e bs_e ld_ac lv_ac st_ac
attribute [local go_sem] run_ldk run_lvk run_stk run_eqk run_nek run_bdk_z run_ldb run_lvb run_stb run_eqb run_neb run_ldr run_lvr run_strk run_eqrk run_nerk run_bdr_z run_ldp run_lvp run_stpx Nm.run_ld_a Nm.run_ld_n Nm.run_st_n Nm.run_eq_a Nm.run_eq_n Nm.run_ne_a Nm.run_ne_n Nm.run_lv_a Nm.run_lv_n Nm.rd_new Nm.rd_old Nm.rd_drew Nm.rd_drewN run_ld_a run_ld_n run_sw_a run_sw_n run_eq_a run_eq_n run_ne_a run_ne_n run_lv_a run_lv_n st_z ne_z eq_z rd_new rd_old rd_drew rd_drewN Shp.rd_new Shp.rd_old Shp.rd_drew Shp.rd_drewN Shp.rd_set Shp.tn_new Shp.tn_old Shp.tn_drew Shp.tn_drewN tn_new tn_old tn_drew tn_drewN rd_set setRow_alloc run_stn3 run_stt15 run_lvl run_ldl run_stl run_bdl run_bdn run_bdn0 run_bsl run_bsk run_lde run_lve run_bde run_bse run_bse0 run_lda run_lva run_sta Shp.rd_extk cell_ext

theorem rw_kept {sz n : Nat} {w w' : World} {g : Nat} {xs : List Value} {row : Option Nat} (h : Rw sz w (some ⟨g, 0, none⟩) n xs) (hg : w.grownBy w' row) (hne : some g ≠ row) (hl : g < w.heap.size) : Rw sz w' (some ⟨g, 0, none⟩) n xs :=
  h.kept hg.size fun ad e => by injection e with e; subst e; exact hg.block g hl hne
/-- One entry's number is stored. -/
theorem set_ent {base n c : Nat} {w : World} {A : Option Addr} {l : List Lf} (h : Ow 59 26 base w A n c (eS.rcs l)) {i : Nat} {k : D.Ky} {u : Int} (hi : l[i]? = some (k, u)) :
    ∃ g, A = some ⟨g, 0, none⟩ ∧ base ≤ g ∧ g < w.heap.size ∧ w.cell? ⟨g, i * 26 + 25, none⟩ = some (.int .i64 u) ∧ w.frozen? ⟨g, i * 26 + 25, none⟩ = false ∧ ∀ v : Int, DE (w.setCell ⟨g, i * 26 + 25, none⟩ (.int .i64 v)) (some ⟨g, 0, none⟩) n (l.set i (k, v)) := by
  have hr := ow_erow h
  have hil := (List.getElem?_eq_some_iff.1 hi).1
  have hlen := hr.len
  rcases h.row.2 with ⟨_, h0⟩ | ⟨g, cap, cur, e, hg, hh, _⟩
  · omega
  · injection e with e1 e2 e3
    subst e1
    have hB : Blk w g 59 cur := ⟨hh⟩
    obtain ⟨ad, ea, hlt, hcl⟩ := hr.tow (by omega)
    injection ea with ea
    subst ea
    have hc0 : ∀ j x, l[j]? = some x → ∀ q z, (ecells x)[q]? = some z → cur[j * 26 + q]? = some z := fun j x hx q z hz => by
      have := hcl j x hx q z hz
      rw [adr_o, adr_o, hB.c] at this
      have e2 : 0 + j * eS.n + q = j * 26 + q := by show 0 + j * 26 + q = _; omega
      rwa [e2] at this
    have hk25 : (rcells (D.toR k)).length = 25 := rS.len _
    have hcu := hc0 i (k, u) hi 25 (.int .i64 u) (by
      show (rcells (D.toR k) ++ [Value.int .i64 u])[25]? = _
      rw [List.getElem?_append_right (by omega), hk25]; rfl)
    refine ⟨g, rfl, hg, hlt, by rw [hB.c]; exact hcu, hB.f _, fun v => ⟨⟨by rw [List.length_set]; exact hlen, fun _ => ⟨_, rfl, by have := (hB.put (i * 26 + 25) (.int .i64 v)).lt; exact this, fun j x hx q z hz => ?_⟩⟩, fun ad e _ => by injection e with e; subst e; exact ⟨_, (hB.put (i * 26 + 25) (.int .i64 v)).out⟩⟩⟩
    rw [adr_o, adr_o, (hB.put (i * 26 + 25) (.int .i64 v)).c]
    have e2 : 0 + j * eS.n + q = j * 26 + q := by show 0 + j * 26 + q = _; omega
    rw [e2, Array.getElem?_setIfInBounds]
    have hq : q < 26 := by have := (List.getElem?_eq_some_iff.1 hz).1; rwa [eS.len] at this
    rw [List.getElem?_set] at hx
    by_cases ej : i = j
    · subst ej
      rw [if_pos rfl, if_pos hil] at hx
      injection hx with hx
      subst hx
      have hz : (rcells (D.toR k) ++ [Value.int .i64 v])[q]? = some z := hz
      by_cases eq : q = 25
      · subst eq
        rw [List.getElem?_append_right (by omega), hk25] at hz
        rw [if_pos rfl, if_pos (Array.getElem?_eq_some_iff.1 hcu).1]
        exact hz
      · rw [if_neg (by omega)]
        rw [List.getElem?_append_left (by omega)] at hz
        exact hc0 i (k, u) hi q z (by
          show (rcells (D.toR k) ++ [Value.int .i64 u])[q]? = _
          rw [List.getElem?_append_left (by omega)]; exact hz)
    · rw [if_neg ej] at hx
      rw [if_neg (by omega)]
      exact hc0 j x hx q z hz

set_option maxHeartbeats 8000000 in
theorem rput_any {w : World} {A : Option Addr} {n c : Nat} {l : List Lf} (hr : DE w A n l) (hnc : n ≤ c) (hU : Cr.Up l) (hn : n ≤ 100000) (k : D.Ky) (v : Int) :
    Calls Try.prog 10 #[.slice A n c, .agg (rS.v (D.toR k)), .int .i64 v] w (DPd w (Cr.put k v l) (!Cr.has k l)) := by
  have hlen := hr.row.len
  have q0 := Shp.rd_new (S := rS) w w.heap.size 40 (D.toR k) rfl
  have b0 := below_alloc_ w (.cells (rS.v (D.toR k)) 40)
  obtain ⟨w0, hw0⟩ : ∃ w0, w.alloc (.cells (rS.v (D.toR k)) 40) = w0 := ⟨_, rfl⟩
  rw [hw0] at q0 b0
  have a1 := below_alloc_ w0 (.cells #[] 59)
  have E1 : Ow 59 26 w0.heap.size (w0.alloc (.cells #[] 59)) (some ⟨w0.heap.size, 0, none⟩) 0 0 [] := ⟨World.ownsRow_lit w0 #[] 0 (Nat.le_refl _) (by simp [maxLen]) rfl, by simp⟩
  obtain ⟨y1, hy1⟩ : ∃ y1, w0.alloc (.cells #[] 59) = y1 := ⟨_, rfl⟩
  rw [hy1] at a1 E1
  have CF := Lib.hid (fun W (hW : Below w0.heap.size w0 W) => find_any (c := c) ((hr.on b0).on hW).row (by omega) k)
  have HR := Lib.hid (hr.on b0)
  have HB := Lib.hid b0
  have HQ := Lib.hid q0
  have R1 := (hr.on b0).on a1
  clear hr b0 q0
  have HE1 := Lib.hid E1
  have HR1 := Lib.hid R1
  have HA1 := Lib.hid a1
  clear E1 R1 a1
  go_enter Try.func10, Try.ntmps10
  go_wp2_with (first
    | (at_builtin; (try rw [hw0]); (try rw [hy1]); refine gapp _ ent_under ent_info (by kernel_rfl) (by decide) (by decide) rfl (.tmp 11) (.tmp 12) rfl rfl HE1.out rfl (erw HR1.out.row) (eS.rcs_one l) (by omega) ?_; intro A2 c2 y2 o2 hg2 hor2; rw [List.nil_append] at o2; rw [Nat.zero_add] at o2 ⊢; have B2 := Lib.hid (HA1.out.grown hg2 HA1.out.size (fun q hq => (HE1.out.lt q hq).1)); have O2 := Lib.hid o2; have CF2 := Lib.hid (CF.out y2 B2.out); have r2 := Shp.rd_on HQ.out B2.out; clear o2 hg2 hor2)
    | fail)
  cases hf : Cr.fix k l with
  | some i =>
    obtain ⟨⟨u, hv⟩, _⟩ := Cr.fix_some hf
    have e1 : fxi k l = (i : Int) := by unfold fxi; rw [hf]
    have e2 : Cr.has k l = true := by rw [← Cr.fix_has, hf]; rfl
    have e3 := Cr.put_at (v := v) hU hf
    have hi := (List.getElem?_eq_some_iff.1 hv).1
    have i0 : (0 : Int) ≤ (i : Int) := by omega
    have i1 : (i : Int) < (n : Int) := by omega
    rw [e1] at CF2
    have HP : Hid (∀ e w', DPd w (l.set i (k, v)) false e w' → DPd w (Cr.put k v l) (!Cr.has k l) e w') := Lib.hid fun e w' h => by rw [e2, e3]; exact h
    have HV := Lib.hid hv
    clear hf e1 e2 e3 hU hv
    refine CF2.out.mono ?_
    rintro e w3 ⟨rfl, b3⟩
    have O3 := O2.out.on b3
    obtain ⟨g, rfl, hg, hgl, hc3, hf3, hrow⟩ := set_ent O3 HV.out
    have HRW := Lib.hid hrow
    have HC := O3.cap.1
    have B3 := Lib.hid (below_up HB.out HB.out.size (below_up B2.out B2.out.size b3))
    clear hrow O3 b3
    go_wp2
    refine bodyPost_ret (results_tmp2 rfl _ _ _) rfl (HP.out _ _ ⟨_, c2, by rw [List.length_set, hlen]; rfl, by rw [List.length_set, hlen]; exact HC, by rw [List.length_set, hlen]; exact HRW.out v, B3.out.setCell (by have := HB.out.size; show w.heap.size ≤ g; omega) _⟩)
  | none =>
    have e1 : fxi k l = -1 := by unfold fxi; rw [hf]
    have e2 : Cr.has k l = false := by rw [← Cr.fix_has, hf]; rfl
    rw [e1] at CF2
    have HF := Lib.hid hf
    have HP : Hid (∀ e w', DPd w (Cr.put k v l) true e w' → DPd w (Cr.put k v l) (!Cr.has k l) e w') := Lib.hid fun e w' h => by rw [e2]; exact h
    clear hf e1 e2 hU
    refine CF2.out.mono ?_
    rintro e w3 ⟨rfl, b3⟩
    have B3 := Lib.hid (B2.out.trans (b3.mono B2.out.size))
    clear O2 b3 r2 CF2 B2 CF
    go_wp2_with fail
    go_loopw [10] (fun s10 wx => ∃ a : Nat, a ≤ n ∧ s10 = .int .i64 a ∧ Hid (∀ (j : Nat), j < a → ∀ e, l[j]? = some e → Cr.lt e.1 k = true) ∧ Hid (Below w0.heap.size w0 wx)) (fun s10 _ => n - (intOf s10).toNat)
    case atStart => exact ⟨0, Nat.zero_le _, rfl, Lib.hid (fun j h => by omega), B3⟩
    case round =>
      obtain ⟨a, han, rfl, HN, HW⟩ := hrel
      clear B3
      have a0 : (0 : Int) ≤ (a : Int) := by omega
      have r0 := Shp.rd_on HQ.out HW.out
      have l0 : w.heap.size < wr.heap.size := Shp.rd_lt r0
      by_cases hlt : a < n
      · have a1 : (a : Int) < (n : Int) := by omega
        obtain ⟨e, he⟩ : ∃ e, l[a]? = some e := ⟨_, List.getElem?_eq_getElem (by omega)⟩
        obtain ⟨ad, hAe, hal, hrd⟩ := (HR.out.on HW.out).row.rd he
        subst hAe
        obtain ⟨r1, -⟩ := er hrd
        have r2 : (ad.add (a * 26)).block < wr.heap.size := Shp.rd_lt r1
        have HE := Lib.hid he
        have CL := Lib.hid (fun (o : On) => rless_key e.1 k (Cr.lt e.1 k) (ext wr o) ⟨D.lt_cmp e.1 k⟩)
        clear hrd he
        cases hl : Cr.lt e.1 k with
        | true =>
          rw [hl] at CL
          have HLT := Lib.hid hl
          clear hl
          go_wp2_with fail
          refine wp_region_ext (by kernel_rfl) (by kernel_rfl) ?_
          repeat (go_big_quiet_step ((go_at_call 30; with_reducible exact calls_ext (CL.out _))))
          refine wpQuiet_nil ?_
          intro w5 hw5
          have b5 := ext_to hw5
          clear hw5
          go_wp2
          go_roundw
          case rel => exact ⟨a + 1, by omega, by go_num, Lib.hid (fun j hj e' he' => by
            by_cases e2 : j = a
            · subst e2; rw [HE.out] at he'; injection he' with he'; subst he'; exact HLT.out
            · exact HN.out j (by omega) e' he'), Lib.hid (HW.out.trans (b5.mono HW.out.size))⟩
          case measure => simp [intOf]; omega
        | false =>
          rw [hl] at CL
          have HPT := Lib.hid (Cr.put_in (v := v) HF.out HN.out (fun e' he' => by rw [HE.out] at he'; injection he' with he'; subst he'; exact hl))
          clear hl
          go_wp2_with fail
          refine wp_region_ext (by kernel_rfl) (by kernel_rfl) ?_
          repeat (go_big_quiet_step ((go_at_call 30; with_reducible exact calls_ext (CL.out _))))
          refine wpQuiet_nil ?_
          intro w5 hw5
          have b5 := ext_to hw5
          clear hw5 r1 r2 r0 l0 CL a1
          have B5 := Lib.hid (HW.out.trans (b5.mono HW.out.size))
          clear b5
          go_wp2_with fail
          obtain ⟨w6, hw6⟩ : ∃ w6, w5.drew = w6 := ⟨_, rfl⟩
          have b6 : Below w5.heap.size w5 w6 := by rw [← hw6]; exact (Below.refl _ _).drew
          have B6 := Lib.hid (B5.out.trans (b6.mono B5.out.size))
          have R6 := Lib.hid (HR.out.on B6.out)
          have r6 := Shp.rd_on HQ.out B6.out
          have l6 : w.heap.size < w6.heap.size := Shp.rd_lt r6
          have HU1 := eupto_run (some ad) n c a (by omega)
          obtain ⟨A9, HU9, hR9⟩ := efrom_run (some ad) n c a (a : Int) rfl (by omega)
          have HR9 := Lib.hid hR9
          clear hR9 b6 B5
          refine wp_region_noPanic ?_
          refine wp_region_held_drew (S := fun W => rS.rd W ⟨w.heap.size, 0, none⟩ = some (D.toR k)) (by kernel_rfl) (by rw [hw6]; exact r6) (fun sd => ?_)
          rw [hw6]
          clear hw6 sd
          refine takeS 1 (some 41) ?vp1 (by kernel_rfl) (by kernel_rfl) (by kernel_rfl) (by kernel_rfl) (fun _ _ _ h => h) (by rfl) ?hyp1 r6 ?restp1
          case hyp1 => (intro o ho W hW; simp only [List.getElem?_toArray, List.getElem?_cons_succ, List.getElem?_cons_zero, Option.some.injEq] at ho; subst ho; go_simp; try rfl)
          try simp only [Act.put, List.setIfInBounds_toArray, List.set_cons_zero, List.set_cons_succ]
          refine takeS 2 (some 42) ?vp2 (by kernel_rfl) (by kernel_rfl) (by kernel_rfl) (by kernel_rfl) (fun _ _ _ h => h) (by rfl) ?hyp2 r6 ?restp2
          case hyp2 => (intro o ho W hW; simp only [List.getElem?_toArray, List.getElem?_cons_succ, List.getElem?_cons_zero, Option.some.injEq] at ho; subst ho; go_simp; try rfl)
          try simp only [Act.put, List.setIfInBounds_toArray, List.set_cons_zero, List.set_cons_succ]
          refine takeS 3 (some 43) (.slice (some ad) a c) (by kernel_rfl) (by kernel_rfl) (by kernel_rfl) (by kernel_rfl) (fun _ _ _ h => h) (by rfl) ?hyp3 r6 ?restp3
          case hyp3 => (intro o ho W hW; simp only [List.getElem?_toArray, List.getElem?_cons_succ, List.getElem?_cons_zero, Option.some.injEq] at ho; subst ho; go_simp; try rfl)
          try simp only [Act.put, List.setIfInBounds_toArray, List.set_cons_zero, List.set_cons_succ]
          refine takeS 5 (some 45) ?vp5 (by kernel_rfl) (by kernel_rfl) (by kernel_rfl) (by kernel_rfl) (fun _ _ _ h => h) (by rfl) ?hyp5 r6 ?restp5
          case hyp5 => (intro o ho W hW; simp only [List.getElem?_toArray, List.getElem?_cons_succ, List.getElem?_cons_zero, Option.some.injEq] at ho; subst ho; go_simp; try rfl)
          try simp only [Act.put, List.setIfInBounds_toArray, List.set_cons_zero, List.set_cons_succ]
          refine takeS 6 (some 46) ?vp6 (by kernel_rfl) (by kernel_rfl) (by kernel_rfl) (by kernel_rfl) (fun _ _ _ h => h) (by rfl) ?hyp6 r6 ?restp6
          case hyp6 => (intro o ho W hW; simp only [List.getElem?_toArray, List.getElem?_cons_succ, List.getElem?_cons_zero, Option.some.injEq] at ho; subst ho; go_simp; try rfl)
          try simp only [Act.put, List.setIfInBounds_toArray, List.set_cons_zero, List.set_cons_succ]
          refine takeS 7 (some 47) ?vp7 (by kernel_rfl) (by kernel_rfl) (by kernel_rfl) (by kernel_rfl) (fun _ _ _ h => h) (by rfl) ?hyp7 r6 ?restp7
          case hyp7 => (intro o ho W hW; simp only [List.getElem?_toArray, List.getElem?_cons_succ, List.getElem?_cons_zero, Option.some.injEq] at ho; subst ho; go_simp; try rfl)
          try simp only [Act.put, List.setIfInBounds_toArray, List.set_cons_zero, List.set_cons_succ]
          refine forkS 0 8 (by kernel_rfl) (by rfl) (by rfl) (fun o ho K hK => ?_) (fun o ho K hK => ?_)
          · simp only [List.getElem?_toArray, List.getElem?_cons_succ, List.getElem?_cons_zero, Option.some.injEq] at ho; subst ho
            go_simp
            have a1 := below_alloc_ w6 (.cells #[] 59)
            refine hK.out _ _ (Shp.rd_on r6 a1) (fun _ => ?_)
            clear hK K
            try simp only [Act.put, List.setIfInBounds_toArray, List.set_cons_zero, List.set_cons_succ]
            have s1 := Shp.rd_on r6 a1
            obtain ⟨q1, hq1⟩ : ∃ q, w6.heap.size = q := ⟨_, rfl⟩
            obtain ⟨v1, hv1⟩ : ∃ V, w6.alloc (.cells #[] 59) = V := ⟨_, rfl⟩
            have t1 : q1 < v1.heap.size := by rw [← hv1, ← hq1]; simp
            rw [hv1] at a1 s1
            have E1 : Ow 59 26 w6.heap.size v1 (some ⟨q1, 0, none⟩) 0 0 [] := by rw [← hv1, ← hq1]; exact ⟨World.ownsRow_lit w6 #[] 0 ((Below.refl w6.heap.size w6)).size (by simp [maxLen]) rfl, by have := ((Below.refl w6.heap.size w6)).size; first | (simp; done) | (simp; omega)⟩
            try rw [hv1]
            try rw [hq1]
            have b_1 := below_up ((Below.refl w6.heap.size w6)) ((Below.refl w6.heap.size w6)).size a1
            clear hv1
            refine forkS 4 8 (by kernel_rfl) (by rfl) (by rfl) (fun o ho K hK => ?_) (fun o ho K hK => ?_)
            · simp only [List.getElem?_toArray, List.getElem?_cons_succ, List.getElem?_cons_zero, Option.some.injEq] at ho; subst ho
              refine wp_gapp _ ent_under ent_info (by kernel_rfl) (by decide) (by decide) (.tmp 40) (.tmp 43) rfl rfl E1 rfl (erw ((R6.out.on (b_1)).row.take (k := a) (by omega))) (eS.rcs_one _) (by omega) ?_
              intro Aa2 ca2 v2 o2 hg2
              rw [List.nil_append] at o2
              rw [Nat.zero_add] at o2 ⊢
              have b_2 := (b_1).grown hg2 (b_1).size (fun q hq => (E1.lt q hq).1)
              have s2 : rS.rd v2 ⟨w.heap.size, 0, none⟩ = some (D.toR k) := (Shp.rd_to (hg2.block _ (Shp.rd_lt s1) fun e => Nat.not_lt_of_le (E1.lt _ e.symm).1 l6)).trans s1
              refine hK.out _ _ s2 (fun _ => ?_)
              clear hK K
              try simp only [Act.put, List.setIfInBounds_toArray, List.set_cons_zero, List.set_cons_succ]
              have t2 := Nat.lt_of_lt_of_le t1 hg2.size
              refine nextS 8 (by kernel_rfl) (by rfl) (fun o ho K hK => ?_)
              simp only [List.getElem?_toArray, List.getElem?_cons_succ, List.getElem?_cons_zero, Option.some.injEq] at ho; subst ho
              go_simp
              have a3 := below_alloc_ v2 (.cells (eS.v (k, v)) 59)
              refine hK.out _ _ (Shp.rd_on s2 a3) (fun _ => ?_)
              clear hK K
              try simp only [Act.put, List.setIfInBounds_toArray, List.set_cons_zero, List.set_cons_succ]
              have s3 := Shp.rd_on s2 a3
              obtain ⟨q3, hq3⟩ : ∃ q, v2.heap.size = q := ⟨_, rfl⟩
              obtain ⟨v3, hv3⟩ : ∃ V, v2.alloc (.cells (eS.v (k, v)) 59) = V := ⟨_, rfl⟩
              have t3 : q3 < v3.heap.size := by rw [← hv3, ← hq3]; simp
              have ne3 : q1 ≠ q3 := by have := t2; omega
              have tt3 : q1 < v3.heap.size := by rw [← hv3]; have := t2; simp; omega
              rw [hv3] at a3 s3
              have X3 : Rw 26 v3 (some ⟨q3, 0, none⟩) 1 (eS.rcs [(k, v)]) := by rw [← hv3, ← hq3, show eS.rcs [(k, v)] = (eS.v (k, v)).toList by simp [Shp.rcs, Shp.v]]; exact rw_new v2 26 59 1 (eS.v (k, v)) (by rw [eS.v_size]; rfl)
              try rw [hv3]
              try rw [hq3]
              have Y3_4 := o2.on a3
              have b_3 := below_up (b_2) (b_2).size a3
              clear hv3
              refine nextS 9 (by kernel_rfl) (by rfl) (fun o ho K hK => ?_)
              simp only [List.getElem?_toArray, List.getElem?_cons_succ, List.getElem?_cons_zero, Option.some.injEq] at ho; subst ho
              refine wp_gapp _ ent_under ent_info (by kernel_rfl) (by decide) (by decide) (.tmp 44) (.tmp 48) rfl rfl Y3_4 rfl X3 (eS.rcs_one _) (by omega) ?_
              intro Aa4 ca4 v4 o4 hg4
              have b_4 := (b_3).grown hg4 (b_3).size (fun q hq => (Y3_4.lt q hq).1)
              have s4 : rS.rd v4 ⟨w.heap.size, 0, none⟩ = some (D.toR k) := (Shp.rd_to (hg4.block _ (Shp.rd_lt s3) fun e => Nat.not_lt_of_le (Y3_4.lt _ e.symm).1 l6)).trans s3
              refine hK.out _ _ s4 (fun _ => ?_)
              clear hK K
              try simp only [Act.put, List.setIfInBounds_toArray, List.set_cons_zero, List.set_cons_succ]
              have t4 := Nat.lt_of_lt_of_le t3 hg4.size
              refine takeS 10 (some 8) ?vpz110 (by kernel_rfl) (by kernel_rfl) (by kernel_rfl) (by kernel_rfl) (fun _ _ _ h => h) (by rfl) ?hypz110 s4 ?restpz110
              case hypz110 => (intro o ho W hW; simp only [List.getElem?_toArray, List.getElem?_cons_succ, List.getElem?_cons_zero, Option.some.injEq] at ho; subst ho; go_simp; try rfl)
              try simp only [Act.put, List.setIfInBounds_toArray, List.set_cons_zero, List.set_cons_succ]
              refine wpAnyH_done (by kernel_rfl) ?_ _
              refine NoPanic.normal ?_
              have R10 := HR9.out _ _ (R6.out.on b_4).row hnc
              have b10 := Lib.hid (B6.out.trans (b_4.mono B6.out.size))
              go_wp2_with (first
                | (at_builtin; refine gapp _ ent_under ent_info (by kernel_rfl) (by decide) (by decide) rfl (.tmp 50) (.tmp 53) rfl rfl o4 rfl (erw R10) (eS.rcs_one _) (by omega) ?_; intro A99 c99 y99 o99 hg99 hor99; have B99 := Lib.hid (b10.out.grown hg99 b10.out.size (fun q hq => by have := (o4.lt q hq).1; have := B6.out.size; omega)); have O99 := Lib.hid o99; clear o99 hg99 hor99)
                | fail)
              have O12 := O99.out
              rw [show eS.rcs (l.take a) ++ eS.rcs [(k, v)] ++ eS.rcs (l.drop a) = eS.rcs (l.take a ++ (k, v) :: l.drop a) by rw [← Shp.rcs_app, ← Shp.rcs_app, List.append_assoc]; rfl] at O12
              have hl12 : (l.take a ++ (k, v) :: l.drop a).length = a + 1 + (n - a) := by rw [List.length_append, List.length_take, List.length_cons, List.length_drop]; omega
              exact bodyPost_ret (results_tmp2 rfl _ _ _) rfl (HP.out _ _ ⟨A99, c99, by rw [HPT.out, hl12]; rfl, by rw [HPT.out, hl12]; exact O12.cap.1, by rw [HPT.out, hl12]; exact DE.of O12, HB.out.trans (B99.out.mono HB.out.size)⟩)
            · simp only [List.getElem?_toArray, List.getElem?_cons_succ, List.getElem?_cons_zero, Option.some.injEq] at ho; subst ho
              go_simp
              have a5 := below_alloc_ v1 (.cells (eS.v (k, v)) 59)
              refine hK.out _ _ (Shp.rd_on s1 a5) (fun _ => ?_)
              clear hK K
              try simp only [Act.put, List.setIfInBounds_toArray, List.set_cons_zero, List.set_cons_succ]
              have s5 := Shp.rd_on s1 a5
              obtain ⟨q5, hq5⟩ : ∃ q, v1.heap.size = q := ⟨_, rfl⟩
              obtain ⟨v5, hv5⟩ : ∃ V, v1.alloc (.cells (eS.v (k, v)) 59) = V := ⟨_, rfl⟩
              have t5 : q5 < v5.heap.size := by rw [← hv5, ← hq5]; simp
              have ne5 : q1 ≠ q5 := by have := t1; omega
              have tt5 : q1 < v5.heap.size := by rw [← hv5]; have := t1; simp; omega
              rw [hv5] at a5 s5
              have X5 : Rw 26 v5 (some ⟨q5, 0, none⟩) 1 (eS.rcs [(k, v)]) := by rw [← hv5, ← hq5, show eS.rcs [(k, v)] = (eS.v (k, v)).toList by simp [Shp.rcs, Shp.v]]; exact rw_new v1 26 59 1 (eS.v (k, v)) (by rw [eS.v_size]; rfl)
              try rw [hv5]
              try rw [hq5]
              have Y5_0 := E1.on a5
              have b_5 := below_up (b_1) (b_1).size a5
              clear hv5
              refine nextS 4 (by kernel_rfl) (by rfl) (fun o ho K hK => ?_)
              simp only [List.getElem?_toArray, List.getElem?_cons_succ, List.getElem?_cons_zero, Option.some.injEq] at ho; subst ho
              refine wp_gapp _ ent_under ent_info (by kernel_rfl) (by decide) (by decide) (.tmp 40) (.tmp 43) rfl rfl Y5_0 rfl (erw ((R6.out.on (b_5)).row.take (k := a) (by omega))) (eS.rcs_one _) (by omega) ?_
              intro Aa6 ca6 v6 o6 hg6
              rw [List.nil_append] at o6
              rw [Nat.zero_add] at o6 ⊢
              have b_6 := (b_5).grown hg6 (b_5).size (fun q hq => (Y5_0.lt q hq).1)
              have s6 : rS.rd v6 ⟨w.heap.size, 0, none⟩ = some (D.toR k) := (Shp.rd_to (hg6.block _ (Shp.rd_lt s5) fun e => Nat.not_lt_of_le (Y5_0.lt _ e.symm).1 l6)).trans s5
              refine hK.out _ _ s6 (fun _ => ?_)
              clear hK K
              try simp only [Act.put, List.setIfInBounds_toArray, List.set_cons_zero, List.set_cons_succ]
              have t6 := Nat.lt_of_lt_of_le t5 hg6.size
              have Y6_8 := rw_kept X5 hg6 (fun e => by simp [Value.ownBlock] at e; have := ne5; omega) t5
              refine nextS 9 (by kernel_rfl) (by rfl) (fun o ho K hK => ?_)
              simp only [List.getElem?_toArray, List.getElem?_cons_succ, List.getElem?_cons_zero, Option.some.injEq] at ho; subst ho
              refine wp_gapp _ ent_under ent_info (by kernel_rfl) (by decide) (by decide) (.tmp 44) (.tmp 48) rfl rfl o6 rfl Y6_8 (eS.rcs_one _) (by omega) ?_
              intro Aa7 ca7 v7 o7 hg7
              have b_7 := (b_6).grown hg7 (b_6).size (fun q hq => (o6.lt q hq).1)
              have s7 : rS.rd v7 ⟨w.heap.size, 0, none⟩ = some (D.toR k) := (Shp.rd_to (hg7.block _ (Shp.rd_lt s6) fun e => Nat.not_lt_of_le (o6.lt _ e.symm).1 l6)).trans s6
              refine hK.out _ _ s7 (fun _ => ?_)
              clear hK K
              try simp only [Act.put, List.setIfInBounds_toArray, List.set_cons_zero, List.set_cons_succ]
              have t7 := Nat.lt_of_lt_of_le t6 hg7.size
              refine takeS 10 (some 8) ?vpz210 (by kernel_rfl) (by kernel_rfl) (by kernel_rfl) (by kernel_rfl) (fun _ _ _ h => h) (by rfl) ?hypz210 s7 ?restpz210
              case hypz210 => (intro o ho W hW; simp only [List.getElem?_toArray, List.getElem?_cons_succ, List.getElem?_cons_zero, Option.some.injEq] at ho; subst ho; go_simp; try rfl)
              try simp only [Act.put, List.setIfInBounds_toArray, List.set_cons_zero, List.set_cons_succ]
              refine wpAnyH_done (by kernel_rfl) ?_ _
              refine NoPanic.normal ?_
              have R10 := HR9.out _ _ (R6.out.on b_7).row hnc
              have b10 := Lib.hid (B6.out.trans (b_7.mono B6.out.size))
              go_wp2_with (first
                | (at_builtin; refine gapp _ ent_under ent_info (by kernel_rfl) (by decide) (by decide) rfl (.tmp 50) (.tmp 53) rfl rfl o7 rfl (erw R10) (eS.rcs_one _) (by omega) ?_; intro A99 c99 y99 o99 hg99 hor99; have B99 := Lib.hid (b10.out.grown hg99 b10.out.size (fun q hq => by have := (o7.lt q hq).1; have := B6.out.size; omega)); have O99 := Lib.hid o99; clear o99 hg99 hor99)
                | fail)
              have O12 := O99.out
              rw [show eS.rcs (l.take a) ++ eS.rcs [(k, v)] ++ eS.rcs (l.drop a) = eS.rcs (l.take a ++ (k, v) :: l.drop a) by rw [← Shp.rcs_app, ← Shp.rcs_app, List.append_assoc]; rfl] at O12
              have hl12 : (l.take a ++ (k, v) :: l.drop a).length = a + 1 + (n - a) := by rw [List.length_append, List.length_take, List.length_cons, List.length_drop]; omega
              exact bodyPost_ret (results_tmp2 rfl _ _ _) rfl (HP.out _ _ ⟨A99, c99, by rw [HPT.out, hl12]; rfl, by rw [HPT.out, hl12]; exact O12.cap.1, by rw [HPT.out, hl12]; exact DE.of O12, HB.out.trans (B99.out.mono HB.out.size)⟩)
          · simp only [List.getElem?_toArray, List.getElem?_cons_succ, List.getElem?_cons_zero, Option.some.injEq] at ho; subst ho
            go_simp
            have a8 := below_alloc_ w6 (.cells (eS.v (k, v)) 59)
            refine hK.out _ _ (Shp.rd_on r6 a8) (fun _ => ?_)
            clear hK K
            try simp only [Act.put, List.setIfInBounds_toArray, List.set_cons_zero, List.set_cons_succ]
            have s8 := Shp.rd_on r6 a8
            obtain ⟨q8, hq8⟩ : ∃ q, w6.heap.size = q := ⟨_, rfl⟩
            obtain ⟨v8, hv8⟩ : ∃ V, w6.alloc (.cells (eS.v (k, v)) 59) = V := ⟨_, rfl⟩
            have t8 : q8 < v8.heap.size := by rw [← hv8, ← hq8]; simp
            rw [hv8] at a8 s8
            have X8 : Rw 26 v8 (some ⟨q8, 0, none⟩) 1 (eS.rcs [(k, v)]) := by rw [← hv8, ← hq8, show eS.rcs [(k, v)] = (eS.v (k, v)).toList by simp [Shp.rcs, Shp.v]]; exact rw_new w6 26 59 1 (eS.v (k, v)) (by rw [eS.v_size]; rfl)
            try rw [hv8]
            try rw [hq8]
            have b_8 := below_up ((Below.refl w6.heap.size w6)) ((Below.refl w6.heap.size w6)).size a8
            clear hv8
            refine nextS 0 (by kernel_rfl) (by rfl) (fun o ho K hK => ?_)
            simp only [List.getElem?_toArray, List.getElem?_cons_succ, List.getElem?_cons_zero, Option.some.injEq] at ho; subst ho
            go_simp
            have a9 := below_alloc_ v8 (.cells #[] 59)
            refine hK.out _ _ (Shp.rd_on s8 a9) (fun _ => ?_)
            clear hK K
            try simp only [Act.put, List.setIfInBounds_toArray, List.set_cons_zero, List.set_cons_succ]
            have s9 := Shp.rd_on s8 a9
            obtain ⟨q9, hq9⟩ : ∃ q, v8.heap.size = q := ⟨_, rfl⟩
            obtain ⟨v9, hv9⟩ : ∃ V, v8.alloc (.cells #[] 59) = V := ⟨_, rfl⟩
            have t9 : q9 < v9.heap.size := by rw [← hv9, ← hq9]; simp
            have ne9 : q8 ≠ q9 := by have := t8; omega
            have tt9 : q8 < v9.heap.size := by rw [← hv9]; have := t8; simp; omega
            rw [hv9] at a9 s9
            have E9 : Ow 59 26 w6.heap.size v9 (some ⟨q9, 0, none⟩) 0 0 [] := by rw [← hv9, ← hq9]; exact ⟨World.ownsRow_lit v8 #[] 0 (b_8).size (by simp [maxLen]) rfl, by have := (b_8).size; first | (simp; done) | (simp; omega)⟩
            try rw [hv9]
            try rw [hq9]
            have Y9_8 := X8.on a9
            have b_9 := below_up (b_8) (b_8).size a9
            clear hv9
            refine nextS 4 (by kernel_rfl) (by rfl) (fun o ho K hK => ?_)
            simp only [List.getElem?_toArray, List.getElem?_cons_succ, List.getElem?_cons_zero, Option.some.injEq] at ho; subst ho
            refine wp_gapp _ ent_under ent_info (by kernel_rfl) (by decide) (by decide) (.tmp 40) (.tmp 43) rfl rfl E9 rfl (erw ((R6.out.on (b_9)).row.take (k := a) (by omega))) (eS.rcs_one _) (by omega) ?_
            intro Aa10 ca10 v10 o10 hg10
            rw [List.nil_append] at o10
            rw [Nat.zero_add] at o10 ⊢
            have b_10 := (b_9).grown hg10 (b_9).size (fun q hq => (E9.lt q hq).1)
            have s10 : rS.rd v10 ⟨w.heap.size, 0, none⟩ = some (D.toR k) := (Shp.rd_to (hg10.block _ (Shp.rd_lt s9) fun e => Nat.not_lt_of_le (E9.lt _ e.symm).1 l6)).trans s9
            refine hK.out _ _ s10 (fun _ => ?_)
            clear hK K
            try simp only [Act.put, List.setIfInBounds_toArray, List.set_cons_zero, List.set_cons_succ]
            have t10 := Nat.lt_of_lt_of_le t9 hg10.size
            have Y10_8 := rw_kept Y9_8 hg10 (fun e => by simp [Value.ownBlock] at e; have := ne9; omega) tt9
            refine nextS 9 (by kernel_rfl) (by rfl) (fun o ho K hK => ?_)
            simp only [List.getElem?_toArray, List.getElem?_cons_succ, List.getElem?_cons_zero, Option.some.injEq] at ho; subst ho
            refine wp_gapp _ ent_under ent_info (by kernel_rfl) (by decide) (by decide) (.tmp 44) (.tmp 48) rfl rfl o10 rfl Y10_8 (eS.rcs_one _) (by omega) ?_
            intro Aa11 ca11 v11 o11 hg11
            have b_11 := (b_10).grown hg11 (b_10).size (fun q hq => (o10.lt q hq).1)
            have s11 : rS.rd v11 ⟨w.heap.size, 0, none⟩ = some (D.toR k) := (Shp.rd_to (hg11.block _ (Shp.rd_lt s10) fun e => Nat.not_lt_of_le (o10.lt _ e.symm).1 l6)).trans s10
            refine hK.out _ _ s11 (fun _ => ?_)
            clear hK K
            try simp only [Act.put, List.setIfInBounds_toArray, List.set_cons_zero, List.set_cons_succ]
            have t11 := Nat.lt_of_lt_of_le t10 hg11.size
            refine takeS 10 (some 8) ?vpz310 (by kernel_rfl) (by kernel_rfl) (by kernel_rfl) (by kernel_rfl) (fun _ _ _ h => h) (by rfl) ?hypz310 s11 ?restpz310
            case hypz310 => (intro o ho W hW; simp only [List.getElem?_toArray, List.getElem?_cons_succ, List.getElem?_cons_zero, Option.some.injEq] at ho; subst ho; go_simp; try rfl)
            try simp only [Act.put, List.setIfInBounds_toArray, List.set_cons_zero, List.set_cons_succ]
            refine wpAnyH_done (by kernel_rfl) ?_ _
            refine NoPanic.normal ?_
            have R10 := HR9.out _ _ (R6.out.on b_11).row hnc
            have b10 := Lib.hid (B6.out.trans (b_11.mono B6.out.size))
            go_wp2_with (first
              | (at_builtin; refine gapp _ ent_under ent_info (by kernel_rfl) (by decide) (by decide) rfl (.tmp 50) (.tmp 53) rfl rfl o11 rfl (erw R10) (eS.rcs_one _) (by omega) ?_; intro A99 c99 y99 o99 hg99 hor99; have B99 := Lib.hid (b10.out.grown hg99 b10.out.size (fun q hq => by have := (o11.lt q hq).1; have := B6.out.size; omega)); have O99 := Lib.hid o99; clear o99 hg99 hor99)
              | fail)
            have O12 := O99.out
            rw [show eS.rcs (l.take a) ++ eS.rcs [(k, v)] ++ eS.rcs (l.drop a) = eS.rcs (l.take a ++ (k, v) :: l.drop a) by rw [← Shp.rcs_app, ← Shp.rcs_app, List.append_assoc]; rfl] at O12
            have hl12 : (l.take a ++ (k, v) :: l.drop a).length = a + 1 + (n - a) := by rw [List.length_append, List.length_take, List.length_cons, List.length_drop]; omega
            exact bodyPost_ret (results_tmp2 rfl _ _ _) rfl (HP.out _ _ ⟨A99, c99, by rw [HPT.out, hl12]; rfl, by rw [HPT.out, hl12]; exact O12.cap.1, by rw [HPT.out, hl12]; exact DE.of O12, HB.out.trans (B99.out.mono HB.out.size)⟩)
      · have a1 : ¬ ((a : Int) < (n : Int)) := by omega
        have HPT := Lib.hid (Cr.put_in (v := v) HF.out HN.out (fun e' he' => by have := (List.getElem?_eq_some_iff.1 he').1; omega))
        go_wp2_with fail
        refine wp_region_ext (by kernel_rfl) (by kernel_rfl) ?_
        repeat (go_big_quiet_step (fail))
        refine wpQuiet_nil ?_
        intro w5 hw5
        have b5 := ext_to hw5
        clear hw5 r0 l0
        have B5 := Lib.hid (HW.out.trans (b5.mono HW.out.size))
        clear b5
        go_wp2_with fail
        obtain ⟨w6, hw6⟩ : ∃ w6, w5.drew = w6 := ⟨_, rfl⟩
        have b6 : Below w5.heap.size w5 w6 := by rw [← hw6]; exact (Below.refl _ _).drew
        have B6 := Lib.hid (B5.out.trans (b6.mono B5.out.size))
        have R6 := Lib.hid (HR.out.on B6.out)
        have r6 := Shp.rd_on HQ.out B6.out
        have l6 : w.heap.size < w6.heap.size := Shp.rd_lt r6
        have HU1 := eupto_run A n c a (by omega)
        obtain ⟨A9, HU9, hR9⟩ := efrom_run A n c a (a : Int) rfl (by omega)
        have HR9 := Lib.hid hR9
        clear hR9 b6 B5
        refine wp_region_noPanic ?_
        refine wp_region_held_drew (S := fun W => rS.rd W ⟨w.heap.size, 0, none⟩ = some (D.toR k)) (by kernel_rfl) (by rw [hw6]; exact r6) (fun sd => ?_)
        rw [hw6]
        clear hw6 sd
        refine takeS 1 (some 41) ?vs1 (by kernel_rfl) (by kernel_rfl) (by kernel_rfl) (by kernel_rfl) (fun _ _ _ h => h) (by rfl) ?hys1 r6 ?rests1
        case hys1 => (intro o ho W hW; simp only [List.getElem?_toArray, List.getElem?_cons_succ, List.getElem?_cons_zero, Option.some.injEq] at ho; subst ho; go_simp; try rfl)
        try simp only [Act.put, List.setIfInBounds_toArray, List.set_cons_zero, List.set_cons_succ]
        refine takeS 2 (some 42) ?vs2 (by kernel_rfl) (by kernel_rfl) (by kernel_rfl) (by kernel_rfl) (fun _ _ _ h => h) (by rfl) ?hys2 r6 ?rests2
        case hys2 => (intro o ho W hW; simp only [List.getElem?_toArray, List.getElem?_cons_succ, List.getElem?_cons_zero, Option.some.injEq] at ho; subst ho; go_simp; try rfl)
        try simp only [Act.put, List.setIfInBounds_toArray, List.set_cons_zero, List.set_cons_succ]
        refine takeS 3 (some 43) (.slice A a c) (by kernel_rfl) (by kernel_rfl) (by kernel_rfl) (by kernel_rfl) (fun _ _ _ h => h) (by rfl) ?hys3 r6 ?rests3
        case hys3 => (intro o ho W hW; simp only [List.getElem?_toArray, List.getElem?_cons_succ, List.getElem?_cons_zero, Option.some.injEq] at ho; subst ho; go_simp; try rfl)
        try simp only [Act.put, List.setIfInBounds_toArray, List.set_cons_zero, List.set_cons_succ]
        refine takeS 5 (some 45) ?vs5 (by kernel_rfl) (by kernel_rfl) (by kernel_rfl) (by kernel_rfl) (fun _ _ _ h => h) (by rfl) ?hys5 r6 ?rests5
        case hys5 => (intro o ho W hW; simp only [List.getElem?_toArray, List.getElem?_cons_succ, List.getElem?_cons_zero, Option.some.injEq] at ho; subst ho; go_simp; try rfl)
        try simp only [Act.put, List.setIfInBounds_toArray, List.set_cons_zero, List.set_cons_succ]
        refine takeS 6 (some 46) ?vs6 (by kernel_rfl) (by kernel_rfl) (by kernel_rfl) (by kernel_rfl) (fun _ _ _ h => h) (by rfl) ?hys6 r6 ?rests6
        case hys6 => (intro o ho W hW; simp only [List.getElem?_toArray, List.getElem?_cons_succ, List.getElem?_cons_zero, Option.some.injEq] at ho; subst ho; go_simp; try rfl)
        try simp only [Act.put, List.setIfInBounds_toArray, List.set_cons_zero, List.set_cons_succ]
        refine takeS 7 (some 47) ?vs7 (by kernel_rfl) (by kernel_rfl) (by kernel_rfl) (by kernel_rfl) (fun _ _ _ h => h) (by rfl) ?hys7 r6 ?rests7
        case hys7 => (intro o ho W hW; simp only [List.getElem?_toArray, List.getElem?_cons_succ, List.getElem?_cons_zero, Option.some.injEq] at ho; subst ho; go_simp; try rfl)
        try simp only [Act.put, List.setIfInBounds_toArray, List.set_cons_zero, List.set_cons_succ]
        refine forkS 0 8 (by kernel_rfl) (by rfl) (by rfl) (fun o ho K hK => ?_) (fun o ho K hK => ?_)
        · simp only [List.getElem?_toArray, List.getElem?_cons_succ, List.getElem?_cons_zero, Option.some.injEq] at ho; subst ho
          go_simp
          have a1 := below_alloc_ w6 (.cells #[] 59)
          refine hK.out _ _ (Shp.rd_on r6 a1) (fun _ => ?_)
          clear hK K
          try simp only [Act.put, List.setIfInBounds_toArray, List.set_cons_zero, List.set_cons_succ]
          have s1 := Shp.rd_on r6 a1
          obtain ⟨q1, hq1⟩ : ∃ q, w6.heap.size = q := ⟨_, rfl⟩
          obtain ⟨v1, hv1⟩ : ∃ V, w6.alloc (.cells #[] 59) = V := ⟨_, rfl⟩
          have t1 : q1 < v1.heap.size := by rw [← hv1, ← hq1]; simp
          rw [hv1] at a1 s1
          have E1 : Ow 59 26 w6.heap.size v1 (some ⟨q1, 0, none⟩) 0 0 [] := by rw [← hv1, ← hq1]; exact ⟨World.ownsRow_lit w6 #[] 0 ((Below.refl w6.heap.size w6)).size (by simp [maxLen]) rfl, by have := ((Below.refl w6.heap.size w6)).size; first | (simp; done) | (simp; omega)⟩
          try rw [hv1]
          try rw [hq1]
          have b_1 := below_up ((Below.refl w6.heap.size w6)) ((Below.refl w6.heap.size w6)).size a1
          clear hv1
          refine forkS 4 8 (by kernel_rfl) (by rfl) (by rfl) (fun o ho K hK => ?_) (fun o ho K hK => ?_)
          · simp only [List.getElem?_toArray, List.getElem?_cons_succ, List.getElem?_cons_zero, Option.some.injEq] at ho; subst ho
            refine wp_gapp _ ent_under ent_info (by kernel_rfl) (by decide) (by decide) (.tmp 40) (.tmp 43) rfl rfl E1 rfl (erw ((R6.out.on (b_1)).row.take (k := a) (by omega))) (eS.rcs_one _) (by omega) ?_
            intro Aa2 ca2 v2 o2 hg2
            rw [List.nil_append] at o2
            rw [Nat.zero_add] at o2 ⊢
            have b_2 := (b_1).grown hg2 (b_1).size (fun q hq => (E1.lt q hq).1)
            have s2 : rS.rd v2 ⟨w.heap.size, 0, none⟩ = some (D.toR k) := (Shp.rd_to (hg2.block _ (Shp.rd_lt s1) fun e => Nat.not_lt_of_le (E1.lt _ e.symm).1 l6)).trans s1
            refine hK.out _ _ s2 (fun _ => ?_)
            clear hK K
            try simp only [Act.put, List.setIfInBounds_toArray, List.set_cons_zero, List.set_cons_succ]
            have t2 := Nat.lt_of_lt_of_le t1 hg2.size
            refine nextS 8 (by kernel_rfl) (by rfl) (fun o ho K hK => ?_)
            simp only [List.getElem?_toArray, List.getElem?_cons_succ, List.getElem?_cons_zero, Option.some.injEq] at ho; subst ho
            go_simp
            have a3 := below_alloc_ v2 (.cells (eS.v (k, v)) 59)
            refine hK.out _ _ (Shp.rd_on s2 a3) (fun _ => ?_)
            clear hK K
            try simp only [Act.put, List.setIfInBounds_toArray, List.set_cons_zero, List.set_cons_succ]
            have s3 := Shp.rd_on s2 a3
            obtain ⟨q3, hq3⟩ : ∃ q, v2.heap.size = q := ⟨_, rfl⟩
            obtain ⟨v3, hv3⟩ : ∃ V, v2.alloc (.cells (eS.v (k, v)) 59) = V := ⟨_, rfl⟩
            have t3 : q3 < v3.heap.size := by rw [← hv3, ← hq3]; simp
            have ne3 : q1 ≠ q3 := by have := t2; omega
            have tt3 : q1 < v3.heap.size := by rw [← hv3]; have := t2; simp; omega
            rw [hv3] at a3 s3
            have X3 : Rw 26 v3 (some ⟨q3, 0, none⟩) 1 (eS.rcs [(k, v)]) := by rw [← hv3, ← hq3, show eS.rcs [(k, v)] = (eS.v (k, v)).toList by simp [Shp.rcs, Shp.v]]; exact rw_new v2 26 59 1 (eS.v (k, v)) (by rw [eS.v_size]; rfl)
            try rw [hv3]
            try rw [hq3]
            have Y3_4 := o2.on a3
            have b_3 := below_up (b_2) (b_2).size a3
            clear hv3
            refine nextS 9 (by kernel_rfl) (by rfl) (fun o ho K hK => ?_)
            simp only [List.getElem?_toArray, List.getElem?_cons_succ, List.getElem?_cons_zero, Option.some.injEq] at ho; subst ho
            refine wp_gapp _ ent_under ent_info (by kernel_rfl) (by decide) (by decide) (.tmp 44) (.tmp 48) rfl rfl Y3_4 rfl X3 (eS.rcs_one _) (by omega) ?_
            intro Aa4 ca4 v4 o4 hg4
            have b_4 := (b_3).grown hg4 (b_3).size (fun q hq => (Y3_4.lt q hq).1)
            have s4 : rS.rd v4 ⟨w.heap.size, 0, none⟩ = some (D.toR k) := (Shp.rd_to (hg4.block _ (Shp.rd_lt s3) fun e => Nat.not_lt_of_le (Y3_4.lt _ e.symm).1 l6)).trans s3
            refine hK.out _ _ s4 (fun _ => ?_)
            clear hK K
            try simp only [Act.put, List.setIfInBounds_toArray, List.set_cons_zero, List.set_cons_succ]
            have t4 := Nat.lt_of_lt_of_le t3 hg4.size
            refine takeS 10 (some 8) ?vsz410 (by kernel_rfl) (by kernel_rfl) (by kernel_rfl) (by kernel_rfl) (fun _ _ _ h => h) (by rfl) ?hysz410 s4 ?restsz410
            case hysz410 => (intro o ho W hW; simp only [List.getElem?_toArray, List.getElem?_cons_succ, List.getElem?_cons_zero, Option.some.injEq] at ho; subst ho; go_simp; try rfl)
            try simp only [Act.put, List.setIfInBounds_toArray, List.set_cons_zero, List.set_cons_succ]
            refine wpAnyH_done (by kernel_rfl) ?_ _
            refine NoPanic.normal ?_
            have R10 := HR9.out _ _ (R6.out.on b_4).row hnc
            have b10 := Lib.hid (B6.out.trans (b_4.mono B6.out.size))
            go_wp2_with (first
              | (at_builtin; refine gapp _ ent_under ent_info (by kernel_rfl) (by decide) (by decide) rfl (.tmp 50) (.tmp 53) rfl rfl o4 rfl (erw R10) (eS.rcs_one _) (by omega) ?_; intro A99 c99 y99 o99 hg99 hor99; have B99 := Lib.hid (b10.out.grown hg99 b10.out.size (fun q hq => by have := (o4.lt q hq).1; have := B6.out.size; omega)); have O99 := Lib.hid o99; clear o99 hg99 hor99)
              | fail)
            have O12 := O99.out
            rw [show eS.rcs (l.take a) ++ eS.rcs [(k, v)] ++ eS.rcs (l.drop a) = eS.rcs (l.take a ++ (k, v) :: l.drop a) by rw [← Shp.rcs_app, ← Shp.rcs_app, List.append_assoc]; rfl] at O12
            have hl12 : (l.take a ++ (k, v) :: l.drop a).length = a + 1 + (n - a) := by rw [List.length_append, List.length_take, List.length_cons, List.length_drop]; omega
            exact bodyPost_ret (results_tmp2 rfl _ _ _) rfl (HP.out _ _ ⟨A99, c99, by rw [HPT.out, hl12]; rfl, by rw [HPT.out, hl12]; exact O12.cap.1, by rw [HPT.out, hl12]; exact DE.of O12, HB.out.trans (B99.out.mono HB.out.size)⟩)
          · simp only [List.getElem?_toArray, List.getElem?_cons_succ, List.getElem?_cons_zero, Option.some.injEq] at ho; subst ho
            go_simp
            have a5 := below_alloc_ v1 (.cells (eS.v (k, v)) 59)
            refine hK.out _ _ (Shp.rd_on s1 a5) (fun _ => ?_)
            clear hK K
            try simp only [Act.put, List.setIfInBounds_toArray, List.set_cons_zero, List.set_cons_succ]
            have s5 := Shp.rd_on s1 a5
            obtain ⟨q5, hq5⟩ : ∃ q, v1.heap.size = q := ⟨_, rfl⟩
            obtain ⟨v5, hv5⟩ : ∃ V, v1.alloc (.cells (eS.v (k, v)) 59) = V := ⟨_, rfl⟩
            have t5 : q5 < v5.heap.size := by rw [← hv5, ← hq5]; simp
            have ne5 : q1 ≠ q5 := by have := t1; omega
            have tt5 : q1 < v5.heap.size := by rw [← hv5]; have := t1; simp; omega
            rw [hv5] at a5 s5
            have X5 : Rw 26 v5 (some ⟨q5, 0, none⟩) 1 (eS.rcs [(k, v)]) := by rw [← hv5, ← hq5, show eS.rcs [(k, v)] = (eS.v (k, v)).toList by simp [Shp.rcs, Shp.v]]; exact rw_new v1 26 59 1 (eS.v (k, v)) (by rw [eS.v_size]; rfl)
            try rw [hv5]
            try rw [hq5]
            have Y5_0 := E1.on a5
            have b_5 := below_up (b_1) (b_1).size a5
            clear hv5
            refine nextS 4 (by kernel_rfl) (by rfl) (fun o ho K hK => ?_)
            simp only [List.getElem?_toArray, List.getElem?_cons_succ, List.getElem?_cons_zero, Option.some.injEq] at ho; subst ho
            refine wp_gapp _ ent_under ent_info (by kernel_rfl) (by decide) (by decide) (.tmp 40) (.tmp 43) rfl rfl Y5_0 rfl (erw ((R6.out.on (b_5)).row.take (k := a) (by omega))) (eS.rcs_one _) (by omega) ?_
            intro Aa6 ca6 v6 o6 hg6
            rw [List.nil_append] at o6
            rw [Nat.zero_add] at o6 ⊢
            have b_6 := (b_5).grown hg6 (b_5).size (fun q hq => (Y5_0.lt q hq).1)
            have s6 : rS.rd v6 ⟨w.heap.size, 0, none⟩ = some (D.toR k) := (Shp.rd_to (hg6.block _ (Shp.rd_lt s5) fun e => Nat.not_lt_of_le (Y5_0.lt _ e.symm).1 l6)).trans s5
            refine hK.out _ _ s6 (fun _ => ?_)
            clear hK K
            try simp only [Act.put, List.setIfInBounds_toArray, List.set_cons_zero, List.set_cons_succ]
            have t6 := Nat.lt_of_lt_of_le t5 hg6.size
            have Y6_8 := rw_kept X5 hg6 (fun e => by simp [Value.ownBlock] at e; have := ne5; omega) t5
            refine nextS 9 (by kernel_rfl) (by rfl) (fun o ho K hK => ?_)
            simp only [List.getElem?_toArray, List.getElem?_cons_succ, List.getElem?_cons_zero, Option.some.injEq] at ho; subst ho
            refine wp_gapp _ ent_under ent_info (by kernel_rfl) (by decide) (by decide) (.tmp 44) (.tmp 48) rfl rfl o6 rfl Y6_8 (eS.rcs_one _) (by omega) ?_
            intro Aa7 ca7 v7 o7 hg7
            have b_7 := (b_6).grown hg7 (b_6).size (fun q hq => (o6.lt q hq).1)
            have s7 : rS.rd v7 ⟨w.heap.size, 0, none⟩ = some (D.toR k) := (Shp.rd_to (hg7.block _ (Shp.rd_lt s6) fun e => Nat.not_lt_of_le (o6.lt _ e.symm).1 l6)).trans s6
            refine hK.out _ _ s7 (fun _ => ?_)
            clear hK K
            try simp only [Act.put, List.setIfInBounds_toArray, List.set_cons_zero, List.set_cons_succ]
            have t7 := Nat.lt_of_lt_of_le t6 hg7.size
            refine takeS 10 (some 8) ?vsz510 (by kernel_rfl) (by kernel_rfl) (by kernel_rfl) (by kernel_rfl) (fun _ _ _ h => h) (by rfl) ?hysz510 s7 ?restsz510
            case hysz510 => (intro o ho W hW; simp only [List.getElem?_toArray, List.getElem?_cons_succ, List.getElem?_cons_zero, Option.some.injEq] at ho; subst ho; go_simp; try rfl)
            try simp only [Act.put, List.setIfInBounds_toArray, List.set_cons_zero, List.set_cons_succ]
            refine wpAnyH_done (by kernel_rfl) ?_ _
            refine NoPanic.normal ?_
            have R10 := HR9.out _ _ (R6.out.on b_7).row hnc
            have b10 := Lib.hid (B6.out.trans (b_7.mono B6.out.size))
            go_wp2_with (first
              | (at_builtin; refine gapp _ ent_under ent_info (by kernel_rfl) (by decide) (by decide) rfl (.tmp 50) (.tmp 53) rfl rfl o7 rfl (erw R10) (eS.rcs_one _) (by omega) ?_; intro A99 c99 y99 o99 hg99 hor99; have B99 := Lib.hid (b10.out.grown hg99 b10.out.size (fun q hq => by have := (o7.lt q hq).1; have := B6.out.size; omega)); have O99 := Lib.hid o99; clear o99 hg99 hor99)
              | fail)
            have O12 := O99.out
            rw [show eS.rcs (l.take a) ++ eS.rcs [(k, v)] ++ eS.rcs (l.drop a) = eS.rcs (l.take a ++ (k, v) :: l.drop a) by rw [← Shp.rcs_app, ← Shp.rcs_app, List.append_assoc]; rfl] at O12
            have hl12 : (l.take a ++ (k, v) :: l.drop a).length = a + 1 + (n - a) := by rw [List.length_append, List.length_take, List.length_cons, List.length_drop]; omega
            exact bodyPost_ret (results_tmp2 rfl _ _ _) rfl (HP.out _ _ ⟨A99, c99, by rw [HPT.out, hl12]; rfl, by rw [HPT.out, hl12]; exact O12.cap.1, by rw [HPT.out, hl12]; exact DE.of O12, HB.out.trans (B99.out.mono HB.out.size)⟩)
        · simp only [List.getElem?_toArray, List.getElem?_cons_succ, List.getElem?_cons_zero, Option.some.injEq] at ho; subst ho
          go_simp
          have a8 := below_alloc_ w6 (.cells (eS.v (k, v)) 59)
          refine hK.out _ _ (Shp.rd_on r6 a8) (fun _ => ?_)
          clear hK K
          try simp only [Act.put, List.setIfInBounds_toArray, List.set_cons_zero, List.set_cons_succ]
          have s8 := Shp.rd_on r6 a8
          obtain ⟨q8, hq8⟩ : ∃ q, w6.heap.size = q := ⟨_, rfl⟩
          obtain ⟨v8, hv8⟩ : ∃ V, w6.alloc (.cells (eS.v (k, v)) 59) = V := ⟨_, rfl⟩
          have t8 : q8 < v8.heap.size := by rw [← hv8, ← hq8]; simp
          rw [hv8] at a8 s8
          have X8 : Rw 26 v8 (some ⟨q8, 0, none⟩) 1 (eS.rcs [(k, v)]) := by rw [← hv8, ← hq8, show eS.rcs [(k, v)] = (eS.v (k, v)).toList by simp [Shp.rcs, Shp.v]]; exact rw_new w6 26 59 1 (eS.v (k, v)) (by rw [eS.v_size]; rfl)
          try rw [hv8]
          try rw [hq8]
          have b_8 := below_up ((Below.refl w6.heap.size w6)) ((Below.refl w6.heap.size w6)).size a8
          clear hv8
          refine nextS 0 (by kernel_rfl) (by rfl) (fun o ho K hK => ?_)
          simp only [List.getElem?_toArray, List.getElem?_cons_succ, List.getElem?_cons_zero, Option.some.injEq] at ho; subst ho
          go_simp
          have a9 := below_alloc_ v8 (.cells #[] 59)
          refine hK.out _ _ (Shp.rd_on s8 a9) (fun _ => ?_)
          clear hK K
          try simp only [Act.put, List.setIfInBounds_toArray, List.set_cons_zero, List.set_cons_succ]
          have s9 := Shp.rd_on s8 a9
          obtain ⟨q9, hq9⟩ : ∃ q, v8.heap.size = q := ⟨_, rfl⟩
          obtain ⟨v9, hv9⟩ : ∃ V, v8.alloc (.cells #[] 59) = V := ⟨_, rfl⟩
          have t9 : q9 < v9.heap.size := by rw [← hv9, ← hq9]; simp
          have ne9 : q8 ≠ q9 := by have := t8; omega
          have tt9 : q8 < v9.heap.size := by rw [← hv9]; have := t8; simp; omega
          rw [hv9] at a9 s9
          have E9 : Ow 59 26 w6.heap.size v9 (some ⟨q9, 0, none⟩) 0 0 [] := by rw [← hv9, ← hq9]; exact ⟨World.ownsRow_lit v8 #[] 0 (b_8).size (by simp [maxLen]) rfl, by have := (b_8).size; first | (simp; done) | (simp; omega)⟩
          try rw [hv9]
          try rw [hq9]
          have Y9_8 := X8.on a9
          have b_9 := below_up (b_8) (b_8).size a9
          clear hv9
          refine nextS 4 (by kernel_rfl) (by rfl) (fun o ho K hK => ?_)
          simp only [List.getElem?_toArray, List.getElem?_cons_succ, List.getElem?_cons_zero, Option.some.injEq] at ho; subst ho
          refine wp_gapp _ ent_under ent_info (by kernel_rfl) (by decide) (by decide) (.tmp 40) (.tmp 43) rfl rfl E9 rfl (erw ((R6.out.on (b_9)).row.take (k := a) (by omega))) (eS.rcs_one _) (by omega) ?_
          intro Aa10 ca10 v10 o10 hg10
          rw [List.nil_append] at o10
          rw [Nat.zero_add] at o10 ⊢
          have b_10 := (b_9).grown hg10 (b_9).size (fun q hq => (E9.lt q hq).1)
          have s10 : rS.rd v10 ⟨w.heap.size, 0, none⟩ = some (D.toR k) := (Shp.rd_to (hg10.block _ (Shp.rd_lt s9) fun e => Nat.not_lt_of_le (E9.lt _ e.symm).1 l6)).trans s9
          refine hK.out _ _ s10 (fun _ => ?_)
          clear hK K
          try simp only [Act.put, List.setIfInBounds_toArray, List.set_cons_zero, List.set_cons_succ]
          have t10 := Nat.lt_of_lt_of_le t9 hg10.size
          have Y10_8 := rw_kept Y9_8 hg10 (fun e => by simp [Value.ownBlock] at e; have := ne9; omega) tt9
          refine nextS 9 (by kernel_rfl) (by rfl) (fun o ho K hK => ?_)
          simp only [List.getElem?_toArray, List.getElem?_cons_succ, List.getElem?_cons_zero, Option.some.injEq] at ho; subst ho
          refine wp_gapp _ ent_under ent_info (by kernel_rfl) (by decide) (by decide) (.tmp 44) (.tmp 48) rfl rfl o10 rfl Y10_8 (eS.rcs_one _) (by omega) ?_
          intro Aa11 ca11 v11 o11 hg11
          have b_11 := (b_10).grown hg11 (b_10).size (fun q hq => (o10.lt q hq).1)
          have s11 : rS.rd v11 ⟨w.heap.size, 0, none⟩ = some (D.toR k) := (Shp.rd_to (hg11.block _ (Shp.rd_lt s10) fun e => Nat.not_lt_of_le (o10.lt _ e.symm).1 l6)).trans s10
          refine hK.out _ _ s11 (fun _ => ?_)
          clear hK K
          try simp only [Act.put, List.setIfInBounds_toArray, List.set_cons_zero, List.set_cons_succ]
          have t11 := Nat.lt_of_lt_of_le t10 hg11.size
          refine takeS 10 (some 8) ?vsz610 (by kernel_rfl) (by kernel_rfl) (by kernel_rfl) (by kernel_rfl) (fun _ _ _ h => h) (by rfl) ?hysz610 s11 ?restsz610
          case hysz610 => (intro o ho W hW; simp only [List.getElem?_toArray, List.getElem?_cons_succ, List.getElem?_cons_zero, Option.some.injEq] at ho; subst ho; go_simp; try rfl)
          try simp only [Act.put, List.setIfInBounds_toArray, List.set_cons_zero, List.set_cons_succ]
          refine wpAnyH_done (by kernel_rfl) ?_ _
          refine NoPanic.normal ?_
          have R10 := HR9.out _ _ (R6.out.on b_11).row hnc
          have b10 := Lib.hid (B6.out.trans (b_11.mono B6.out.size))
          go_wp2_with (first
            | (at_builtin; refine gapp _ ent_under ent_info (by kernel_rfl) (by decide) (by decide) rfl (.tmp 50) (.tmp 53) rfl rfl o11 rfl (erw R10) (eS.rcs_one _) (by omega) ?_; intro A99 c99 y99 o99 hg99 hor99; have B99 := Lib.hid (b10.out.grown hg99 b10.out.size (fun q hq => by have := (o11.lt q hq).1; have := B6.out.size; omega)); have O99 := Lib.hid o99; clear o99 hg99 hor99)
            | fail)
          have O12 := O99.out
          rw [show eS.rcs (l.take a) ++ eS.rcs [(k, v)] ++ eS.rcs (l.drop a) = eS.rcs (l.take a ++ (k, v) :: l.drop a) by rw [← Shp.rcs_app, ← Shp.rcs_app, List.append_assoc]; rfl] at O12
          have hl12 : (l.take a ++ (k, v) :: l.drop a).length = a + 1 + (n - a) := by rw [List.length_append, List.length_take, List.length_cons, List.length_drop]; omega
          exact bodyPost_ret (results_tmp2 rfl _ _ _) rfl (HP.out _ _ ⟨A99, c99, by rw [HPT.out, hl12]; rfl, by rw [HPT.out, hl12]; exact O12.cap.1, by rw [HPT.out, hl12]; exact DE.of O12, HB.out.trans (B99.out.mono HB.out.size)⟩)
end Go.Proofs.Ytkhjnfplcaffnaa
set_option linter.unusedVariables false
set_option linter.unusedSimpArgs false
set_option maxRecDepth 100000
namespace Go.Proofs.Ytkhjnfplcaffnaa
open Go.RowKit
attribute [local go_sem ↓] Go.wp_at_zero Go.wp_at_succ ld_k lv_k st_k eq_k ne_k bd_k ld_b lv_b st_b eq_b ne_b bd_25 ld_r lv_r st_rk eq_rk ne_rk bd_r ld_p lv_p st_px bd_p Nm.ld_a Nm.ld_n Nm.st_a Nm.st_n Nm.eq_a Nm.eq_n Nm.ne_a Nm.ne_n Nm.lv_a Nm.lv_n ld_a ld_n st_a st_n eq_a eq_n ne_a ne_n lv_a lv_n ld_l lv_l st_l bd_l bd_n bs_l bs_k ld_e lv_e bd_e bs_e ld_ac lv_ac st_ac
attribute [local go_sem] run_ldk run_lvk run_stk run_eqk run_nek run_bdk_z run_ldb run_lvb run_stb run_eqb run_neb run_ldr run_lvr run_strk run_eqrk run_nerk run_bdr_z run_ldp run_lvp run_stpx Nm.run_ld_a Nm.run_ld_n Nm.run_st_n Nm.run_eq_a Nm.run_eq_n Nm.run_ne_a Nm.run_ne_n Nm.run_lv_a Nm.run_lv_n Nm.rd_new Nm.rd_old Nm.rd_drew Nm.rd_drewN run_ld_a run_ld_n run_sw_a run_sw_n run_eq_a run_eq_n run_ne_a run_ne_n run_lv_a run_lv_n st_z ne_z eq_z rd_new rd_old rd_drew rd_drewN Shp.rd_new Shp.rd_old Shp.rd_drew Shp.rd_drewN Shp.rd_set Shp.tn_new Shp.tn_old Shp.tn_drew Shp.tn_drewN tn_new tn_old tn_drew tn_drewN rd_set setRow_alloc run_stn3 run_stt15 run_lvl run_ldl run_stl run_bdl run_bdn run_bdn0 run_bsl run_bsk run_lde run_lve run_bde run_bse run_bse0 run_lda run_lva run_sta Shp.rd_extk cell_ext

theorem toR_zK : D.toR D.zK = D.zR := by
  apply rcells_inj
  rfl
set_option maxHeartbeats 4000000 in
theorem rnext_any {w : World} {A : Option Addr} {n c : Nat} {l : List Lf} (hr : Shp.Row eS w A n l) (hn : n ≤ 1000000) (k : D.Ky) :
    Calls Try.prog 20 #[.slice A n c, .agg (rS.v (D.toR k))] w fun e w' => e = .returned (.tuple #[.agg (rS.v (D.toR (nx k l))), .bool (Cr.nxt k l).isSome]) ∧ Below w.heap.size w w' := by
  have hlen := hr.len
  obtain ⟨w0, hw0⟩ : ∃ w0, (w.alloc (.cells (rS.v (D.toR k)) 40)).alloc (.cells #[.int .i64 0, .int .i64 0, .int .i64 0, .int .u8 0, .int .u8 0, .int .u8 0, .int .u8 0, .int .u8 0, .int .u8 0, .int .u8 0, .int .u8 0, .int .u8 0, .int .u8 0, .int .u8 0, .int .u8 0, .int .u8 0, .int .u8 0, .int .u8 0, .int .u8 0, .int .u8 0, .int .u8 0, .int .u8 0, .int .u8 0, .int .u8 0, .int .u8 0] 40) = w0 := ⟨_, rfl⟩
  have q0 : rS.rd w0 ⟨w.heap.size, 0, none⟩ = some (D.toR k) := by rw [← hw0]; exact Shp.rd_on (Shp.rd_new (S := rS) w _ _ _ rfl) (below_alloc_ _ _)
  have b0 : Below w.heap.size w w0 := by rw [← hw0]; exact (below_alloc_ _ _).alloc (by simp) _
  have k0 : Shp.tn 25 w0 (w.heap.size + 1) = true := by rw [← hw0]; exact Shp.tn_new _ _ _ _ _ (by simp) rfl
  have HR := Lib.hid (hr.on b0)
  have HB := Lib.hid b0
  have HQ := Lib.hid q0
  have HK0 := Lib.hid k0
  have HL := Lib.hid hlen
  clear hr b0 q0 k0
  go_enter Try.func20, Try.ntmps20
  go_wp2_with fail
  try rw [hw0]
  clear hw0
  go_loopw [6] (fun s6 wx => ∃ i : Nat, i ≤ n ∧ s6 = .int .i64 i ∧ Hid (∀ (j : Nat), j < i → ∀ e, l[j]? = some e → Cr.lt k e.1 = false) ∧ Hid (Below w0.heap.size w0 wx)) (fun s6 _ => n - (intOf s6).toNat)
  case atStart => exact ⟨0, Nat.zero_le _, rfl, Lib.hid (fun j h => by omega), Lib.hid (Below.refl _ _)⟩
  case round =>
    obtain ⟨i, hin, rfl, HN, HW⟩ := hrel
    by_cases hlt : i < n
    · have i0 : (0 : Int) ≤ (i : Int) := by omega
      have i1 : (i : Int) < (n : Int) := by omega
      obtain ⟨e, he⟩ : ∃ e, l[i]? = some e := ⟨_, List.getElem?_eq_getElem (by omega)⟩
      obtain ⟨ad, hAe, hal, hrd⟩ := (HR.out.on HW.out).rd he
      subst hAe
      obtain ⟨r1, -⟩ := er hrd
      have r0 := Shp.rd_on HQ.out HW.out
      have l0 : w.heap.size < wr.heap.size := Shp.rd_lt r0
      have r2 : (ad.add (i * 26)).block < wr.heap.size := Shp.rd_lt r1
      have HE := Lib.hid he
      have CL := Lib.hid (fun (o : On) => rless_key k e.1 (Cr.lt k e.1) (ext wr o) ⟨D.lt_cmp k e.1⟩)
      clear hrd he
      cases hl : Cr.lt k e.1 with
      | true =>
        rw [hl] at CL
        have HX := Lib.hid (Cr.nxt_is HE.out hl HN.out)
        clear hl
        go_wp2_with fail
        refine wp_region_ext (by kernel_rfl) (by kernel_rfl) ?_
        repeat (go_big_quiet_step ((go_at_call 30; with_reducible exact calls_ext (CL.out _))))
        refine wpQuiet_nil ?_
        intro w5 hw5
        have b5 := ext_to hw5
        have r5 := Shp.rd_on r1 b5
        have k5 := Shp.tn_on (Shp.tn_on HK0.out HW.out) b5
        have B5 := Lib.hid (below_up HB.out HB.out.size (HW.out.trans (b5.mono HW.out.size)))
        clear hw5 b5 r1 r0 l0 r2 CL
        go_wp2_with fail
        have hset := Shp.rd_set (S := rS) w5 (w.heap.size + 1) (D.toR e.1) k5
        refine bodyPost_ret (v := .tuple #[.agg (rS.v (D.toR e.1)), .bool true]) (by rw [results_ct rfl]; simp [asAddr, Result.andThen, lvr_of hset]) rfl ⟨by unfold nx; rw [HX.out]; rfl, below_setRow B5.out (Nat.le_succ _) _⟩
      | false =>
        rw [hl] at CL
        have HLT := Lib.hid hl
        clear hl
        go_wp2_with fail
        refine wp_region_ext (by kernel_rfl) (by kernel_rfl) ?_
        repeat (go_big_quiet_step ((go_at_call 30; with_reducible exact calls_ext (CL.out _))))
        refine wpQuiet_nil ?_
        intro w5 hw5
        have b5 := ext_to hw5
        clear hw5 CL
        go_wp2
        go_roundw
        case rel => exact ⟨i + 1, by omega, by go_num, Lib.hid (fun j hj e' he' => by
          by_cases e2 : j = i
          · subst e2; rw [HE.out] at he'; injection he' with he'; subst he'; exact HLT.out
          · exact HN.out j (by omega) e' he'), Lib.hid (HW.out.trans (b5.mono HW.out.size))⟩
        case measure => simp [intOf]; omega
    · have HX := Lib.hid (Cr.nxt_no (k := k) (l := l) fun j e he => HN.out j (by have := (List.getElem?_eq_some_iff.1 he).1; have := HL.out; omega) e he)
      have i1 : ¬ ((i : Int) < (n : Int)) := by omega
      have k5 := Shp.tn_on HK0.out HW.out
      have B5 := Lib.hid (below_up HB.out HB.out.size HW.out)
      go_wp2_with fail
      have hset := Shp.rd_set (S := rS) wr (w.heap.size + 1) D.zR k5
      refine bodyPost_ret (v := .tuple #[.agg (rS.v D.zR), .bool false]) (by rw [results_ct rfl]; simp [asAddr, Result.andThen, lvr_of hset]) rfl ⟨by unfold nx; rw [HX.out]; show _ = Ending.returned (.tuple #[.agg (rS.v (D.toR D.zK)), .bool false]); rw [toR_zK], below_setRow B5.out (Nat.le_succ _) _⟩
end Go.Proofs.Ytkhjnfplcaffnaa
