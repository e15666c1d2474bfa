/-
  may of a table of keys' owners.
-/
import Derived.Test.YtgobbdfgjgjigaaGreatDoorItk
set_option linter.unusedVariables false
set_option linter.unusedSimpArgs false
set_option maxRecDepth 100000
namespace Go.Proofs.YtgobbdfgjgjigaaGreatDoor
open Go.RowKit
attribute [local go_sem ↓] Go.wp_at_zero Go.wp_at_succ ld_k lv_k st_k eq_k ne_k bd_k Nm.ld_a Nm.ld_n Nm.st_a Nm.st_n Nm.eq_a Nm.eq_n Nm.ne_a Nm.ne_n Nm.lv_a Nm.lv_n ld_a ld_n st_a st_n eq_a eq_n ne_a ne_n lv_a lv_n
attribute [local go_sem] run_ldk run_lvk run_stk run_eqk run_nek run_bdk_z Nm.run_ld_a Nm.run_ld_n Nm.run_st_n Nm.run_eq_a Nm.run_eq_n Nm.run_ne_a Nm.run_ne_n Nm.run_lv_a Nm.run_lv_n Nm.rd_new Nm.rd_old Nm.rd_drew Nm.rd_drewN run_ld_a run_ld_n run_sw_a run_sw_n run_eq_a run_eq_n run_ne_a run_ne_n run_lv_a run_lv_n st_z ne_z eq_z rd_new rd_old rd_drew rd_drewN Shp.rd_new Shp.rd_old Shp.rd_drew Shp.rd_drewN Shp.rd_set Shp.tn_new Shp.tn_old Shp.tn_drew Shp.tn_drewN setRow_alloc run_stn3 run_stt15 bdk1 bdk2 bdk3 bdk4
set_option maxHeartbeats 1000000 in
theorem may_at {base p : Nat} {w : World} {M : Option Nat} {s : D.It} (h : TabI base w p M s) (o : Int) (x : D.Ky) (v : Int) (q : Bool) (r : Int) (hk : D.kright x = true) (hl : (s.f x).getD 0 = v ∧ (s.f x).isSome = q) (hr : (q && (v != o)) = true ∧ r = 11 ∨ (q && (v != o)) = false ∧ r = 0) :
    Calls Tryz.prog 21 #[.pointer (some ⟨p, 0, none⟩), .int .i64 o, .agg (kS.v x)] w fun e w' => e = .returned (.int .i64 r) ∧ Below w.heap.size w w' := by
  have b1 := below_alloc_ w (.cells (kS.v x) 30)
  have f1 := Shp.rd_new (S := kS) w w.heap.size 30 x rfl
  have h1 := h.on b1
  obtain ⟨w0, hw0⟩ : ∃ w0, w.alloc (.cells (kS.v x) 30) = w0 := ⟨_, rfl⟩
  rw [hw0] at b1 f1 h1
  have CR := Lib.hid (fun W => keyright_any x W)
  rw [hk] at CR
  have HB := Lib.hid b1
  have HT := Lib.hid h1
  have HF := Lib.hid f1
  have HL := Lib.hid hl
  clear b1 h1 hl h hk
  go_enter Tryz.func21, Tryz.ntmps21
  go_wp2_with fail
  try rw [hw0]
  clear hw0
  go_wp2_with (go_at_call 31; (with_reducible refine (CR.out _).mono ?_); rintro e w1 ⟨rfl, b2⟩; have HB2 := Lib.hid b2; clear b2)
  have cB := Lib.hid (fun (W : World) (hW : Below w1.heap.size w1 W) => ((HT.out.on HB2.out).on hW).blk.cell)
  have fB := Lib.hid (fun (W : World) (hW : Below w1.heap.size w1 W) => Shp.rd_on (Shp.rd_on HF.out HB2.out) hW)
  have lB := Lib.hid (fun (W : World) (hW : Below w1.heap.size w1 W) => ((HT.out.on HB2.out).on hW).look x)
  rw [HL.out.1, HL.out.2] at lB
  have fin : Hid (Below w.heap.size w w1.drew) := Lib.hid (below_drewN (below_up HB.out HB.out.size HB2.out) 1)
  refine wp_region_noPanic ?_
  refine wp_region_held_drew (S := fun W => Below w1.heap.size w1 W) (by kernel_rfl) (Below.refl _ _).drew (fun _ => ?_)
  refine takeS 0 (some 13) ?v2 (by kernel_rfl) (by kernel_rfl) (by kernel_rfl) (by kernel_rfl) (fun _ _ _ h => h) (by rfl) ?hy2 (Below.refl _ _).drew ?rest2
  case hy2 => (intro o ho W hW; simp only [List.getElem?_toArray, List.getElem?_cons_succ, List.getElem?_cons_zero, Option.some.injEq] at ho; subst ho; (try dsimp only at hW); skip; go_simp; try rfl)
  try simp only [Act.put, List.setIfInBounds_toArray, List.set_cons_zero, List.set_cons_succ]
  refine takeS 1 (some 14) ?v3 (by kernel_rfl) (by kernel_rfl) (by kernel_rfl) (by kernel_rfl) (fun _ _ _ h => h) (by rfl) ?hy3 (Below.refl _ _).drew ?rest3
  case hy3 => (intro o ho W hW; simp only [List.getElem?_toArray, List.getElem?_cons_succ, List.getElem?_cons_zero, Option.some.injEq] at ho; subst ho; (try dsimp only at hW); skip; go_simp; try rfl)
  try simp only [Act.put, List.setIfInBounds_toArray, List.set_cons_zero, List.set_cons_succ]
  refine takeS 2 (some 15) ?v4 (by kernel_rfl) (by kernel_rfl) (by kernel_rfl) (by kernel_rfl) (fun _ _ _ h => h) (by rfl) ?hy4 (Below.refl _ _).drew ?rest4
  case hy4 => (intro o ho W hW; simp only [List.getElem?_toArray, List.getElem?_cons_succ, List.getElem?_cons_zero, Option.some.injEq] at ho; subst ho; (try dsimp only at hW); skip; go_simp; try rfl)
  try simp only [Act.put, List.setIfInBounds_toArray, List.set_cons_zero, List.set_cons_succ]
  refine takeS 3 (some 16) ?v5 (by kernel_rfl) (by kernel_rfl) (by kernel_rfl) (by kernel_rfl) (fun _ _ _ h => h) (by rfl) ?hy5 (Below.refl _ _).drew ?rest5
  case hy5 => (intro o ho W hW; simp only [List.getElem?_toArray, List.getElem?_cons_succ, List.getElem?_cons_zero, Option.some.injEq] at ho; subst ho; (try dsimp only at hW); have g3 := cB.out W hW; clear hW; go_simp; try rfl)
  try simp only [Act.put, List.setIfInBounds_toArray, List.set_cons_zero, List.set_cons_succ]
  refine takeS 4 (some 17) ?v6 (by kernel_rfl) (by kernel_rfl) (by kernel_rfl) (by kernel_rfl) (fun _ _ _ h => h) (by rfl) ?hy6 (Below.refl _ _).drew ?rest6
  case hy6 => (intro o ho W hW; simp only [List.getElem?_toArray, List.getElem?_cons_succ, List.getElem?_cons_zero, Option.some.injEq] at ho; subst ho; (try dsimp only at hW); have g4 := fB.out W hW; clear hW; go_simp; try rfl)
  try simp only [Act.put, List.setIfInBounds_toArray, List.set_cons_zero, List.set_cons_succ]
  refine takeS 5 (some 18) ?v7 (by kernel_rfl) (by kernel_rfl) (by kernel_rfl) (by kernel_rfl) (fun _ _ _ h => h) (by rfl) ?hy7 (Below.refl _ _).drew ?rest7
  case hy7 => (intro o ho W hW; simp only [List.getElem?_toArray, List.getElem?_cons_succ, List.getElem?_cons_zero, Option.some.injEq] at ho; subst ho; (try dsimp only at hW); have g5 := lB.out W hW; clear hW; go_simp; try rfl)
  try simp only [Act.put, List.setIfInBounds_toArray, List.set_cons_zero, List.set_cons_succ]
  refine takeS 6 (some 12) ?v8 (by kernel_rfl) (by kernel_rfl) (by kernel_rfl) (by kernel_rfl) (fun _ _ _ h => h) (by rfl) ?hy8 (Below.refl _ _).drew ?rest8
  case hy8 => (intro o ho W hW; simp only [List.getElem?_toArray, List.getElem?_cons_succ, List.getElem?_cons_zero, Option.some.injEq] at ho; subst ho; (try dsimp only at hW); skip; go_simp; try rfl)
  try simp only [Act.put, List.setIfInBounds_toArray, List.set_cons_zero, List.set_cons_succ]
  refine takeS 7 (some 19) ?v9 (by kernel_rfl) (by kernel_rfl) (by kernel_rfl) (by kernel_rfl) (fun _ _ _ h => h) (by rfl) ?hy9 (Below.refl _ _).drew ?rest9
  case hy9 => (intro o ho W hW; simp only [List.getElem?_toArray, List.getElem?_cons_succ, List.getElem?_cons_zero, Option.some.injEq] at ho; subst ho; (try dsimp only at hW); skip; go_simp; try rfl)
  try simp only [Act.put, List.setIfInBounds_toArray, List.set_cons_zero, List.set_cons_succ]
  refine takeS 8 (some 20) ?v10 (by kernel_rfl) (by kernel_rfl) (by kernel_rfl) (by kernel_rfl) (fun _ _ _ h => h) (by rfl) ?hy10 (Below.refl _ _).drew ?rest10
  case hy10 => (intro o ho W hW; simp only [List.getElem?_toArray, List.getElem?_cons_succ, List.getElem?_cons_zero, Option.some.injEq] at ho; subst ho; (try dsimp only at hW); skip; go_simp; try rfl)
  try simp only [Act.put, List.setIfInBounds_toArray, List.set_cons_zero, List.set_cons_succ]
  refine takeS 9 (some 7) ?v11 (by kernel_rfl) (by kernel_rfl) (by kernel_rfl) (by kernel_rfl) (fun _ _ _ h => h) (by rfl) ?hy11 (Below.refl _ _).drew ?rest11
  case hy11 => (intro o ho W hW; simp only [List.getElem?_toArray, List.getElem?_cons_succ, List.getElem?_cons_zero, Option.some.injEq] at ho; subst ho; (try dsimp only at hW); skip; go_simp; try rfl)
  try simp only [Act.put, List.setIfInBounds_toArray, List.set_cons_zero, List.set_cons_succ]
  refine takeS 10 (some 8) ?v12 (by kernel_rfl) (by kernel_rfl) (by kernel_rfl) (by kernel_rfl) (fun _ _ _ h => h) (by rfl) ?hy12 (Below.refl _ _).drew ?rest12
  case hy12 => (intro o ho W hW; simp only [List.getElem?_toArray, List.getElem?_cons_succ, List.getElem?_cons_zero, Option.some.injEq] at ho; subst ho; (try dsimp only at hW); skip; go_simp; try rfl)
  try simp only [Act.put, List.setIfInBounds_toArray, List.set_cons_zero, List.set_cons_succ]
  refine wpAnyH_done (by kernel_rfl) ?_ _
  refine NoPanic.normal ?_
  clear cB fB lB HT HF HL CR HB HB2
  rcases hr with ⟨hq, rfl⟩ | ⟨hq, rfl⟩
  · cases q with
    | false => cases hq
    | true =>
      have hq : (v != o) = true := hq
      go_wp2
      go_ret
      exact ⟨rfl, fin.out⟩
  · cases q with
    | false =>
      go_wp2
      go_ret
      exact ⟨rfl, fin.out⟩
    | true =>
      have hq : (v != o) = false := hq
      go_wp2
      go_ret
      exact ⟨rfl, fin.out⟩
theorem may_form {base p : Nat} {w : World} {M : Option Nat} {s : D.It} (h : TabI base w p M s) (o : Int) (x : D.Ky) (hk : D.kright x = false) :
    Calls Tryz.prog 21 #[.pointer (some ⟨p, 0, none⟩), .int .i64 o, .agg (kS.v x)] w fun e w' => e = .returned (.int .i64 3) ∧ Below w.heap.size w w' := by
  have b1 := below_alloc_ w (.cells (kS.v x) 30)
  have f1 := Shp.rd_new (S := kS) w w.heap.size 30 x rfl
  obtain ⟨w0, hw0⟩ : ∃ w0, w.alloc (.cells (kS.v x) 30) = w0 := ⟨_, rfl⟩
  rw [hw0] at b1 f1
  have CR := Lib.hid (fun W => keyright_any x W)
  rw [hk] at CR
  have HB := Lib.hid b1
  clear b1 h hk
  go_enter Tryz.func21, Tryz.ntmps21
  go_wp2_with fail
  try rw [hw0]
  clear hw0
  go_wp2_with (go_at_call 31; (with_reducible refine (CR.out _).mono ?_); rintro e w1 ⟨rfl, b2⟩; have HB2 := Lib.hid b2; clear b2)
  go_ret
  exact ⟨rfl, below_up HB.out HB.out.size HB2.out⟩
theorem may_any {base p : Nat} {w : World} {M : Option Nat} {s : D.It} (h : TabI base w p M s) (o : Int) (x : D.Ky) :
    Calls Tryz.prog 21 #[.pointer (some ⟨p, 0, none⟩), .int .i64 o, .agg (kS.v x)] w fun e w' => e = .returned (.int .i64 (s.err o x : Nat)) ∧ Below w.heap.size w w' := by
  by_cases hk : D.kright x = true
  · cases hf : s.f x with
    | none =>
      have e : s.err o x = 0 := by unfold D.It.err; rw [if_pos hk, hf]
      rw [e]
      exact may_at h o x 0 false 0 hk (by rw [hf]; exact ⟨rfl, rfl⟩) (.inr ⟨rfl, rfl⟩)
    | some v =>
      by_cases hv : v = o
      · have e : s.err o x = 0 := by unfold D.It.err; rw [if_pos hk, hf]; exact if_pos hv
        rw [e]
        exact may_at h o x v true 0 hk (by rw [hf]; exact ⟨rfl, rfl⟩) (.inr ⟨by simp [hv], rfl⟩)
      · have e : s.err o x = 11 := by unfold D.It.err; rw [if_pos hk, hf]; exact if_neg hv
        rw [e]
        exact may_at h o x v true 11 hk (by rw [hf]; exact ⟨rfl, rfl⟩) (.inl ⟨by simp [hv], rfl⟩)
  · have e : s.err o x = 3 := by unfold D.It.err; rw [if_neg hk]
    rw [e]
    exact may_form h o x (by simpa using hk)
end Go.Proofs.YtgobbdfgjgjigaaGreatDoor
