/-
  The chapter's example; calls on a nil set.
-/
import Derived.Test.YtgfpdfafkimkcaaTxt
import Derived.OpenShut
set_option linter.unusedVariables false
set_option linter.unusedSimpArgs false
namespace Go.Proofs.Ytgfpdfafkimkcaa
open Go.RowKit Go.Sort
attribute [local go_sem ↓] Go.wp_at_zero Go.wp_at_succ ld_a ld_n st_a st_n eq_a eq_n ne_a ne_n bsl_a bsl_n lv_a lv_n
attribute [local go_sem] run_ld_a run_ld_n run_st_n run_eq_a run_eq_n run_ne_a run_ne_n run_bsl1_a run_bsl1_n run_bsl2 run_lv_a run_lv_n st_z ne_z rd_new rd_old rd_drew rd_drewN rd_ext

/-- Of what was there at the beginning nothing has turned. -/
structure From (w0 w : World) : Prop where
  below : Below w0.heap.size w0 w
theorem from_self (w : World) : From w w := ⟨Below.refl _ _⟩
theorem From.alloc {w0 w : World} (h : From w0 w) (o : Obj) : From w0 (w.alloc o) := ⟨h.below.alloc h.below.size o⟩
theorem From.drewN {w0 w : World} (h : From w0 w) (n : Nat) : From w0 (w.drewN n) := ⟨below_drewN h.below n⟩
theorem From.on {w0 w w' : World} (h : From w0 w) (hb : Below w.heap.size w w') : From w0 w' := ⟨h.below.trans (hb.mono h.below.size)⟩
theorem From.rd {w0 w : World} {a : Addr} {x : D.Nm} (h : From w0 w) (hr : rd w0 a = some x) : rd w a = some x := rd_on hr h.below
theorem From.lt {w0 w : World} (h : From w0 w) {n : Nat} (hn : n < w0.heap.size) : n < w.heap.size := Nat.lt_of_lt_of_le hn h.below.size

abbrev abc : ByteArray := ⟨#[97, 46, 98, 45, 99]⟩
abbrev bbb : ByteArray := ⟨#[98]⟩
abbrev long : ByteArray := ⟨#[97, 98, 99, 100, 101, 102, 103, 104, 105, 106, 107, 108, 109]⟩
theorem k_right : D.right (D.pad abc) = true := D.pad_right (by decide) (D.ns_lt abc)
theorem k_text : ts (D.pad abc) = abc := by
  have : D.txt (D.pad abc) = D.ns abc := D.pad_txt (by decide) (D.ns_lt abc)
  rw [ts, this, D.sb_ns]
theorem k_less : D.less (D.pad abc) (D.pad bbb) = true := by decide
set_option maxHeartbeats 1000000 in
theorem known_any (w : World) : Calls Try.prog 15 #[] w fun e w' => e = .returned (.bool true) ∧ Below w.heap.size w w' := by
  have cA := Lib.hid (fun w => parse_yes abc w (by decide))
  have cL := Lib.hid (fun w => parse_no long w (by decide))
  have cB := Lib.hid (fun w => parse_yes bbb w (by decide))
  have cT := Lib.hid (text_any (D.pad abc))
  have cR := Lib.hid (right_any (D.pad abc))
  have cS := Lib.hid (less_any (D.pad abc) (D.pad bbb))
  rw [k_text] at cT
  rw [k_right] at cR
  rw [k_less] at cS
  obtain ⟨xa, ha⟩ : ∃ xa, D.pad abc = xa := ⟨_, rfl⟩
  obtain ⟨xb, hb⟩ : ∃ xb, D.pad bbb = xb := ⟨_, rfl⟩
  rw [ha] at cA cT cR cS
  rw [hb] at cB cS
  clear ha hb
  have z0 := from_self w
  go_enter Try.func15, Try.ntmps15
  go_wp2_with (first
    | (go_at_call 9; (with_reducible refine (cA.out _).mono ?_); rintro e w1 ⟨rfl, b1⟩; have z1 := z0.on b1; have f1 := rd_new w1 _ 23 xa rfl)
    | (go_at_call 9; (with_reducible refine (cL.out _).mono ?_); rintro e w2 ⟨rfl, b2⟩; have z2 := (z1.alloc _).on b2; have f2 := rd_on f1 b2; have s2 := (From.mk b2).lt (show w1.heap.size < _ by simp))
    | (go_at_call 9; (with_reducible refine (cB.out _).mono ?_); rintro e w3 ⟨rfl, b3⟩; have z3 := (z2.alloc _).on b3; have f3 := rd_on f2 ((below_alloc_ _ _).trans (b3.mono (by simp))); have s3 := (((from_self w2).alloc _).on b3).lt s2)
    | (go_at_call 12; (with_reducible refine (cT.out _).mono ?_); rintro e w4 ⟨rfl, b4⟩; have z4 := (z3.alloc _).on b4; have f4 := rd_on f3 ((below_alloc_ _ _).trans (b4.mono (by simp))); have s4 := (((from_self w3).alloc _).on b4).lt s3; have g4 := rd_on (rd_new w3 _ 23 xb rfl) b4)
    | (go_at_call 16; (with_reducible refine (cS.out _).mono ?_); rintro e w5 ⟨rfl, b5⟩; have z5 := z4.on b5; have f5 := rd_on f4 b5)
    | (go_at_call 13; (with_reducible refine (cR.out _).mono ?_); rintro e w6 ⟨rfl, b6⟩; have z6 := z5.on b6))
  go_ret
  exact ⟨rfl, z6.below⟩

theorem add_nil (A : Option Addr) (n c : Nat) (w : World) : Calls Try.prog 24 #[.pointer none, .slice A n c] w fun e w' => e = .returned (.int .i64 0) ∧ w = w' := by
  go_enter Try.func24, Try.ntmps24
  go_wp2
  go_ret
  exact ⟨rfl, rfl⟩
theorem del_nil (A : Option Addr) (n c : Nat) (w : World) : Calls Try.prog 23 #[.pointer none, .slice A n c] w fun e w' => e = .returned (.int .i64 0) ∧ w = w' := by
  go_enter Try.func23, Try.ntmps23
  go_wp2
  go_ret
  exact ⟨rfl, rfl⟩
theorem has_nil (x : D.Nm) (w : World) : Calls Try.prog 27 #[.pointer none, .agg (nc x)] w fun e w' => e = .returned (.bool false) ∧ Below w.heap.size w w' := by
  go_enter Try.func27, Try.ntmps27
  go_wp2
  go_ret
  exact ⟨rfl, below_alloc_ _ _⟩
theorem list_nil (w : World) : Calls Try.prog 25 #[.pointer none] w fun e w' => e = .returned (.slice none 0 0) ∧ w = w' := by
  go_enter Try.func25, Try.ntmps25
  go_wp2
  go_ret
  exact ⟨rfl, rfl⟩
theorem len_nil (w : World) : Calls Try.prog 26 #[.pointer none] w fun e w' => e = .returned (.int .i64 0) ∧ w = w' := by
  go_enter Try.func26, Try.ntmps26
  go_wp2
  go_ret
  exact ⟨rfl, rfl⟩
end Go.Proofs.Ytgfpdfafkimkcaa
