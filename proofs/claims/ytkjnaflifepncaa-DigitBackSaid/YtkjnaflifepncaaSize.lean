/-
  How many bytes a number has: the program's SizeOrdered and SizeSmall.
-/
import Derived.Test.YtkjnaflifepncaaLess
set_option linter.unusedVariables false
set_option linter.unusedSimpArgs false
namespace Go.Proofs.Ytkjnaflifepncaa
open Go.RowKit

theorem top_is (x : Nat) (r : Int) (w : World) (hx : x < 18446744073709551616) (hr : Kept (M.top x 64 = r)) :
    Calls Try.prog 23 #[.int .u64 x] w fun e w' => e = .returned (.int .i64 r) ∧ w = w' := by
  rw [← hr.out]; exact top_any x w hx
theorem size_ordered (x : Nat) (r : Nat) (w : World) (hx : x < 18446744073709551616) (hr : Kept ((D.ordd x).length = r)) :
    Calls Try.prog 8 #[.int .u64 x] w fun e w' => e = .returned (.int .i64 r) ∧ w = w' := by
  obtain ⟨t, ht⟩ : ∃ t, M.top x 64 = t := ⟨_, rfl⟩
  have h1 := M.top_in x 64
  have HS : Kept (1 + (t + 8) / 8 = (r : Int)) := ⟨by rw [← hr.out, ← ht, D.size_ord hx]⟩
  have HT : Kept (M.top x 64 = t) := ⟨ht⟩
  rw [ht] at h1
  obtain ⟨h1, h2⟩ := h1
  clear ht hr
  go_enter Try.func8, Try.ntmps8
  go_wp2_with (go_at_call 23; (with_reducible refine (top_is x t _ hx HT).mono ?_); rintro e w1 ⟨rfl, rfl⟩)
  go_ret
  exact ⟨ret_of HS.out, rfl⟩
theorem size_small (x : Nat) (r : Nat) (w : World) (hx : x < 18446744073709551616) (hr : Kept ((D.sm x).length = r)) :
    Calls Try.prog 10 #[.int .u64 x] w fun e w' => e = .returned (.int .i64 r) ∧ w = w' := by
  obtain ⟨t, ht⟩ : ∃ t, M.top x 64 = t := ⟨_, rfl⟩
  have h1 := M.top_in x 64
  have HS : Kept (1 + max t 0 / 7 = (r : Int)) := ⟨by rw [← hr.out, ← ht, D.size_small hx]⟩
  have HT : Kept (M.top x 64 = t) := ⟨ht⟩
  rw [ht] at h1
  obtain ⟨h1, h2⟩ := h1
  clear ht hr
  go_enter Try.func10, Try.ntmps10
  go_wp2_with (go_at_call 23; (with_reducible refine (top_is x t _ hx HT).mono ?_); rintro e w1 ⟨rfl, rfl⟩)
  all_goals
    go_ret
    refine ⟨ret_of ?_, rfl⟩
    have := HS.out
    omega
end Go.Proofs.Ytkjnaflifepncaa
