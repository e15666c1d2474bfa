/-
  What is read of ordered bytes: the program's ReadOrdered and the document's.
-/
import Derived.Test.YtelifoagnheioaaLess
import Derived.Laws.BitsAllLaws
set_option linter.unusedVariables false
set_option maxRecDepth 100000
set_option linter.unusedSimpArgs false
namespace Go.Proofs.Ytelifoagnheioaa
open Go.RowKit

/-- The answer of a reader. -/
def Answer (x k e : Nat) : Ending := .returned (.tuple #[.int .u64 x, .int .i64 k, .int .i64 e])
theorem answer_of {a b c : Int} {x k e : Nat} (h1 : a = x) (h2 : b = k) (h3 : c = e) : Ending.returned (.tuple #[.int .u64 a, .int .i64 b, .int .i64 c]) = Answer x k e := by rw [h1, h2, h3]; rfl

theorem add_succ_ (a : Addr) (k : Nat) : a.add (k + 1) = ⟨a.block, a.off + (k + 1), none⟩ := by unfold Addr.add; simp
theorem row_nil {w : World} {A : Option Addr} {n : Nat} (h : Row w A n (bys [])) : n = 0 := by have := h.len; simp [bys] at this; omega
theorem row_cons {w : World} {A : Option Addr} {n b : Nat} {r : List Nat} (h : Row w A n (bys (b :: r))) : n = r.length + 1 := by have := h.len; simp [bys] at this; omega
theorem val_take {r : List Nat} {k y : Nat} (h : r[k]? = some y) : D.val (r.take (k + 1)) = D.val (r.take k) * 256 + y := by
  rw [List.take_add_one, h]; exact D.val_snoc _ _
theorem val_bd {r : List Nat} (hl : ∀ b ∈ r, b < 256) {k : Nat} (hk : k ≤ 7) : D.val (r.take k) < 72057594037927936 := by
  have h1 := D.val_lt (l := r.take k) fun b hb => hl b (List.mem_of_mem_take hb)
  have h2 : 256 ^ (r.take k).length ≤ 256 ^ 7 := Nat.pow_le_pow_right (by decide) (by simp; omega)
  omega
theorem head_zero {r : List Nat} (h : 0 < r.length) (h0 : r.getD 0 0 = 0) : r[0]? = some 0 := by
  cases r with
  | nil => simp at h
  | cons a t => simpa using h0
theorem head_some {r : List Nat} (h : 0 < r.length) (h0 : r.getD 0 0 ≠ 0) : ∃ y, r[0]? = some y ∧ y ≠ 0 := by
  cases r with
  | nil => simp at h
  | cons a t => exact ⟨a, rfl, by simpa using h0⟩

end Go.Proofs.Ytelifoagnheioaa
