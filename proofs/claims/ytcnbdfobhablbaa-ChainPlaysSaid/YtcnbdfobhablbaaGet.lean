/-
  What the functions of package bits do, one contract each: the number that each answers, and that of what was in memory nothing has turned.
-/
import Derived.Test.YtcnbdfobhablbaaProg
import Derived.Test.YtcnbdfobhablbaaMath
import Derived.WalkSpells
import Derived.WalkLawsBesides
import Derived.Handy
import Derived.BigQuiet
import Derived.Deep.QuietTactic
import Derived.Laws.BitsAllLaws
import Derived.Lib.Zigzag
namespace Go.Proofs.Ytcnbdfobhablbaa
open Go.RowKit

/-- A fact that the walk does not look into. -/
structure Kept (p : Prop) : Prop where
  out : p
theorem ret_of {k : IntKind} {a b : Int} (h : a = b) : Ending.returned (.int k a) = .returned (.int k b) := by rw [h]
theorem bool_of {a b : Bool} (h : a = b) : Ending.returned (.bool a) = .returned (.bool b) := by rw [h]
theorem quietly {P : Program} {f : FuncId} {args : Array Value} {w : World} {n : Nat} {v : Value}
    (h : Calls P f args (w.drewN n) fun e w' => e = .returned v ∧ w.drewN n = w') : Calls P f args (w.drewN n) fun e w'' => e = .returned v ∧ ∃ m, w'' = w.drewN m :=
  h.mono fun _ _ ⟨he, hm⟩ => ⟨he, n, hm.symm⟩
theorem cast_pow (n : Nat) : (2 : Int) ^ n = ((2 ^ n : Nat) : Int) := by simp
theorem cast_div_pow (x n : Nat) : (x : Int) / 2 ^ n = ((x / 2 ^ n : Nat) : Int) := by simp
theorem pow_bd {n : Nat} (h : n < 64) : 1 ≤ 2 ^ n ∧ 2 ^ n ≤ 9223372036854775808 := ⟨Nat.two_pow_pos n, (Nat.pow_le_pow_right (by decide) (by omega) : 2 ^ n ≤ 2 ^ 63)⟩

theorem wrap_shl (x n : Nat) : IntKind.u64.wrap ((x : Int) * 2 ^ n) = ((x * 2 ^ n % 18446744073709551616 : Nat) : Int) := by
  rw [IntKind.wrap_u64, cast_pow, ← Int.natCast_mul]; rfl

end Go.Proofs.Ytcnbdfobhablbaa
