/-
  What the functions of package bits do, one contract each: the number that each answers, and that of what was in memory nothing has turned.
-/
import Derived.Test.YtelifoagnheioaaProg
import Derived.Test.YtelifoagnheioaaMath
import Derived.WalkSpells
import Derived.WalkLawsBesides
import Derived.Handy
import Derived.BigQuiet
import Derived.Deep.QuietTactic
import Derived.Laws.BitsAllLaws
import Derived.Lib.Zigzag
namespace Go.Proofs.Ytelifoagnheioaa
open Go.RowKit

/-- A fact that the walk does not look into. -/
structure Kept (p : Prop) : Prop where
  out : p
theorem ret_of {k : IntKind} {a b : Int} (h : a = b) : Ending.returned (.int k a) = .returned (.int k b) := by rw [h]
theorem bool_of {a b : Bool} (h : a = b) : Ending.returned (.bool a) = .returned (.bool b) := by rw [h]
theorem quietly {P : Program} {f : FuncId} {args : Array Value} {w : World} {n : Nat} {v : Value}
    (h : Calls P f args (w.drewN n) fun e w' => e = .returned v ∧ w.drewN n = w') : Calls P f args (w.drewN n) fun e w'' => e = .returned v ∧ ∃ m, w'' = w.drewN m :=
  h.mono fun _ _ ⟨he, hm⟩ => ⟨he, n, hm.symm⟩
theorem cast_pow (n : Nat) : (2 : Int) ^ n = ((2 ^ n : Nat) : Int) := by simp
theorem cast_div_pow (x n : Nat) : (x : Int) / 2 ^ n = ((x / 2 ^ n : Nat) : Int) := by simp
theorem pow_bd {n : Nat} (h : n < 64) : 1 ≤ 2 ^ n ∧ 2 ^ n ≤ 9223372036854775808 := ⟨Nat.two_pow_pos n, (Nat.pow_le_pow_right (by decide) (by omega) : 2 ^ n ≤ 2 ^ 63)⟩

theorem wrap_shl (x n : Nat) : IntKind.u64.wrap ((x : Int) * 2 ^ n) = ((x * 2 ^ n % 18446744073709551616 : Nat) : Int) := by
  rw [IntKind.wrap_u64, cast_pow, ← Int.natCast_mul]; rfl

theorem low_any (n : Int) (w : World) (h1 : -9223372036854775808 ≤ n) (h2 : n ≤ 9223372036854775807) :
    Calls Try.prog 75 #[.int .i64 n] w fun e w' => e = .returned (.int .u64 (M.low n : Nat)) ∧ w = w' := by
  go_enter Try.func75, Try.ntmps75
  go_wp2
  · have h : n < 1 := by assumption
    go_ret
    refine ⟨ret_of ?_, rfl⟩
    unfold M.low
    rw [show min n.toNat 64 = 0 by omega]; rfl
  · have h : 64 ≤ n := by assumption
    go_ret
    refine ⟨ret_of ?_, rfl⟩
    unfold M.low
    rw [show min n.toNat 64 = 64 by omega]; rfl
  · have h : n < 64 := by assumption
    go_ret
    refine ⟨ret_of ?_, rfl⟩
    unfold M.low
    rw [show min n.toNat 64 = n.toNat by omega, cast_pow]
    have := pow_bd (n := n.toNat) (by omega)
    rw [IntKind.wrap_u64, IntKind.wrap_u64]
    omega

theorem there_any (lo n : Int) (b : Bool) (w : World) (h1 : -9223372036854775808 ≤ n) (h2 : n ≤ 9223372036854775807) (hb : M.thereB lo n = b) :
    Calls Try.prog 74 #[.int .i64 lo, .int .i64 n] w fun e w' => e = .returned (.bool b) ∧ w = w' := by
  subst hb
  go_enter Try.func74, Try.ntmps74
  go_wp2
  all_goals
    go_ret
    refine ⟨bool_of ?_, rfl⟩
    unfold M.thereB
    symm
  · rw [decide_eq_decide]; omega
  all_goals exact decide_eq_false (by omega)

theorem get_any (x : Nat) (lo n : Int) (w : World) (hx : x < 18446744073709551616) (h1 : -9223372036854775808 ≤ n) (h2 : n ≤ 9223372036854775807) :
    Calls Try.prog 67 #[.int .u64 x, .int .i64 lo, .int .i64 n] w fun e w' => e = .returned (.int .u64 (M.get x lo n : Nat)) ∧ ∃ m, w' = w.drewN m := by
  cases hb : M.thereB lo n
  · go_enter Try.func67, Try.ntmps67
    go_wp2_with (go_at_call 74; refine (there_any _ _ _ _ h1 h2 hb).mono ?_; rintro e w' ⟨rfl, rfl⟩)
    go_ret
    exact ⟨ret_of (by rw [M.get_none hb]; rfl), 0, rfl⟩
  · obtain ⟨a1, a2, a3, a4⟩ := M.there_iff.1 hb
    go_enter Try.func67, Try.ntmps67
    go_wp2_with (go_at_call 74; refine (there_any _ _ _ _ h1 h2 hb).mono ?_; rintro e w' ⟨rfl, rfl⟩)
    go_quiet ((go_at_call 75; exact quietly (low_any _ _ h1 h2)))
    go_wp2
    go_ret
    exact ⟨ret_of (by rw [cast_div_pow, u64_and_nat _ _ (Nat.lt_of_le_of_lt (Nat.div_le_self _ _) hx) (M.low_lt n), M.get_some hb]), _, rfl⟩

end Go.Proofs.Ytelifoagnheioaa
