/-
  What every law of words leans on: a world that has only grown since a beginning, and the chapter's examples.
-/
import Derived.Test.YtnholkkkdmbfnaaRefB
namespace Go.Proofs.Ytnholkkkdmbfnaa
open Go.RowKit

/-- Of what was there at the beginning nothing has turned. -/
structure From (w0 w : World) : Prop where
  below : Below w0.heap.size w0 w
theorem from_self (w : World) : From w w := ⟨Below.refl _ _⟩
theorem on {P : Program} {f : FuncId} {args : Array Value} {w0 w : World} {v : Value} (h : From w0 w) (c : Calls P f args w fun e w' => e = .returned v ∧ Below w.heap.size w w') :
    Calls P f args w fun e w' => e = .returned v ∧ From w0 w' := c.mono fun _ _ ⟨he, hb⟩ => ⟨he, ⟨h.below.trans (hb.mono h.below.size)⟩⟩
theorem on_same {P : Program} {f : FuncId} {args : Array Value} {w0 w : World} {v : Value} (h : From w0 w) (c : Calls P f args w fun e w' => e = .returned v ∧ w = w') :
    Calls P f args w fun e w' => e = .returned v ∧ From w0 w' := c.mono fun _ _ ⟨he, hb⟩ => ⟨he, by rw [← hb]; exact h⟩
theorem on_drawn {P : Program} {f : FuncId} {args : Array Value} {w0 w : World} {v : Value} (h : From w0 w) (c : Calls P f args w fun e w' => e = .returned v ∧ ∃ m, w' = w.drewN m) :
    Calls P f args w fun e w' => e = .returned v ∧ From w0 w' := c.mono fun _ _ ⟨he, m, hb⟩ => ⟨he, by rw [hb]; exact ⟨below_drawN h.below m⟩⟩

theorem get_is (x r : Nat) (lo n : Int) (w : World) (hx : x < 18446744073709551616) (h1 : -9223372036854775808 ≤ n) (h2 : n ≤ 9223372036854775807) (hr : Kept (M.get x lo n = r)) :
    Calls Try.prog 11 #[.int .u64 x, .int .i64 lo, .int .i64 n] w fun e w' => e = .returned (.int .u64 r) ∧ ∃ m, w' = w.drewN m := by
  rw [← hr.out]; exact get_any x lo n w hx h1 h2
theorem put_is (x r : Nat) (lo n : Int) (v : Nat) (w : World) (hx : x < 18446744073709551616) (h1 : -9223372036854775808 ≤ n) (h2 : n ≤ 9223372036854775807) (hr : Kept (M.put x lo n v = r)) :
    Calls Try.prog 13 #[.int .u64 x, .int .i64 lo, .int .i64 n, .int .u64 v] w fun e w' => e = .returned (.int .u64 r) ∧ w = w' := by
  rw [← hr.out]; exact put_any x lo n v w hx h1 h2
theorem zig_is (a : Int) (r : Nat) (w : World) (h1 : -9223372036854775808 ≤ a) (h2 : a ≤ 9223372036854775807) (hr : Kept (M.zig a = r)) :
    Calls Try.prog 20 #[.int .i64 a] w fun e w' => e = .returned (.int .u64 r) ∧ w = w' := by
  rw [← hr.out]; exact zig_any a w h1 h2
theorem sign_is (x : Nat) (n r : Int) (w : World) (hx : x < 18446744073709551616) (h1 : -9223372036854775808 ≤ n) (h2 : n ≤ 9223372036854775807) (hr : Kept (M.sign x n = r)) :
    Calls Try.prog 18 #[.int .u64 x, .int .i64 n] w fun e w' => e = .returned (.int .i64 r) ∧ w = w' := by
  rw [← hr.out]; exact sign_any x n w hx h1 h2

theorem sign_ref_is (x : Nat) (n r : Int) (w : World) (hx : x < 18446744073709551616) (h1 : -9223372036854775808 ≤ n) (h2 : n ≤ 9223372036854775807) (hr : Kept (M.sign x n = r)) :
    Calls Try.prog 19 #[.int .u64 x, .int .i64 n] w fun e w' => e = .returned (.int .i64 r) ∧ Below w.heap.size w w' := by
  rw [← hr.out]; exact sign_ref x n w hx h1 h2
theorem zig_ref_is (a : Int) (r : Nat) (w : World) (h1 : -9223372036854775808 ≤ a) (h2 : a ≤ 9223372036854775807) (hr : Kept (M.zig a = r)) :
    Calls Try.prog 21 #[.int .i64 a] w fun e w' => e = .returned (.int .u64 r) ∧ w = w' := by
  rw [← hr.out]; exact zig_ref a w h1 h2
theorem low_is (n : Int) (r : Nat) (w : World) (h1 : -9223372036854775808 ≤ n) (h2 : n ≤ 9223372036854775807) (hr : Kept (M.low n = r)) :
    Calls Try.prog 9 #[.int .i64 n] w fun e w' => e = .returned (.int .u64 r) ∧ w = w' := by
  rw [← hr.out]; exact low_any n w h1 h2
theorem low_ref_is (n : Int) (r : Nat) (w : World) (hr : Kept (M.low n = r)) :
    Calls Try.prog 10 #[.int .i64 n] w fun e w' => e = .returned (.int .u64 r) ∧ Below w.heap.size w w' := by
  rw [← hr.out]; exact low_ref n w
theorem split_is (x hi lo : Nat) (w : World) (hx : x < 18446744073709551616) (hr : Kept (x / 4294967296 = hi ∧ x % 4294967296 = lo)) :
    Calls Try.prog 17 #[.int .u64 x] w fun e w' => e = .returned (.tuple #[.int .u32 hi, .int .u32 lo]) ∧ w = w' := by
  rw [← hr.out.1, ← hr.out.2]; exact split_any x w hx
theorem join_is (a b r : Nat) (w : World) (ha : a < 4294967296) (hb : b < 4294967296) (hr : Kept (a * 4294967296 + b = r)) :
    Calls Try.prog 25 #[.int .u32 a, .int .u32 b] w fun e w' => e = .returned (.int .u64 r) ∧ w = w' := by
  rw [← hr.out]; exact join_any a b w ha hb
theorem zag_is (x : Nat) (r : Int) (w : World) (hx : x < 18446744073709551616) (hr : Kept (M.zag x = r)) :
    Calls Try.prog 22 #[.int .u64 x] w fun e w' => e = .returned (.int .i64 r) ∧ w = w' := zag_any x r w hx hr.out
theorem flip_is (a : Int) (r : Nat) (w : World) (h1 : -9223372036854775808 ≤ a) (h2 : a ≤ 9223372036854775807) (hr : Kept (M.flip a = r)) :
    Calls Try.prog 24 #[.int .i64 a] w fun e w' => e = .returned (.int .u64 r) ∧ w = w' := by
  rw [← hr.out]; exact flip_any a w h1 h2
theorem unflip_is (x : Nat) (r : Int) (w : World) (hx : x < 18446744073709551616) (hr : Kept (M.unflip x = r)) :
    Calls Try.prog 23 #[.int .u64 x] w fun e w' => e = .returned (.int .i64 r) ∧ w = w' := by
  rw [← hr.out]; exact unflip_any x w hx
theorem swap_is (x r : Nat) (w : World) (hx : x < 18446744073709551616) (hr : Kept (M.swap x = r)) :
    Calls Try.prog 30 #[.int .u64 x] w fun e w' => e = .returned (.int .u64 r) ∧ ∃ m, w' = w.drewN m := by
  rw [← hr.out]; exact swap_any x w hx
theorem ones_is (x r : Nat) (w : World) (hx : x < 18446744073709551616) (hr : Kept (M.ones x 64 = r)) :
    Calls Try.prog 32 #[.int .u64 x] w fun e w' => e = .returned (.int .i64 r) ∧ w = w' := by
  rw [← hr.out]; exact ones_any x w hx
theorem top_is (x : Nat) (r : Int) (w : World) (hx : x < 18446744073709551616) (hr : Kept (M.top x 64 = r)) :
    Calls Try.prog 26 #[.int .u64 x] w fun e w' => e = .returned (.int .i64 r) ∧ w = w' := by
  rw [← hr.out]; exact top_any x w hx
theorem turn_is (x k : Nat) (n : Int) (r : Nat) (w : World) (hx : x < 18446744073709551616) (hk : n % 64 = k) (hr : Kept (M.turn x k = r)) :
    Calls Try.prog 28 #[.int .u64 x, .int .i64 n] w fun e w' => e = .returned (.int .u64 r) ∧ w = w' := turn_any x k n r w hx hk hr.out

theorem kn1 : M.get 43981 4 8 = 188 := by decide +kernel
theorem kn2 : M.put 43981 4 8 291 = 41533 := by decide +kernel
theorem kn3 : M.zig (-3) = 5 := by decide +kernel
theorem kn4 : M.sign 15 4 = -1 := by decide +kernel
theorem kn5 : M.turn 1 63 = 9223372036854775808 := by decide +kernel

theorem known_any (w : World) : Calls Try.prog 15 #[] w fun e w' => e = .returned (.bool true) ∧ Below w.heap.size w w' := by
  have hz := from_self w
  go_enter Try.func15, Try.ntmps15
  go_wp2_with (first
    | (go_at_call 11; refine (on_drawn hz (get_is 43981 188 4 8 _ (by decide) (by decide) (by decide) ⟨kn1⟩)).mono ?_; rintro e w1 ⟨rfl, hz⟩)
    | (go_at_call 13; refine (on_same hz (put_is 43981 41533 4 8 291 _ (by decide) (by decide) (by decide) ⟨kn2⟩)).mono ?_; rintro e w1 ⟨rfl, hz⟩)
    | (go_at_call 20; refine (on_same hz (zig_is (-3) 5 _ (by decide) (by decide) ⟨kn3⟩)).mono ?_; rintro e w1 ⟨rfl, hz⟩)
    | (go_at_call 18; refine (on_same hz (sign_is 15 4 (-1) _ (by decide) (by decide) (by decide) ⟨kn4⟩)).mono ?_; rintro e w1 ⟨rfl, hz⟩)
    | (go_at_call 28; refine (on_same hz (turn_any 1 63 (-1) 9223372036854775808 _ (by decide) (by decide) kn5)).mono ?_; rintro e w1 ⟨rfl, hz⟩))
  go_ret
  exact ⟨rfl, hz.below⟩
end Go.Proofs.Ytnholkkkdmbfnaa
