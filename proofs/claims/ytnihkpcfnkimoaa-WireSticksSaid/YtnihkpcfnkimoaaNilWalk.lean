/-
  The law of nil writers and readers: its walk.
-/
import Derived.Test.YtnihkpcfnkimoaaKnown
import Derived.OpenShut
set_option linter.unusedVariables false
set_option linter.unusedSimpArgs false
namespace Go.Proofs.Ytnihkpcfnkimoaa
open Go.RowKit
attribute [local go_sem ↓] Go.wp_at_zero Go.wp_at_succ

/-- Of what was there at the beginning nothing has turned. -/
structure From (w0 w : World) : Prop where
  below : Below w0.heap.size w0 w
theorem from_self (w : World) : From w w := ⟨Below.refl _ _⟩
theorem From.alloc {w0 w : World} (h : From w0 w) (o : Obj) : From w0 (w.alloc o) := ⟨h.below.alloc h.below.size o⟩
theorem From.drewN {w0 w : World} (h : From w0 w) (n : Nat) : From w0 (w.drewN n) := ⟨below_drewN h.below n⟩
theorem From.on {w0 w w' : World} (h : From w0 w) (hb : Below w.heap.size w w') : From w0 w' := ⟨h.below.trans (hb.mono h.below.size)⟩

set_option maxRecDepth 20000 in
set_option maxHeartbeats 1000000 in
theorem nil_all (n : Int) (s : ByteArray) (w : World) : Calls Try.prog 8 #[.int .i64 n, .string s] w fun e w' => e = .returned (.bool true) ∧ Below w.heap.size w w' := by
  have z0 := from_self w
  go_enter Try.func8, Try.ntmps8
  go_wp2_with (first
    | (go_at_call 24; (with_reducible refine (byte_nil _ 1 _ _ ?_).mono ?_); (exact lit_byte _ _ _ _ rfl rfl); rintro e w1 ⟨rfl, hb1⟩; have z1 := (z0.alloc _).on hb1)
    | (go_at_call 22; (with_reducible refine (short_nil _ _).mono ?_); rintro e w2 ⟨rfl, hb2⟩; have z2 := z1.on hb2)
    | (go_at_call 25; (with_reducible refine (word_nil _ _).mono ?_); rintro e w3 ⟨rfl, hb3⟩; have z3 := z2.on hb3)
    | (go_at_call 26; (with_reducible refine (number_nil _ _).mono ?_); rintro e w4 ⟨rfl, hb4⟩; have z4 := z3.on hb4)
    | (go_at_call 27; (with_reducible refine (text_nil _ _).mono ?_); rintro e w5 ⟨rfl, hb5⟩; have z5 := z4.on hb5)
    | (go_at_call 12; (with_reducible refine (bytes_nil _).mono ?_); rintro e w6 ⟨rfl, rfl⟩)
    | (go_at_call 14; (with_reducible refine (known_any _).mono ?_); rintro e w7 ⟨rfl, hb7⟩; have z7 := z5.on hb7)
    | (go_at_call 28; (with_reducible refine (rbyte_nil _).mono ?_); rintro e w8 ⟨rfl, hb8⟩; have z8 := z7.on hb8)
    | (go_at_call 29; (with_reducible refine (rshort_nil _).mono ?_); rintro e w9 ⟨rfl, hb9⟩; have z9 := z8.on hb9)
    | (go_at_call 30; (with_reducible refine (rword_nil _).mono ?_); rintro e wA ⟨rfl, hbA⟩; have zA := z9.on hbA)
    | (go_at_call 23; (with_reducible refine (rnumber_nil _ _).mono ?_); rintro e wB ⟨rfl, hbB⟩; have zB := zA.on hbB)
    | (go_at_call 31; (with_reducible refine (rtext_nil _ _).mono ?_); rintro e wC ⟨rfl, hbC⟩; have zC := zB.on hbC)
    | (go_at_call 19; (with_reducible refine (left_nil _).mono ?_); rintro e wD ⟨rfl, rfl⟩)
    | (go_at_call 20; (with_reducible refine (err_nil _).mono ?_); rintro e wE ⟨rfl, rfl⟩)
    | (go_at_call 21; (with_reducible refine (done_nil _).mono ?_); rintro e wF ⟨rfl, rfl⟩))
  go_ret
  exact ⟨rfl, zC.below⟩
end Go.Proofs.Ytnihkpcfnkimoaa
