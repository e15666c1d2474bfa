/-
  The law of turned words: its walk.
-/
import Derived.Test.YtnholkkkdmbfnaaLaws
namespace Go.Proofs.Ytnholkkkdmbfnaa
open Go.RowKit

theorem turns_walk (a0 : Int) (a1 : Int) (w0 : (Lit.int .u64 a0).wf = true) (w1 : (Lit.int .i64 a1).wf = true) (w : World) :
    Calls Try.prog 8 #[.int .u64 a0, .int .i64 a1] w fun e w' => e = .returned (.bool true) ∧ Below w.heap.size w w' := by
  obtain ⟨x, hx, rfl⟩ : ∃ x : Nat, x < 18446744073709551616 ∧ a0 = x := ⟨a0.toNat, by have := bounds_u64 w0; omega, by have := bounds_u64 w0; omega⟩
  obtain ⟨b1, b2⟩ : -9223372036854775808 ≤ a1 ∧ a1 ≤ 9223372036854775807 := bounds_i64 w1
  obtain ⟨k, hk, hk64⟩ : ∃ k : Nat, a1 % 64 = k ∧ k < 64 := ⟨(a1 % 64).toNat, by omega, by omega⟩
  have eb : (wrap64 (a1.tmod 64 + 64)).tmod 64 = k := by
    have h1 := Int.tmod_eq_emod (a := a1) (b := 64)
    have h2 : a1.tmod 64 + 64 = wrap64 (a1.tmod 64 + 64) := by unfold wrap64; split at h1 <;> omega
    rw [← h2, Int.tmod_eq_emod_of_nonneg (by split at h1 <;> omega)]
    split at h1 <;> omega
  obtain ⟨T, hT⟩ : ∃ T, M.turn x k = T := ⟨_, rfl⟩
  obtain ⟨S, hS⟩ : ∃ S, M.swap x = S := ⟨_, rfl⟩
  obtain ⟨o, ho⟩ : ∃ o, M.ones x 64 = o := ⟨_, rfl⟩
  obtain ⟨t, ht⟩ : ∃ t, M.top x 64 = t := ⟨_, rfl⟩
  obtain ⟨b, hb⟩ : ∃ b, M.bot x 64 = b := ⟨_, rfl⟩
  have hTl : T < 18446744073709551616 := by rw [← hT]; exact M.turn_lt _ _
  have hSl : S < 18446744073709551616 := by rw [← hS]; exact M.swap_lt _
  have hneg : (-(k : Int)) % 64 = ((64 - k) % 64 : Nat) := by omega
  have cT := Lib.hid (fun W => turn_is x k a1 T W hx hk ⟨hT⟩)
  have cU := Lib.hid (fun W => turn_is T ((64 - k) % 64) (-(k : Int)) x W hTl hneg ⟨by rw [← hT]; exact M.turn_back hx hk64⟩)
  have cR := Lib.hid (fun W => turn_ref x k T W hx hk64 ⟨hT⟩)
  have cS := Lib.hid (fun W => swap_is x S W hx ⟨hS⟩)
  have cV := Lib.hid (fun W => swap_is S x W hSl ⟨by rw [← hS]; exact M.swap_swap hx⟩)
  have cW := Lib.hid (fun W => swap_ref x S W hx ⟨hS⟩)
  have cO := Lib.hid (fun W => ones_is x o W hx ⟨ho⟩)
  have cP := Lib.hid (fun W => ones_is T o W hTl ⟨by rw [← hT, M.ones_turn hk64, ho]⟩)
  have cQ := Lib.hid (fun W => top_is x t W hx ⟨ht⟩)
  have cB := Lib.hid (fun W => bottom_any x b W hx ⟨hb⟩)
  have cC := Lib.hid (fun W => count_ref x o t b W hx ⟨ho.symm, ht.symm, hb.symm⟩)
  clear hneg hT hS ho ht hb hk
  have hz := from_self w
  go_enter Try.func8, Try.ntmps8
  go_wp2_with (first
    | (go_at_call 15; (with_reducible refine (on hz (known_any _)).mono ?_); rintro e w1 ⟨rfl, hz⟩)
    | (go_at_call 27; (with_reducible refine (on_same hz (cC.out _)).mono ?_); rintro e w1 ⟨rfl, hz⟩)
    | (go_at_call 28; (with_reducible refine (on_same hz (cT.out _)).mono ?_); rintro e w1 ⟨rfl, hz⟩)
    | (go_at_call 28; (with_reducible refine (on_same hz (cU.out _)).mono ?_); rintro e w1 ⟨rfl, hz⟩)
    | (go_at_call 29; (with_reducible refine (on hz (cR.out _)).mono ?_); rintro e w1 ⟨rfl, hz⟩)
    | (go_at_call 30; (with_reducible refine (on_drawn hz (cS.out _)).mono ?_); rintro e w1 ⟨rfl, hz⟩)
    | (go_at_call 30; (with_reducible refine (on_drawn hz (cV.out _)).mono ?_); rintro e w1 ⟨rfl, hz⟩)
    | (go_at_call 31; (with_reducible refine (on hz (cW.out _)).mono ?_); rintro e w1 ⟨rfl, hz⟩)
    | (go_at_call 32; (with_reducible refine (on_same hz (cO.out _)).mono ?_); rintro e w1 ⟨rfl, hz⟩)
    | (go_at_call 32; (with_reducible refine (on_same hz (cP.out _)).mono ?_); rintro e w1 ⟨rfl, hz⟩)
    | (go_at_call 26; (with_reducible refine (on_same hz (cQ.out _)).mono ?_); rintro e w1 ⟨rfl, hz⟩)
    | (go_at_call 33; (with_reducible refine (on_same hz (cB.out _)).mono ?_); rintro e w1 ⟨rfl, hz⟩))
  go_ret
  exact ⟨rfl, hz.below⟩
end Go.Proofs.Ytnholkkkdmbfnaa
