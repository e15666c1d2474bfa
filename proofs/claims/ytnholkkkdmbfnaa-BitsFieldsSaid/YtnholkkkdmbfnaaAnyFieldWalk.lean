/-
  The law of any field: its walk.
-/
import Derived.Test.YtnholkkkdmbfnaaLaws
namespace Go.Proofs.Ytnholkkkdmbfnaa
open Go.RowKit

set_option maxHeartbeats 1600000 in
theorem fields_walk (a0 : Int) (a1 : Int) (a2 : Int) (a3 : Int) (w0 : (Lit.int .u64 a0).wf = true) (w1 : (Lit.int .i64 a1).wf = true) (w2 : (Lit.int .i64 a2).wf = true) (w3 : (Lit.int .u64 a3).wf = true) (w : World) :
    Calls Try.prog 3 #[.int .u64 a0, .int .i64 a1, .int .i64 a2, .int .u64 a3] w fun e w' => e = .returned (.bool true) ∧ Below w.heap.size w w' := by
  obtain ⟨x, hx, rfl⟩ : ∃ x : Nat, x < 18446744073709551616 ∧ a0 = x := ⟨a0.toNat, by have := bounds_u64 w0; omega, by have := bounds_u64 w0; omega⟩
  obtain ⟨v, hv, rfl⟩ : ∃ x : Nat, x < 18446744073709551616 ∧ a3 = x := ⟨a3.toNat, by have := bounds_u64 w3; omega, by have := bounds_u64 w3; omega⟩
  obtain ⟨b1, b2⟩ := bounds_i64 w1
  obtain ⟨b3, b4⟩ := bounds_i64 w2
  obtain ⟨l, hl⟩ : ∃ z, M.low a2 = z := ⟨_, rfl⟩
  obtain ⟨g, hg⟩ : ∃ z, M.get x a1 a2 = z := ⟨_, rfl⟩
  obtain ⟨p, hp⟩ : ∃ z, M.put x a1 a2 v = z := ⟨_, rfl⟩
  have cA := Lib.hid (fun W => low_is a2 l W b3 b4 ⟨hl⟩)
  have cB := Lib.hid (fun W => low_ref_is a2 l W ⟨hl⟩)
  have cC := Lib.hid (fun W => get_is x g a1 a2 W hx b3 b4 ⟨hg⟩)
  have cD := Lib.hid (fun W => get_ref x g a1 a2 W hx b1 b2 ⟨hg⟩)
  have cE := Lib.hid (fun W => put_is x p a1 a2 v W hx b3 b4 ⟨hp⟩)
  have cF := Lib.hid (fun W => put_ref x p a1 a2 v W hx hv b1 b2 ⟨hp⟩)
  clear hl hg hp w0 w1 w2 w3
  have hz := from_self w
  go_enter Try.func3, Try.ntmps3
  go_wp2_with fail
  go_loopw [9] (fun i wr => ∃ j : Int, 0 ≤ j ∧ j ≤ 66 ∧ i = .int .i64 j ∧ From w wr) (fun i _ => (66 - intOf i).toNat)
  case atStart => exact ⟨0, by omega, by omega, rfl, hz⟩
  case round =>
    clear hz
    obtain ⟨j, hj1, hj2, rfl, hz⟩ := hrel
    by_cases hlt : j < 66
    · obtain ⟨l, hl⟩ : ∃ z, M.low j = z := ⟨_, rfl⟩
      obtain ⟨g, hg⟩ : ∃ z, M.get x j 5 = z := ⟨_, rfl⟩
      obtain ⟨p, hp⟩ : ∃ z, M.put x j 7 v = z := ⟨_, rfl⟩
      have cG := Lib.hid (fun W => low_is j l W (by omega) (by omega) ⟨hl⟩)
      have cH := Lib.hid (fun W => low_ref_is j l W ⟨hl⟩)
      have cI := Lib.hid (fun W => get_is x g j 5 W hx (by omega) (by omega) ⟨hg⟩)
      have cJ := Lib.hid (fun W => get_ref x g j 5 W hx (by omega) (by omega) ⟨hg⟩)
      have cK := Lib.hid (fun W => put_is x p j 7 v W hx (by omega) (by omega) ⟨hp⟩)
      have cL := Lib.hid (fun W => put_ref x p j 7 v W hx hv (by omega) (by omega) ⟨hp⟩)
      clear hl hg hp cA cB cC cD cE cF
      go_wp2_with (first
        | (go_at_call 9; (with_reducible refine (on_same hz (cG.out _)).mono ?_); rintro e w1 ⟨rfl, hz⟩)
        | (go_at_call 10; (with_reducible refine (on hz (cH.out _)).mono ?_); rintro e w1 ⟨rfl, hz⟩)
        | (go_at_call 11; (with_reducible refine (on_drawn hz (cI.out _)).mono ?_); rintro e w1 ⟨rfl, hz⟩)
        | (go_at_call 12; (with_reducible refine (on hz (cJ.out _)).mono ?_); rintro e w1 ⟨rfl, hz⟩)
        | (go_at_call 13; (with_reducible refine (on_same hz (cK.out _)).mono ?_); rintro e w1 ⟨rfl, hz⟩)
        | (go_at_call 14; (with_reducible refine (on hz (cL.out _)).mono ?_); rintro e w1 ⟨rfl, hz⟩))
      go_roundw
      case rel => exact ⟨j + 1, by omega, by omega, by go_num, hz⟩
      case measure => simp [intOf]; omega
    · obtain rfl : j = 66 := by omega
      go_wp2_with (first
        | (go_at_call 15; (with_reducible refine (on hz (known_any _)).mono ?_); rintro e w1 ⟨rfl, hz⟩)
        | (go_at_call 9; (with_reducible refine (on_same hz (cA.out _)).mono ?_); rintro e w1 ⟨rfl, hz⟩)
        | (go_at_call 10; (with_reducible refine (on hz (cB.out _)).mono ?_); rintro e w1 ⟨rfl, hz⟩)
        | (go_at_call 11; (with_reducible refine (on_drawn hz (cC.out _)).mono ?_); rintro e w1 ⟨rfl, hz⟩)
        | (go_at_call 12; (with_reducible refine (on hz (cD.out _)).mono ?_); rintro e w1 ⟨rfl, hz⟩)
        | (go_at_call 13; (with_reducible refine (on_same hz (cE.out _)).mono ?_); rintro e w1 ⟨rfl, hz⟩)
        | (go_at_call 14; (with_reducible refine (on hz (cF.out _)).mono ?_); rintro e w1 ⟨rfl, hz⟩))
      go_ret
      exact ⟨rfl, hz.below⟩
end Go.Proofs.Ytnholkkkdmbfnaa
