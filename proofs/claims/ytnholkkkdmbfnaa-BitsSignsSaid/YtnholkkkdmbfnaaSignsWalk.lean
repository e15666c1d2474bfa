/-
  The law of signed numbers: its walk.
-/
import Derived.Test.YtnholkkkdmbfnaaLaws
namespace Go.Proofs.Ytnholkkkdmbfnaa
open Go.RowKit

set_option maxHeartbeats 1600000 in
theorem signs_walk (a0 : Int) (a1 : Int) (a2 : Int) (w0 : (Lit.int .i64 a0).wf = true) (w1 : (Lit.int .u64 a1).wf = true) (w2 : (Lit.int .i64 a2).wf = true) (w : World) :
    Calls Try.prog 6 #[.int .i64 a0, .int .u64 a1, .int .i64 a2] w fun e w' => e = .returned (.bool true) ∧ Below w.heap.size w w' := by
  obtain ⟨x, hx, rfl⟩ : ∃ x : Nat, x < 18446744073709551616 ∧ a1 = x := ⟨a1.toNat, by have := bounds_u64 w1; omega, by have := bounds_u64 w1; omega⟩
  obtain ⟨b1, b2⟩ := bounds_i64 w0
  obtain ⟨b3, b4⟩ := bounds_i64 w2
  obtain ⟨hi, hhi⟩ : ∃ h, x / 4294967296 = h := ⟨_, rfl⟩
  obtain ⟨lo, hlo⟩ : ∃ h, x % 4294967296 = h := ⟨_, rfl⟩
  have hil : hi < 4294967296 := by omega
  have lol : lo < 4294967296 := by omega
  have hg1 : M.get x 32 32 = hi := by
    rw [← M.get_some (by decide), ← hhi]
    have e : M.low 32 = 2 ^ 32 - 1 := by decide
    rw [e, Nat.and_two_pow_sub_one_eq_mod]
    show x / 4294967296 % 4294967296 = _
    omega
  have hg2 : M.get x 0 32 = lo := by
    have := M.get_mod (w := x) (m := 32) (by decide)
    rw [← hlo]; exact this
  obtain ⟨Z, hZ⟩ : ∃ z, M.zig a0 = z := ⟨_, rfl⟩
  have hZl : Z < 18446744073709551616 := by rw [← hZ]; exact M.zig_lt b1 b2
  obtain ⟨z, hz⟩ : ∃ z, M.zag x = z := ⟨_, rfl⟩
  have hzl : -9223372036854775808 ≤ z ∧ z ≤ 9223372036854775807 := by rw [← hz]; exact M.zag_in hx
  obtain ⟨hz1, hz2⟩ := hzl
  obtain ⟨F, hF⟩ : ∃ z, M.flip a0 = z := ⟨_, rfl⟩
  have hFl : F < 18446744073709551616 := by rw [← hF]; exact M.flip_lt b2
  have hFe : (F : Int) = a0 + 9223372036854775808 := by rw [← hF]; unfold M.flip; omega
  have e1 : IntKind.u64.wrap (IntKind.u64.wrap a0 + 9223372036854775808) = F := by rw [hFe, IntKind.wrap_u64, IntKind.wrap_u64]; omega
  obtain ⟨u, hu⟩ : ∃ z, M.unflip x = z := ⟨_, rfl⟩
  have hul : -9223372036854775808 ≤ u ∧ u ≤ 9223372036854775807 := by rw [← hu]; exact M.unflip_in hx
  obtain ⟨hu1, hu2⟩ := hul
  obtain ⟨s, hs⟩ : ∃ z, M.sign x a2 = z := ⟨_, rfl⟩
  have cA := Lib.hid (fun W => split_is x hi lo W hx ⟨⟨hhi, hlo⟩⟩)
  have cB := Lib.hid (fun W => zig_is a0 Z W b1 b2 ⟨hZ⟩)
  have cC := Lib.hid (fun W => zig_ref_is a0 Z W b1 b2 ⟨hZ⟩)
  have cD := Lib.hid (fun W => zag_is Z a0 W hZl ⟨by rw [← hZ, M.zag_zig]⟩)
  have cE := Lib.hid (fun W => zag_is x z W hx ⟨hz⟩)
  have cF := Lib.hid (fun W => zig_is z x W hz1 hz2 ⟨by rw [← hz, M.zig_zag]⟩)
  have cG := Lib.hid (fun W => flip_is a0 F W b1 b2 ⟨hF⟩)
  have cH := Lib.hid (fun W => unflip_is F a0 W hFl ⟨by rw [← hF, M.unflip_flip b1]⟩)
  have cI := Lib.hid (fun W => unflip_is x u W hx ⟨hu⟩)
  have cJ := Lib.hid (fun W => flip_is u x W hu1 hu2 ⟨by rw [← hu, M.flip_unflip]⟩)
  have cK := Lib.hid (fun W => sign_is x a2 s W hx b3 b4 ⟨hs⟩)
  have cL := Lib.hid (fun W => sign_ref_is x a2 s W hx b3 b4 ⟨hs⟩)
  have cM := Lib.hid (fun W => get_ref x hi 32 32 W hx (by decide) (by decide) ⟨hg1⟩)
  have cN := Lib.hid (fun W => get_ref x lo 0 32 W hx (by decide) (by decide) ⟨hg2⟩)
  have cO := Lib.hid (fun W => join_is hi lo x W hil lol ⟨by omega⟩)
  clear hhi hlo hg1 hg2 hZ hz hF hFe hu hs w0 w1 w2
  have hz := from_self w
  go_enter Try.func6, Try.ntmps6
  go_wp2_with (first
    | (go_at_call 17; (with_reducible refine (on_same hz (cA.out _)).mono ?_); rintro e w1 ⟨rfl, hz⟩))
  go_loopw [9] (fun i wr => ∃ j : Int, -1 ≤ j ∧ j ≤ 66 ∧ i = .int .i64 j ∧ From w wr) (fun i _ => (66 - intOf i).toNat)
  case atStart => exact ⟨-1, by omega, by omega, rfl, hz⟩
  case round =>
    clear hz
    obtain ⟨j, hj1, hj2, rfl, hz⟩ := hrel
    by_cases hlt : j < 66
    · obtain ⟨q, hq⟩ : ∃ z, M.sign x j = z := ⟨_, rfl⟩
      have cQ := Lib.hid (fun W => sign_is x j q W hx (by omega) (by omega) ⟨hq⟩)
      have cR := Lib.hid (fun W => sign_ref_is x j q W hx (by omega) (by omega) ⟨hq⟩)
      clear hq cA cB cC cD cE cF cG cH cI cJ cK cL cM cN cO
      go_wp2_with (first
        | (go_at_call 18; (with_reducible refine (on_same hz (cQ.out _)).mono ?_); rintro e w1 ⟨rfl, hz⟩)
        | (go_at_call 19; (with_reducible refine (on hz (cR.out _)).mono ?_); rintro e w1 ⟨rfl, hz⟩))
      go_roundw
      case rel => exact ⟨j + 1, by omega, by omega, by go_num, hz⟩
      case measure => simp [intOf]; omega
    · obtain rfl : j = 66 := by omega
      go_wp2_with (first
        | (go_at_call 15; (with_reducible refine (on hz (known_any _)).mono ?_); rintro e w1 ⟨rfl, hz⟩)
        | (go_at_call 20; (with_reducible refine (on_same hz (cB.out _)).mono ?_); rintro e w1 ⟨rfl, hz⟩)
        | (go_at_call 21; (with_reducible refine (on_same hz (cC.out _)).mono ?_); rintro e w1 ⟨rfl, hz⟩)
        | (go_at_call 22; (with_reducible refine (on_same hz (cD.out _)).mono ?_); rintro e w1 ⟨rfl, hz⟩)
        | (go_at_call 22; (with_reducible refine (on_same hz (cE.out _)).mono ?_); rintro e w1 ⟨rfl, hz⟩)
        | (go_at_call 20; (with_reducible refine (on_same hz (cF.out _)).mono ?_); rintro e w1 ⟨rfl, hz⟩)
        | (go_at_call 24; (with_reducible refine (on_same hz (cG.out _)).mono ?_); rintro e w1 ⟨rfl, hz⟩)
        | (go_at_call 23; (with_reducible refine (on_same hz (cH.out _)).mono ?_); rintro e w1 ⟨rfl, hz⟩)
        | (go_at_call 23; (with_reducible refine (on_same hz (cI.out _)).mono ?_); rintro e w1 ⟨rfl, hz⟩)
        | (go_at_call 24; (with_reducible refine (on_same hz (cJ.out _)).mono ?_); rintro e w1 ⟨rfl, hz⟩)
        | (go_at_call 18; (with_reducible refine (on_same hz (cK.out _)).mono ?_); rintro e w1 ⟨rfl, hz⟩)
        | (go_at_call 19; (with_reducible refine (on hz (cL.out _)).mono ?_); rintro e w1 ⟨rfl, hz⟩)
        | (go_at_call 12; (with_reducible refine (on hz (cM.out _)).mono ?_); rintro e w1 ⟨rfl, hz⟩)
        | (go_at_call 12; (with_reducible refine (on hz (cN.out _)).mono ?_); rintro e w1 ⟨rfl, hz⟩)
        | (go_at_call 25; (with_reducible refine (on_same hz (cO.out _)).mono ?_); rintro e w1 ⟨rfl, hz⟩))
      go_ret
      exact ⟨rfl, hz.below⟩
end Go.Proofs.Ytnholkkkdmbfnaa
