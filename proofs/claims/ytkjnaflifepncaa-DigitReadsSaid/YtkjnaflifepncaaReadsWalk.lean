/-
  The law of what is read of any bytes: its walk.
-/
import Derived.Test.YtkjnaflifepncaaLaw2
set_option linter.unusedVariables false
set_option linter.unusedSimpArgs false
namespace Go.Proofs.Ytkjnaflifepncaa
open Go.RowKit

set_option maxRecDepth 20000 in
set_option maxHeartbeats 1000000 in
theorem reads_walk (A : Option Addr) (n c : Nat) (l : List Nat) (w : World) (ha : Row w A n (bys l)) (hl : Kept (∀ b ∈ l, b < 256)) (hnc : n ≤ c) (hcm : c ≤ maxLen) :
    Calls Try.prog 4 #[.slice A n c] w fun e w' => e = .returned (.bool true) ∧ Below w.heap.size w w' := by
  have hcm' := hcm
  unfold maxLen at hcm'
  by_cases h30 : n ≤ 30
  · obtain ⟨A1, hcut, hR⟩ := upto_run_b A n c n n rfl (by omega)
    have hrow := hR w _ ha (by omega)
    rw [bys_take] at hrow
    clear hR ha
    have hl2 : Kept (∀ b ∈ l.take n, b < 256) := ⟨fun b hb => hl.out b (List.mem_of_mem_take hb)⟩
    clear hl
    generalize l.take n = r at hrow hl2
    obtain ⟨x, k, f, hO⟩ : ∃ x k f, D.readO r = (x, k, f) := ⟨_, _, _, rfl⟩
    obtain ⟨y, h, g, hS⟩ : ∃ y h g, D.readS r = (y, h, g) := ⟨_, _, _, rfl⟩
    have c1 := Lib.hid (fun W h => read_ordered_is A1 n c r x k f W h hl2 (by omega) hcm ⟨hO⟩)
    have c2 := Lib.hid (fun W h => ref_read_ordered_is A1 n c r x k f W h hl2 (by omega) hcm ⟨hO⟩)
    have c3 := Lib.hid (fun W hh => read_small_is A1 n c r y h g W hh hl2 (by omega) ⟨hS⟩)
    have c4 := Lib.hid (fun W hh => ref_read_small_is A1 n c r y h g W hh hl2 (by omega) ⟨hS⟩)
    clear hO hS hl2
    have hz := from_self w
    go_enter Try.func4, Try.ntmps4
    go_wp2_with (first
      | (go_at_call 17; (with_reducible refine (c1.out _ hrow).mono ?_); rintro e w2 ⟨rfl, q, rfl⟩)
      | (go_at_call 18; (with_reducible refine (c2.out _ (hrow.drewN _)).mono ?_); rintro e w2 ⟨rfl, rfl⟩)
      | (go_at_call 19; (with_reducible refine (c3.out _ (hrow.drewN _)).mono ?_); rintro e w2 ⟨rfl, rfl⟩)
      | (go_at_call 20; (with_reducible refine (c4.out _ (hrow.drewN _)).mono ?_); rintro e w2 ⟨rfl, rfl⟩)
      | (go_at_call 12; (with_reducible refine (on (hz.drewN _) (known_any _)).mono ?_); rintro e w1 ⟨rfl, hz⟩))
    go_ret
    exact ⟨rfl, hz.below⟩
  · obtain ⟨A1, hcut, hR⟩ := upto_run_b A n c 30 30 rfl (by omega)
    have hrow := hR w _ ha (by omega)
    rw [bys_take] at hrow
    clear hR ha
    have hl2 : Kept (∀ b ∈ l.take 30, b < 256) := ⟨fun b hb => hl.out b (List.mem_of_mem_take hb)⟩
    clear hl
    generalize l.take 30 = r at hrow hl2
    obtain ⟨x, k, f, hO⟩ : ∃ x k f, D.readO r = (x, k, f) := ⟨_, _, _, rfl⟩
    obtain ⟨y, h, g, hS⟩ : ∃ y h g, D.readS r = (y, h, g) := ⟨_, _, _, rfl⟩
    have c1 := Lib.hid (fun W h => read_ordered_is A1 30 c r x k f W h hl2 (by omega) hcm ⟨hO⟩)
    have c2 := Lib.hid (fun W h => ref_read_ordered_is A1 30 c r x k f W h hl2 (by omega) hcm ⟨hO⟩)
    have c3 := Lib.hid (fun W hh => read_small_is A1 30 c r y h g W hh hl2 (by omega) ⟨hS⟩)
    have c4 := Lib.hid (fun W hh => ref_read_small_is A1 30 c r y h g W hh hl2 (by omega) ⟨hS⟩)
    clear hO hS hl2
    have hz := from_self w
    go_enter Try.func4, Try.ntmps4
    go_wp2_with (first
      | (go_at_call 17; (with_reducible refine (c1.out _ hrow).mono ?_); rintro e w2 ⟨rfl, q, rfl⟩)
      | (go_at_call 18; (with_reducible refine (c2.out _ (hrow.drewN _)).mono ?_); rintro e w2 ⟨rfl, rfl⟩)
      | (go_at_call 19; (with_reducible refine (c3.out _ (hrow.drewN _)).mono ?_); rintro e w2 ⟨rfl, rfl⟩)
      | (go_at_call 20; (with_reducible refine (c4.out _ (hrow.drewN _)).mono ?_); rintro e w2 ⟨rfl, rfl⟩)
      | (go_at_call 12; (with_reducible refine (on (hz.drewN _) (known_any _)).mono ?_); rintro e w1 ⟨rfl, hz⟩))
    go_ret
    exact ⟨rfl, hz.below⟩

theorem reads_all (a : Option Addr) (len cap : Nat) (zs : List Int) (W : World) (h : IsRow .u8 W a len cap zs) :
    Calls Try.prog 4 #[.slice a len cap] W fun e w' => e = .returned (.bool true) ∧ Below W.heap.size W w' := by
  obtain ⟨l, hr, hl, h1, h2⟩ := h.bytes
  exact reads_walk a len cap l W hr hl h1 h2
end Go.Proofs.Ytkjnaflifepncaa
