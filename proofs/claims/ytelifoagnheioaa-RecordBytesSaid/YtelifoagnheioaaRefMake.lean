/-
  The bytes of numbers, as the document's answer makes them: Ordered, Small, Row.
-/
import Derived.Test.YtelifoagnheioaaLess
set_option linter.unusedVariables false
set_option maxRecDepth 100000
set_option linter.unusedSimpArgs false
namespace Go.Proofs.Ytelifoagnheioaa
open Go.RowKit

theorem from_below {w w1 w2 : World} {o : Obj} {row : Option Nat} (h : Below w.heap.size w w1) (hg : (w1.alloc o).grownBy w2 row) (hr : ∀ k, row = some k → w.heap.size ≤ k) : Below w.heap.size w w2 :=
  (h.alloc h.size o).grown hg (by simp; have := h.size; omega) hr

set_option maxHeartbeats 400000 in
theorem ref_small (x : Nat) (w : World) (hx : x < 18446744073709551616) :
    Calls Try.prog 23 #[.int .u64 x] w (Made w (D.sm x)) := by
  have hlen := D.sm_len10 hx
  go_enter Try.func23, Try.ntmps23
  go_wp2
  go_loopw [0, 3] (fun t o wr => ∃ (m : Nat) (A : Option Addr) (j c : Nat) (l : List Nat), t = .int .u64 m ∧ o = .slice A j c ∧ m < 18446744073709551616 ∧ Own w.heap.size wr A j c l ∧ Kept (l ++ D.sm m = D.sm x) ∧ Below w.heap.size w wr) (fun t _ _ => (intOf t).toNat)
  case atStart => exact ⟨x, none, 0, 0, [], rfl, rfl, hx, Own.nil (Nat.le_refl _), ⟨by simp⟩, Below.refl _ _⟩
  case round =>
    obtain ⟨m, A, j, c, l, rfl, rfl, hm, HO, HK, hbel⟩ := hrel
    have hll := HO.len
    have hj : j ≤ 10 := by
      have := congrArg List.length HK.out
      rw [List.length_append] at this
      omega
    clear hll
    by_cases h0 : 127 < m
    · have HN : Kept ((l ++ [m % 128 + 128]) ++ D.sm (m / 128) = D.sm x) := ⟨by rw [← HK.out, D.sm_more (n := m) (by omega)]; simp⟩
      clear HK
      go_wp2_with (at_builtin; refine app _ rfl (.tmp 6) (.tmp 11) rfl rfl (HO.alloc _) rfl (Own.lit (b := m % 128 + 128) HO.base (by rfl)).to_row (by omega) ?_; intro A1 c1 w1 ho1 hg1 hat1)
      go_roundw
      case rel => exact ⟨m / 128, A1, j + 1, c1, _, by go_num, rfl, by omega, ho1, HN, from_below hbel hg1 HO.block_le⟩
      case measure => simp [intOf]; omega
    · have HE : Kept (l ++ [m] = D.sm x) := ⟨by rw [← HK.out, D.sm_last (n := m) (by omega)]⟩
      clear HK
      go_wp2_with (at_builtin; refine app _ rfl (.tmp 15) (.tmp 18) rfl rfl (HO.alloc _) rfl (Own.lit (b := m) HO.base (by rfl)).to_row (by omega) ?_; intro A1 c1 w1 ho1 hg1 hat1)
      go_ret
      exact made_of ho1 HE.out (from_below hbel hg1 HO.block_le)

end Go.Proofs.Ytelifoagnheioaa
