/-
  The document's Uses and has.
-/
import Derived.Test.YtcnbdfobhablbaaRck
import Derived.Test.YtcnbdfobhablbaaRrm
set_option linter.unusedVariables false
set_option linter.unusedSimpArgs false
set_option maxRecDepth 100000
namespace Go.Proofs.Ytcnbdfobhablbaa
open Go.RowKit
attribute [local go_sem ↓] Go.wp_at_zero Go.wp_at_succ

theorem uses_1 (w : World) : Calls Try.prog 38 #[.int .i64 1] w fun en w' => en = .returned (.string (D.usz 1)) ∧ Below w.heap.size w w' := by
  go_enter Try.func38, Try.ntmps38
  go_wp2
  go_ret
  exact ⟨rfl, below_alloc _ _⟩
theorem uses_2 (w : World) : Calls Try.prog 38 #[.int .i64 2] w fun en w' => en = .returned (.string (D.usz 2)) ∧ Below w.heap.size w w' := by
  go_enter Try.func38, Try.ntmps38
  go_wp2
  go_ret
  exact ⟨rfl, below_alloc _ _⟩
theorem uses_3 (w : World) : Calls Try.prog 38 #[.int .i64 3] w fun en w' => en = .returned (.string (D.usz 3)) ∧ Below w.heap.size w w' := by
  go_enter Try.func38, Try.ntmps38
  go_wp2
  go_ret
  exact ⟨rfl, below_alloc _ _⟩
theorem uses_4 (w : World) : Calls Try.prog 38 #[.int .i64 4] w fun en w' => en = .returned (.string (D.usz 4)) ∧ Below w.heap.size w w' := by
  go_enter Try.func38, Try.ntmps38
  go_wp2
  go_ret
  exact ⟨rfl, below_alloc _ _⟩
theorem uses_5 (w : World) : Calls Try.prog 38 #[.int .i64 5] w fun en w' => en = .returned (.string (D.usz 5)) ∧ Below w.heap.size w w' := by
  go_enter Try.func38, Try.ntmps38
  go_wp2
  go_ret
  exact ⟨rfl, below_alloc _ _⟩
theorem uses_6 (w : World) : Calls Try.prog 38 #[.int .i64 6] w fun en w' => en = .returned (.string (D.usz 6)) ∧ Below w.heap.size w w' := by
  go_enter Try.func38, Try.ntmps38
  go_wp2
  go_ret
  exact ⟨rfl, below_alloc _ _⟩
theorem D.hsb_take {l : List UInt8} {c k : Nat} (h : D.hsb (l.take k) c = false) (hk : k < l.length) (hx : l[k].toNat ≠ c) : D.hsb (l.take (k + 1)) c = false := by
  unfold D.hsb at h ⊢
  rw [List.take_succ_eq_append_getElem hk, List.any_append, h]
  simp [hx]
theorem D.hsb_at {l : List UInt8} {c k : Nat} (hk : k < l.length) (hx : l[k].toNat = c) : D.hsb l c = true := by
  unfold D.hsb
  rw [List.any_eq_true]
  exact ⟨l[k], List.getElem_mem hk, by simp [hx]⟩
set_option maxHeartbeats 1000000 in
theorem has_any (s : ByteArray) (c : Nat) (w : World) (hs : s.size ≤ 1000) :
    Calls Try.prog 39 #[.string s, .int .u8 (c : Nat)] w fun en w' => en = .returned (.bool (D.hsb s.data.toList c)) ∧ w = w' := by
  go_enter Try.func39, Try.ntmps39
  go_wp2
  go_loop [5] (fun i => ∃ k : Nat, k ≤ s.size ∧ i = .int .i64 k ∧ Kept (D.hsb (s.data.toList.take k) c = false)) (fun i => s.size - (intOf i).toNat)
  case atStart => exact ⟨0, Nat.zero_le _, rfl, ⟨rfl⟩⟩
  case round =>
    obtain ⟨k, hk, rfl, HK⟩ := hrel
    by_cases hlt : k < s.size
    · have hl : k < s.data.toList.length := by simpa using hlt
      have hx : s.data.toList[k] = s[k] := by simp [ByteArray.getElem_eq_getElem_data]
      by_cases he : s[k].toNat = c
      · have HR : Kept (D.hsb s.data.toList c = true) := ⟨D.hsb_at hl (by rw [hx]; exact he)⟩
        have e1 : ((s[k].toNat : Int) == (c : Int)) = true := by simp; omega
        clear HK hx he
        go_wp2
        go_ret
        exact ⟨by rw [HR.out]; rfl, rfl⟩
      · have HN : Kept (D.hsb (s.data.toList.take (k + 1)) c = false) := ⟨D.hsb_take HK.out hl (by rw [hx]; exact he)⟩
        have e1 : ((s[k].toNat : Int) == (c : Int)) = false := by simp; omega
        clear HK hx he
        go_wp2
        go_round
        case rel => exact ⟨k + 1, by omega, by go_num, HN⟩
        case measure => simp [intOf]; omega
    · have HR : Kept (D.hsb s.data.toList c = false) := ⟨by rw [← HK.out, List.take_of_length_le (by simp; omega)]⟩
      clear HK
      go_wp2
      go_ret
      exact ⟨by rw [HR.out]; rfl, rfl⟩
end Go.Proofs.Ytcnbdfobhablbaa
