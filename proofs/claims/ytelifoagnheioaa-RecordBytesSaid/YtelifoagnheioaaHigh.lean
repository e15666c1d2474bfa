/-
  A number's bytes, the highest first: the program's highFirst and the document's high; the program's bytes.Clone.
-/
import Derived.Test.YtelifoagnheioaaWords
set_option linter.unusedVariables false
set_option maxRecDepth 100000
set_option linter.unusedSimpArgs false
namespace Go.Proofs.Ytelifoagnheioaa
open Go.RowKit
attribute [local go_sem ↓] Go.wp_at_zero Go.wp_at_succ

def hrow (x z k : Nat) : Array Value := (bys (List.replicate (z - k) 0 ++ D.be x k)).toArray
theorem hrow_size (x z k : Nat) (h : k ≤ z) : (hrow x z k).size = z := by simp [hrow, bys, D.be_len]; omega
theorem hrow_next (x z k : Nat) (h : k < z) : (hrow x z k).setIfInBounds (z - 1 - k) (.int .u8 ((x / 256 ^ k % 256 : Nat) : Int)) = hrow x z (k + 1) := by
  obtain ⟨m, rfl⟩ : ∃ m, z = k + 1 + m := ⟨z - (k + 1), by omega⟩
  rw [hrow, hrow, D.be, show k + 1 + m - k = m + 1 by omega, show k + 1 + m - (k + 1) = m by omega, show k + 1 + m - 1 - k = m by omega, List.replicate_succ', List.append_assoc, List.singleton_append, bys_app, bys_app]
  have hm : (bys (List.replicate m 0)).length = m := by simp [bys]
  simp only [bys, List.map_cons] at hm ⊢
  rw [List.setIfInBounds_toArray, List.set_append, if_neg (by omega), hm, Nat.sub_self, List.set_cons_zero]
theorem make_run (x z : Nat) (hz : z ≤ 8) : ∀ W, (Instr.makeSlice 23 (.int .i64 (z : Int)) (.int .i64 (z : Int))).run Try.prog W = .ok (.slice (some ⟨W.heap.size, 0, none⟩) z z) (W.alloc (.cells (hrow x z 0) 5)) := by
  intro W
  obtain ⟨i, hi, hz0, hz1, hz2⟩ := info_parts u8_info
  have hr := run_make (P := Try.prog) W 23 5 i _ Try.underlying23 hi hz0 .i64 .i64 z z (by omega) (Int.le_refl _) (by rw [hz2]; omega) (by omega)
  simp only [Int.toNat_natCast] at hr
  rw [hr, hz1, Nat.mul_one]
  congr 3
  apply Array.ext'
  have := toList_madeCells_one (.int .u8 0) z
  simp only [hrow, D.be, List.append_nil, Nat.sub_zero]
  rw [show (Value.int IntKind.u8 0).cells = #[.int .u8 0] by rfl, this]
  simp [bys]
theorem own_of_blk {base : Nat} {w : World} {g z : Nat} {l : List Nat} (h : Blk w g 5 (bys l).toArray) (hg : base ≤ g) (hl : l.length = z) (hz : z ≤ 1000000) : Own base w (some ⟨g, 0, none⟩) z z l :=
  ⟨⟨by rw [bys_len, hl, Nat.mul_one], .inr ⟨g, z, _, rfl, hg, h.out, Nat.le_refl _, by simp only [maxLen]; omega, by simp [bys_len, hl], by
    rw [Nat.mul_one]
    show (bys l).take z = bys l
    exact List.take_of_length_le (by rw [bys_len, hl]; exact Nat.le_refl _)⟩⟩, Nat.le_trans hg (Nat.le_of_lt h.lt)⟩

set_option maxHeartbeats 400000 in
theorem clone_any (A : Option Addr) (n c : Nat) (l : List Nat) (w : World) (ha : Row w A n (bys l)) (hn : n ≤ 1000000) :
    Calls Try.prog 48 #[.slice A n c] w (Made w l) := by
  cases A with
  | none =>
    have h0 : n = 0 := by
      rcases Nat.eq_zero_or_pos n with h0 | h0
      · exact h0
      · obtain ⟨ad, h, _⟩ := ha.to h0
        cases h
    subst h0
    have hl : l = [] := List.eq_nil_of_length_eq_zero (by have := ha.len; rwa [bys_len] at this)
    subst hl
    have he : ∀ W : World, (binOp .eql 23 (.slice none 0 c) (.slice none 0 0)).run Try.prog W = .ok (.bool true) W := fun _ => rfl
    go_enter Try.func48, Try.ntmps48
    go_wp2
    go_ret
    exact made (Own.nil (Nat.le_refl _)) (Below.refl _ _)
  | some ad =>
    have HO : Own w.heap.size (w.alloc (.cells #[] 5)) (some ⟨w.heap.size, 0, none⟩) 0 0 [] := ⟨World.ownsRow_lit w #[] 0 (Nat.le_refl _) (by simp [maxLen]) rfl, by simp⟩
    have he : ∀ W : World, (binOp .eql 23 (.slice (some ad) n c) (.slice none 0 0)).run Try.prog W = .ok (.bool false) W := fun _ => rfl
    go_enter Try.func48, Try.ntmps48
    go_wp2_with (at_builtin; refine app _ rfl (.tmp 5) (.tmp 6) rfl rfl HO rfl (ha.alloc _) (by omega) ?_; intro A1 c1 w1 ho1 hg1 hat1; rw [Nat.zero_add, List.nil_append] at ho1)
    go_ret
    exact made_of ho1 rfl (from_below (Below.refl _ _) hg1 (fun k hk => by simp [Value.ownBlock] at hk; omega))
end Go.Proofs.Ytelifoagnheioaa
