/-
  A new reader; what is left, the error, whether all is read; and the reader's calls at a nil pointer.
-/
import Derived.Test.YtelifoagnheioaaLget
set_option linter.unusedVariables false
set_option maxRecDepth 100000
set_option linter.unusedSimpArgs false
namespace Go.Proofs.Ytelifoagnheioaa
open Go.RowKit
attribute [local go_sem ↓] Go.wp_at_zero Go.wp_at_succ

/-- What Done tells. -/
def dn (e m : Nat) : Nat := if e = 0 then (if 0 < m then 3 else 0) else e
section
variable (q n c place e : Nat) (B : Option Addr) (l : List Nat) (w : World)
theorem left_any (h : Blk w q 102 #[.slice B n c, .int .i64 e, .int .i64 place]) (hp : place ≤ n) (hn : n ≤ 1000000) :
    Calls Try.prog 32 #[.pointer (some ⟨q, 0, none⟩)] w fun en w' => en = .returned (.int .i64 ((n - place : Nat) : Int)) ∧ ∃ u, w' = w.drewN u := by
  have hc0 := (h.c 0).trans rfl
  have hc2 := (h.c 2).trans rfl
  go_enter Try.func32, Try.ntmps32
  go_wp2_with fail
  go_quiet (fail)
  go_wp2
  go_ret
  exact ⟨ret_of (by omega), _, rfl⟩
theorem err_any (h : Blk w q 102 #[.slice B n c, .int .i64 e, .int .i64 place]) :
    Calls Try.prog 52 #[.pointer (some ⟨q, 0, none⟩)] w fun en w' => en = .returned (.int .i64 e) ∧ w = w' := by
  have hc1 := (h.c 1).trans rfl
  go_enter Try.func52, Try.ntmps52
  go_wp2
  go_ret
  exact ⟨rfl, rfl⟩
theorem new_reader (hr : Row w B n (bys l)) (hl : Kept (∀ b ∈ l, b < 256)) (hn : n ≤ 1000000) :
    Calls Try.prog 30 #[.slice B n c] w fun en w' => ∃ q A' c', en = .returned (.pointer (some ⟨q, 0, none⟩)) ∧ Rd w' q A' n c' l 0 0 ∧ w.heap.size ≤ q ∧ (∀ i, at_ A' i → w.heap.size ≤ i ∧ i < w'.heap.size) ∧ Below w.heap.size w w' := by
  have hlen := hr.len
  rw [bys_len] at hlen
  have cC := clone_any B n c l w hr hn
  unfold Made at cC
  rw [hlen] at cC
  have cC := Lib.hid cC
  clear hlen
  go_enter Try.func30, Try.ntmps30
  go_wp2_with (go_at_call 48; (with_reducible refine cC.out.mono ?_); rintro e w1 ⟨A1, c1, rfl, ho1, hb1⟩)
  go_ret
  have h2 := ho1.cap.2
  unfold maxLen at h2
  refine ⟨w1.heap.size, A1, c1, rfl, ⟨Blk.new _ _ _, ho1.to_row.alloc _, hl, Nat.zero_le _, ho1.cap.1, h2, hn, ?_⟩, hb1.size, fun i hi => ⟨ho1.block_le i (at_own hi), by have := (ho1.row.lt i (at_own hi)).2; simp; omega⟩, hb1.alloc hb1.size _⟩
  rintro ad rfl hq
  have := (ho1.row.lt ad.block (by simp [Value.ownBlock])).2
  omega

section
variable (w : World)
end
end
end Go.Proofs.Ytelifoagnheioaa
