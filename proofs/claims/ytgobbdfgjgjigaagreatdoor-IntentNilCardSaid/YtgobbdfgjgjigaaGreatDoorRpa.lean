/-
  The document's Parse.
-/
import Derived.Test.YtgobbdfgjgjigaaGreatDoorRefa
import Derived.Test.YtgobbdfgjgjigaaGreatDoorRtx
import Derived.Deep.Light
import Derived.Sort.Grow
import Derived.Test.YtgobbdfgjgjigaaGreatDoorACut
set_option linter.unusedVariables false
set_option linter.unusedSimpArgs false
namespace Go.Proofs.YtgobbdfgjgjigaaGreatDoor
open Go.RowKit
attribute [local go_sem ↓] Go.wp_at_zero Go.wp_at_succ

theorem root_test (s : ByteArray) : (s.toList == [114, 111, 111, 116]) = decide (D.ns s = D.rootT) := by
  rw [ByteArray.toList_eq, Bool.eq_iff_iff, beq_iff_eq, decide_eq_true_eq]
  constructor
  · intro h; rw [D.ns, h]; rfl
  · intro h
    have e : s = ⟨#[114, 111, 111, 116]⟩ := D.ns_inj (h.trans rfl)
    rw [e]
/-- What is still to come. -/
def fin (t : D.Pt) (rest : List Nat) (more : Bool) : Option D.Pt := if more then D.foldP t (D.spl rest) else some t
theorem parse_no {s : List Nat} (h : s ≠ D.rootT) (hl : D.isL (D.cutP s) = false) : D.parse s = none := by unfold D.parse; rw [if_neg h, if_neg (by rw [hl]; decide)]
end Go.Proofs.YtgobbdfgjgjigaaGreatDoor
