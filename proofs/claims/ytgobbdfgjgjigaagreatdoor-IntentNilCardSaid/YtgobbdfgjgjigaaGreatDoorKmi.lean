/-
  Small facts on a variable of a key.
-/
import Derived.Test.YtgobbdfgjgjigaaGreatDoorKwd
set_option linter.unusedVariables false
namespace Go.Proofs.YtgobbdfgjgjigaaGreatDoor
open Go.RowKit
theorem lvk_of {w : World} {g : Nat} {x : D.Ky} (h : kS.rd w ⟨g, 0, none⟩ = some x) : (loadVar 30 ⟨g, 0, none⟩).run Tryz.prog w = .ok (.agg (kS.v x)) w := (run_lvk w ⟨g, 0, none⟩).trans (by rw [h]; rfl)
end Go.Proofs.YtgobbdfgjgjigaaGreatDoor
