/-
  Regions that draw their order and only read, whose calls may lay blocks: one walk, in the class of the worlds that only have grown.
-/
import Derived.Test.YtgobbdfgjgjigaaGreatDoorARow
import Derived.BigQuiet
import Derived.Deep.Light
set_option linter.unusedVariables false
set_option linter.unusedSimpArgs false
set_option maxRecDepth 100000
namespace Go.Proofs.YtgobbdfgjgjigaaGreatDoor.Nm
open Go.RowKit

/-- How far on a world is: its draws, and its new blocks. -/
structure On where
  n : Nat
  os : Array Obj
  deriving Inhabited
def ext (w : World) (p : On) : World := { w with heap := w.heap ++ p.os, drawn := p.n }
end Go.Proofs.YtgobbdfgjgjigaaGreatDoor.Nm
