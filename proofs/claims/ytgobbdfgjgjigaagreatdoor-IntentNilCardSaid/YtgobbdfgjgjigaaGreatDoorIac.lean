/-
  Calls that came in, in memory.
-/
import Derived.Test.YtgobbdfgjgjigaaGreatDoorIkn
set_option linter.unusedVariables false
set_option linter.unusedSimpArgs false
set_option maxRecDepth 100000
namespace Go.Proofs.YtgobbdfgjgjigaaGreatDoor
open Go.RowKit
/-- A call: Drop (or Take), an owner, two keys. -/
structure D.Ia where
  d : Bool
  o : Int
  a : Ky
  b : Ky
end Go.Proofs.YtgobbdfgjgjigaaGreatDoor
