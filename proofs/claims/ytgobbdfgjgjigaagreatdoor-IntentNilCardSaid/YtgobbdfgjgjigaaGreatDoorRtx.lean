/-
  The document's Text.
-/
import Derived.Test.YtgobbdfgjgjigaaGreatDoorRefa
import Derived.Test.YtgobbdfgjgjigaaGreatDoorRby
import Derived.Deep.Light
import Derived.Sort.Grow
import Derived.Test.YtgobbdfgjgjigaaGreatDoorACut
set_option linter.unusedVariables false
set_option linter.unusedSimpArgs false
namespace Go.Proofs.YtgobbdfgjgjigaaGreatDoor
open Go.RowKit
attribute [local go_sem ↓] Go.wp_at_zero Go.wp_at_succ

theorem sb_app (l k : List Nat) : D.sb (l ++ k) = D.sb l ++ D.sb k := by
  refine ByteArray.ext ?_
  rw [ByteArray.data_append]
  simp [D.sb]
end Go.Proofs.YtgobbdfgjgjigaaGreatDoor
