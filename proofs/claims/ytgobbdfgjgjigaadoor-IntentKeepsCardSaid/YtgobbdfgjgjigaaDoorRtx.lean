/-
  The document's Text.
-/
import Derived.Test.YtgobbdfgjgjigaaDoorRefa
import Derived.Test.YtgobbdfgjgjigaaDoorRby
import Derived.Deep.Light
import Derived.Sort.Grow
import Derived.Test.YtgobbdfgjgjigaaDoorACut
set_option linter.unusedVariables false
set_option linter.unusedSimpArgs false
namespace Go.Proofs.YtgobbdfgjgjigaaDoor
open Go.RowKit
attribute [local go_sem ↓] Go.wp_at_zero Go.wp_at_succ

theorem sb_app (l k : List Nat) : D.sb (l ++ k) = D.sb l ++ D.sb k := by
  refine ByteArray.ext ?_
  rw [ByteArray.data_append]
  simp [D.sb]
end Go.Proofs.YtgobbdfgjgjigaaDoor
