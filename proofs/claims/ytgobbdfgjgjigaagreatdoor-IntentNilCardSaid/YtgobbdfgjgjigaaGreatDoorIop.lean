/-
  Calls that came in, opened.
-/
import Derived.Test.YtgobbdfgjgjigaaGreatDoorIac
import Derived.Test.YtgobbdfgjgjigaaGreatDoorKopn
import Derived.Deep.Slices
import Derived.Deep.Fields
import Derived.ChangeSame
set_option linter.unusedVariables false
set_option linter.unusedSimpArgs false
set_option maxRecDepth 100000
namespace Go.Proofs.YtgobbdfgjgjigaaGreatDoor
open Go.ChangeShapes Go.WideShapes Go.ChangeAt Go.RowKit Go.Deep
theorem wf_i64 {n : Int} (h : (Lit.int .i64 n).wf = true) : -9223372036854775808 ≤ n ∧ n ≤ 9223372036854775807 := by
  have h1 : IntKind.i64.min = -9223372036854775808 := by rfl
  have h2 : IntKind.i64.max = 9223372036854775807 := by rfl
  simpa [Lit.wf, h1, h2] using h
def D.Ia.wf (x : D.Ia) : Prop := -9223372036854775808 ≤ x.o ∧ x.o ≤ 9223372036854775807
section
variable {H : Type} {enc : TypeId × Value → H} {w : World} {base : Nat} {spare : Nat → Bool} {held : Bool}
end
end Go.Proofs.YtgobbdfgjgjigaaGreatDoor
