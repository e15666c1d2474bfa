/-
  Small facts on a variable of a key.
-/
import Derived.Test.YtkhjnfplcaffnaaGf
set_option linter.unusedVariables false
namespace Go.Proofs.Ytkhjnfplcaffnaa
open Go.RowKit
theorem lvk_of {w : World} {g : Nat} {x : D.Ky} (h : kS.rd w ⟨g, 0, none⟩ = some x) : (loadVar 30 ⟨g, 0, none⟩).run Try.prog w = .ok (.agg (kS.v x)) w := (run_lvk w ⟨g, 0, none⟩).trans (by rw [h]; rfl)
theorem Nm.results_cell1 {fn : Func} {p : Tmp} {ty : TypeId} (h : fn.results = #[.cell p ty]) (tmps : Array Value) (P : Program) (w : World) :
    (results fn tmps).run P w = ((asAddr (tmps.getD p undef)).run P w).andThen fun a w₁ => (loadVar ty a).run P w₁ := by
  simp only [results, h]
  simp [Sem.run_bind, Result.andThen]
end Go.Proofs.Ytkhjnfplcaffnaa
