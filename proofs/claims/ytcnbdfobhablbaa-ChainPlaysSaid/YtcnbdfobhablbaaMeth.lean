/-
  The writer's calls.
-/
import Derived.Test.YtcnbdfobhablbaaRefW
set_option linter.unusedVariables false
set_option maxRecDepth 100000
set_option linter.unusedSimpArgs false
namespace Go.Proofs.Ytcnbdfobhablbaa
open Go.RowKit
attribute [local go_sem ↓] Go.wp_at_zero Go.wp_at_succ

theorem below_alloc (w : World) (o : Obj) : Below w.heap.size w (w.alloc o) := (Below.refl _ _).alloc (Nat.le_refl _) o
theorem new_cell (w : World) (v : Value) (t : TypeId) : (w.alloc (.cells #[v] t)).cell? ⟨w.heap.size, 0, none⟩ = some v := ((Blk.new w t #[v]).c 0).trans rfl
section
variable (base p room n c : Nat) (A : Option Addr) (s : D.St) (w : World)
end
end Go.Proofs.Ytcnbdfobhablbaa
