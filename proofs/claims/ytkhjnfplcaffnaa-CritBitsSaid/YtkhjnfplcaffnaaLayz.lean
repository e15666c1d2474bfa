/-
  The library's texts in this program are those that the library's contracts were proved of.
-/
import Derived.Shelf.Small.Bits
import Derived.Test.YtkhjnfplcaffnaaProg
namespace Go.Proofs.Ytkhjnfplcaffnaa
open Go.Shelf
def lays126_ren : Go.Shelf.Ren := ⟨fun | 126 => 63 | n => n, fun | 5 => 5 | 3 => 3 | 9 => 9 | n => n, fun | n => n⟩
theorem lays126 : Go.Proofs.Lays.n126 Try.prog lays126_ren := {
  mixed := by kernel_rfl
  f126 := Try.func63.trans (congrArg some (by kernel_rfl))
  t3 := Try.underlying3
  a3 := Try.isAgg3
  z3 := Try.sizeOf3
  v3 := Try.zeroValue3
  t5 := Try.underlying5
  a5 := Try.isAgg5
  z5 := Try.sizeOf5
  v5 := Try.zeroValue5
  t9 := Try.underlying9
  a9 := Try.isAgg9
  z9 := Try.sizeOf9
  v9 := Try.zeroValue9 }
def lays131_ren : Go.Shelf.Ren := ⟨fun | 131 => 55 | 126 => 63 | n => n, fun | 5 => 5 | 3 => 3 | 9 => 9 | n => n, fun | n => n⟩
theorem lays131 : Go.Proofs.Lays.n131 Try.prog lays131_ren := {
  mixed := by kernel_rfl
  f126 := Try.func63.trans (congrArg some (by kernel_rfl))
  f131 := Try.func55.trans (congrArg some (by kernel_rfl))
  t3 := Try.underlying3
  a3 := Try.isAgg3
  z3 := Try.sizeOf3
  v3 := Try.zeroValue3
  t5 := Try.underlying5
  a5 := Try.isAgg5
  z5 := Try.sizeOf5
  v5 := Try.zeroValue5
  t9 := Try.underlying9
  a9 := Try.isAgg9
  z9 := Try.sizeOf9
  v9 := Try.zeroValue9 }
end Go.Proofs.Ytkhjnfplcaffnaa
