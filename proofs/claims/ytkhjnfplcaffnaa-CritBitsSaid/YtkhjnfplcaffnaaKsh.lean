/-
  What the library's calls answer with / bytes and with numbers: pieces, pieces joined, digits, the number that a text spells, a place in a text.
-/
import Derived.Test.YtkhjnfplcaffnaaKrt
import Derived.Shelf.LaySoft
import Derived.Lib.AtoiOr
import Derived.Lib.AtoiErrMem
set_option linter.unusedVariables false
set_option linter.unusedSimpArgs false
namespace Go.Proofs.Ytkhjnfplcaffnaa
open Go.RowKit Go.Shelf

abbrev slash : ByteArray := ⟨#[47]⟩
theorem cell_kept_ {w w' : World} (hb : Below w.heap.size w w') {a : Addr} {v : Value} (h : w.cell? a = some v) : w'.cell? a = some v := (World.cell?_of_block (hb.block _ (World.block_lt_of_cell? w _ h))).trans h
end Go.Proofs.Ytkhjnfplcaffnaa
