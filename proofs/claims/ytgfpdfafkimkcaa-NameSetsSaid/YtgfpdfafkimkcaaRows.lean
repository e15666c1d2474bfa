/-
  No cell of these rows narrows 'for every input' (looked for: loops, veiled, ifaces, maps, wideKeys, modest, calm, conditions, laid).
  DERIVED. THE GIVEN ROWS OF THIS SEAT. 6 by the template 'for every input the law returns true; each argument reads behind the call as it read before'; 0 by the template 'total and deterministic' (their statements: YtgfpdfafkimkcaaTotals.lean).
  GIVEN WITH THE SEED: the statements are not yours to turn. If you find one false, say at which input.
  Laid BY PROGRAM, IN A SANDBOX (cutbox-rows.mjs): the forced cells as the released guide's own fill.sh prints them over the translation ec1ea45ff9cafa5f… (all of the seat's roots in one cut). By AI agents, Wed Nov 11 2026. No macro, syntax, notation, axiom, sorry.
-/
import Derived.Test.YtgfpdfafkimkcaaChecked
import GoSem.Claim
import GoSem.ClaimJoined
import GoSem.ClaimMapViews
import Derived.JoinedTies
import Derived.KernelRfl
namespace Go.Proofs.Ytgfpdfafkimkcaa
/- THE CELL 'sum', in the pinned program and in every row, IS THE sha256 OF THE DUMP (.gsa) THAT YtgfpdfafkimkcaaProg.lean LOADS. Nothing in Lean hashes anything: it is a label: what it is worth is what the hold of that sum in a sandbox is worth. -/
noncomputable def Try.pinned : Pinned := { name := "ytgfpdfafkimkcaa", sum := "ec1ea45ff9cafa5f442651b0c050456f80444213a03231e7394392ea257483f0", checked := Try.checked }
namespace Rows
def none {H : Type} : Left H := { results := [], args := [] }

/-- 'vulgatelaw04.NameTexts': WHATEVER THE INPUT: true; the input reads as it did. -/
def nameTextsSpec : ChangeSpec := { name := "nameTexts", fn := fun _ => fun
  | [d1, d2] => { results := [.lit (.bool true)], args := [d1, d2] }
  | _ => none }
def nameTextsRow : OpenClaim := { program := "ytgfpdfafkimkcaa", sum := "ec1ea45ff9cafa5f442651b0c050456f80444213a03231e7394392ea257483f0", func := "vulgate/vulgatelaw04.NameTexts", spec := "nameTexts", inPlace := ["internal/bytealg.IndexByte", "internal/bytealg.Index", "internal/bytealg.Compare"], named := ["internal/bytealg.MaxLen"], plainKeys := false, apart := false }
def NameTextsSaid : Prop := nameTextsRow.holds Try.pinned (OpenSpec.ofChange nameTextsSpec)

/-- ITS FALSE NEIGHBOUR: 'it returns false'. Refute it at one input. -/
def nameTextsWrong : ChangeSpec := { name := "nameTexts", fn := fun _ => fun
  | [d1, d2] => { results := [.lit (.bool false)], args := [d1, d2] }
  | _ => none }
def NameTextsWrongFalsely : Prop := nameTextsRow.holds Try.pinned (OpenSpec.ofChange nameTextsWrong)

/-- 'vulgatelaw04.NameOrder': WHATEVER THE INPUT: true; the input reads as it did. -/
def nameOrderSpec : ChangeSpec := { name := "nameOrder", fn := fun _ => fun
  | [d1, d2, d3, d4] => { results := [.lit (.bool true)], args := [d1, d2, d3, d4] }
  | _ => none }
def nameOrderRow : OpenClaim := { program := "ytgfpdfafkimkcaa", sum := "ec1ea45ff9cafa5f442651b0c050456f80444213a03231e7394392ea257483f0", func := "vulgate/vulgatelaw04.NameOrder", spec := "nameOrder", inPlace := ["internal/bytealg.Compare", "internal/bytealg.IndexByte", "internal/bytealg.Index"], named := ["internal/bytealg.MaxLen"], plainKeys := false, apart := false }
def NameOrderSaid : Prop := nameOrderRow.holds Try.pinned (OpenSpec.ofChange nameOrderSpec)

/-- ITS FALSE NEIGHBOUR: 'it returns false'. Refute it at one input. -/
def nameOrderWrong : ChangeSpec := { name := "nameOrder", fn := fun _ => fun
  | [d1, d2, d3, d4] => { results := [.lit (.bool false)], args := [d1, d2, d3, d4] }
  | _ => none }
def NameOrderWrongFalsely : Prop := nameOrderRow.holds Try.pinned (OpenSpec.ofChange nameOrderWrong)

/-- 'vulgatelaw04.NameSorts': WHATEVER THE INPUT: true; the input reads as it did. -/
def nameSortsSpec : ChangeSpec := { name := "nameSorts", fn := fun _ => fun
  | [d] => { results := [.lit (.bool true)], args := [d] }
  | _ => none }
def nameSortsRow : OpenClaim := { program := "ytgfpdfafkimkcaa", sum := "ec1ea45ff9cafa5f442651b0c050456f80444213a03231e7394392ea257483f0", func := "vulgate/vulgatelaw04.NameSorts", spec := "nameSorts", inPlace := ["internal/bytealg.IndexByte", "internal/bytealg.Index", "internal/bytealg.Compare"], unfollowed := true, recurses := true, named := ["internal/bytealg.MaxLen"], plainKeys := false, apart := false }
def NameSortsSaid : Prop := nameSortsRow.holds Try.pinned (OpenSpec.ofChange nameSortsSpec)

/-- ITS FALSE NEIGHBOUR: 'it returns false'. Refute it at one input. -/
def nameSortsWrong : ChangeSpec := { name := "nameSorts", fn := fun _ => fun
  | [d] => { results := [.lit (.bool false)], args := [d] }
  | _ => none }
def NameSortsWrongFalsely : Prop := nameSortsRow.holds Try.pinned (OpenSpec.ofChange nameSortsWrong)

/-- 'vulgatelaw04.NameSets': WHATEVER THE INPUT: true; the input reads as it did. -/
def nameSetsSpec : ChangeSpec := { name := "nameSets", fn := fun _ => fun
  | [d] => { results := [.lit (.bool true)], args := [d] }
  | _ => none }
def nameSetsRow : OpenClaim := { program := "ytgfpdfafkimkcaa", sum := "ec1ea45ff9cafa5f442651b0c050456f80444213a03231e7394392ea257483f0", func := "vulgate/vulgatelaw04.NameSets", spec := "nameSets", inPlace := ["internal/bytealg.IndexByte", "internal/bytealg.Index", "internal/bytealg.Compare"], unfollowed := true, recurses := true, named := ["internal/bytealg.MaxLen"], plainKeys := false, apart := false }
def NameSetsSaid : Prop := nameSetsRow.holds Try.pinned (OpenSpec.ofChange nameSetsSpec)

/-- ITS FALSE NEIGHBOUR: 'it returns false'. Refute it at one input. -/
def nameSetsWrong : ChangeSpec := { name := "nameSets", fn := fun _ => fun
  | [d] => { results := [.lit (.bool false)], args := [d] }
  | _ => none }
def NameSetsWrongFalsely : Prop := nameSetsRow.holds Try.pinned (OpenSpec.ofChange nameSetsWrong)

/-- 'vulgatelaw04.NameFull': WHATEVER THE INPUT: true; the input reads as it did. -/
def nameFullSpec : ChangeSpec := { name := "nameFull", fn := fun _ => fun
  | [d1, d2] => { results := [.lit (.bool true)], args := [d1, d2] }
  | _ => none }
def nameFullRow : OpenClaim := { program := "ytgfpdfafkimkcaa", sum := "ec1ea45ff9cafa5f442651b0c050456f80444213a03231e7394392ea257483f0", func := "vulgate/vulgatelaw04.NameFull", spec := "nameFull", inPlace := ["internal/bytealg.IndexByte", "internal/bytealg.Index", "internal/bytealg.Compare"], named := ["internal/bytealg.MaxLen"], plainKeys := false, apart := false }
def NameFullSaid : Prop := nameFullRow.holds Try.pinned (OpenSpec.ofChange nameFullSpec)

/-- ITS FALSE NEIGHBOUR: 'it returns false'. Refute it at one input. -/
def nameFullWrong : ChangeSpec := { name := "nameFull", fn := fun _ => fun
  | [d1, d2] => { results := [.lit (.bool false)], args := [d1, d2] }
  | _ => none }
def NameFullWrongFalsely : Prop := nameFullRow.holds Try.pinned (OpenSpec.ofChange nameFullWrong)

/-- 'vulgatelaw04.NameNil': WHATEVER THE INPUT: true; the input reads as it did. -/
def nameNilSpec : ChangeSpec := { name := "nameNil", fn := fun _ => fun
  | [d] => { results := [.lit (.bool true)], args := [d] }
  | _ => none }
def nameNilRow : OpenClaim := { program := "ytgfpdfafkimkcaa", sum := "ec1ea45ff9cafa5f442651b0c050456f80444213a03231e7394392ea257483f0", func := "vulgate/vulgatelaw04.NameNil", spec := "nameNil", inPlace := ["internal/bytealg.IndexByte", "internal/bytealg.Index", "internal/bytealg.Compare"], unfollowed := true, recurses := true, named := ["internal/bytealg.MaxLen"], plainKeys := false, apart := false }
def NameNilSaid : Prop := nameNilRow.holds Try.pinned (OpenSpec.ofChange nameNilSpec)

/-- ITS FALSE NEIGHBOUR: 'it returns false'. Refute it at one input. -/
def nameNilWrong : ChangeSpec := { name := "nameNil", fn := fun _ => fun
  | [d] => { results := [.lit (.bool false)], args := [d] }
  | _ => none }
def NameNilWrongFalsely : Prop := nameNilRow.holds Try.pinned (OpenSpec.ofChange nameNilWrong)

/- THE SECOND FORM. 'bulk': how many values and letters a reading holds, each counted each time it is reached (what is shared counts as often as it is met; a slice's spare places count too). A statement '..UptoSaid' is the law's where the arguments, and the package variables that the reading takes, are together of bulk at most 1048576: NARROWER than '..Said'. Prove '..Said' where nothing that the law and all that it calls make is longer than what came in: it says more and counts as full. Else prove '..UptoSaid'. A law counts once. -/
mutual
def uptoBulk {H : Type} : DataW H → Nat
  | .lit (.string bytes) => bytes.length + 1
  | .lit _ => 1
  | .nil => 1
  | .ptr d => uptoBulk d + 1
  | .slice elems spare => uptoBulkAll elems + uptoBulkAll spare + 1
  | .agg parts => uptoBulkAll parts + 1
  | .iface _ d => uptoBulk d + 1
  | .map entries => uptoBulkEntries entries + 1
  | .held _ => 1
def uptoBulkAll {H : Type} : List (DataW H) → Nat
  | [] => 0
  | d :: r => uptoBulk d + uptoBulkAll r
def uptoBulkEntries {H : Type} : List (Lit × DataW H) → Nat
  | [] => 0
  | x :: r => uptoBulkEntry x + uptoBulkEntries r
def uptoBulkEntry {H : Type} : Lit × DataW H → Nat
  | (.string bytes, d) => bytes.length + uptoBulk d + 1
  | (_, d) => uptoBulk d + 1
 end
def uptoSmall : (H : Type) → List (DataW H) → Bool := fun _ ds => decide (uptoBulkAll ds ≤ 1048576)
def OpenSpec.upto (s : _root_.Go.ChangeSpec) : _root_.Go.OpenSpec := { _root_.Go.OpenSpec.ofChange s with cond := some uptoSmall }

/-- 'vulgatelaw04.NameTexts', WHERE WHAT IT READS IS OF BULK AT MOST 1048576: true; the input reads as it did. -/
def nameTextsUptoRow : OpenClaim := { program := "ytgfpdfafkimkcaa", sum := "ec1ea45ff9cafa5f442651b0c050456f80444213a03231e7394392ea257483f0", func := "vulgate/vulgatelaw04.NameTexts", spec := "nameTexts", inPlace := ["internal/bytealg.IndexByte", "internal/bytealg.Index", "internal/bytealg.Compare"], named := ["internal/bytealg.MaxLen"], plainKeys := false, apart := false, narrowed := true }
def NameTextsUptoSaid : Prop := nameTextsUptoRow.holds Try.pinned (OpenSpec.upto nameTextsSpec)

/-- 'vulgatelaw04.NameOrder', WHERE WHAT IT READS IS OF BULK AT MOST 1048576: true; the input reads as it did. -/
def nameOrderUptoRow : OpenClaim := { program := "ytgfpdfafkimkcaa", sum := "ec1ea45ff9cafa5f442651b0c050456f80444213a03231e7394392ea257483f0", func := "vulgate/vulgatelaw04.NameOrder", spec := "nameOrder", inPlace := ["internal/bytealg.Compare", "internal/bytealg.IndexByte", "internal/bytealg.Index"], named := ["internal/bytealg.MaxLen"], plainKeys := false, apart := false, narrowed := true }
def NameOrderUptoSaid : Prop := nameOrderUptoRow.holds Try.pinned (OpenSpec.upto nameOrderSpec)

/-- 'vulgatelaw04.NameSorts', WHERE WHAT IT READS IS OF BULK AT MOST 1048576: true; the input reads as it did. -/
def nameSortsUptoRow : OpenClaim := { program := "ytgfpdfafkimkcaa", sum := "ec1ea45ff9cafa5f442651b0c050456f80444213a03231e7394392ea257483f0", func := "vulgate/vulgatelaw04.NameSorts", spec := "nameSorts", inPlace := ["internal/bytealg.IndexByte", "internal/bytealg.Index", "internal/bytealg.Compare"], unfollowed := true, recurses := true, named := ["internal/bytealg.MaxLen"], plainKeys := false, apart := false, narrowed := true }
def NameSortsUptoSaid : Prop := nameSortsUptoRow.holds Try.pinned (OpenSpec.upto nameSortsSpec)

/-- 'vulgatelaw04.NameSets', WHERE WHAT IT READS IS OF BULK AT MOST 1048576: true; the input reads as it did. -/
def nameSetsUptoRow : OpenClaim := { program := "ytgfpdfafkimkcaa", sum := "ec1ea45ff9cafa5f442651b0c050456f80444213a03231e7394392ea257483f0", func := "vulgate/vulgatelaw04.NameSets", spec := "nameSets", inPlace := ["internal/bytealg.IndexByte", "internal/bytealg.Index", "internal/bytealg.Compare"], unfollowed := true, recurses := true, named := ["internal/bytealg.MaxLen"], plainKeys := false, apart := false, narrowed := true }
def NameSetsUptoSaid : Prop := nameSetsUptoRow.holds Try.pinned (OpenSpec.upto nameSetsSpec)

/-- 'vulgatelaw04.NameFull', WHERE WHAT IT READS IS OF BULK AT MOST 1048576: true; the input reads as it did. -/
def nameFullUptoRow : OpenClaim := { program := "ytgfpdfafkimkcaa", sum := "ec1ea45ff9cafa5f442651b0c050456f80444213a03231e7394392ea257483f0", func := "vulgate/vulgatelaw04.NameFull", spec := "nameFull", inPlace := ["internal/bytealg.IndexByte", "internal/bytealg.Index", "internal/bytealg.Compare"], named := ["internal/bytealg.MaxLen"], plainKeys := false, apart := false, narrowed := true }
def NameFullUptoSaid : Prop := nameFullUptoRow.holds Try.pinned (OpenSpec.upto nameFullSpec)

/-- 'vulgatelaw04.NameNil', WHERE WHAT IT READS IS OF BULK AT MOST 1048576: true; the input reads as it did. -/
def nameNilUptoRow : OpenClaim := { program := "ytgfpdfafkimkcaa", sum := "ec1ea45ff9cafa5f442651b0c050456f80444213a03231e7394392ea257483f0", func := "vulgate/vulgatelaw04.NameNil", spec := "nameNil", inPlace := ["internal/bytealg.IndexByte", "internal/bytealg.Index", "internal/bytealg.Compare"], unfollowed := true, recurses := true, named := ["internal/bytealg.MaxLen"], plainKeys := false, apart := false, narrowed := true }
def NameNilUptoSaid : Prop := nameNilUptoRow.holds Try.pinned (OpenSpec.upto nameNilSpec)

end Rows
end Go.Proofs.Ytgfpdfafkimkcaa
