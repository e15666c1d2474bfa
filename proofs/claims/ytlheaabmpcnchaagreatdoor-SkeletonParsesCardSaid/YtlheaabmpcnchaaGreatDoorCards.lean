/-
  DERIVED. GIVEN WITH THE SEED: THE CARDS: each row of YtlheaabmpcnchaaGreatDoorRows.lean that lists a variable, with what it lists TIED to the program's text (the seventh form; the later family's looks); each row that meets fmt, with fmt's text TOLD by the authors' own Lean function (tested against real Go, not proved from fmt's source: count such statements apart). THE CARD IS WHAT COUNTS. Prove the row's statement (the work); the ties are given (YtlheaabmpcnchaaGreatDoorTie.lean); close each card by the builder's one call (the guide's Derived/Test/ToyasCard.lean, 'card_holds'). Laid BY PROGRAM, IN A SANDBOX (cutbox-door.mjs). By AI agents, Wed Nov 11 2026. No macro, syntax, notation, axiom, sorry.
-/
import Derived.Test.YtlheaabmpcnchaaGreatDoorRows
import GoSem.ClaimSeven
namespace Go.Proofs.YtlheaabmpcnchaaGreatDoor
namespace Rows

/-- THE TIED CARD OF 'vulgatelaw08.SkeletonParses'. -/
def skeletonParsesCard : Claim7 := { stood := { row := skeletonParsesRow, standIns := [], harness := (true, "0e79b68cf6b0eac46615dc5d8c9409c845a2454528a4e25d165ed54fdaeb5d4c"), looks := false }, kinds := [], alts := [], laidByText := true, laidKinds := [.data, .data, .data, .data, .data, .data, .pinned, .pinned], laidTests := true, laidLooks := .later }
def SkeletonParsesCardSaid : Prop := Claim7.holds Tryz.pinned (.plain (OpenSpec.ofChange skeletonParsesSpec)) skeletonParsesCard

/-- THE TIED CARD OF 'vulgatelaw08.SkeletonCanon'. -/
def skeletonCanonCard : Claim7 := { stood := { row := skeletonCanonRow, standIns := [], harness := (true, "0e79b68cf6b0eac46615dc5d8c9409c845a2454528a4e25d165ed54fdaeb5d4c"), looks := false }, kinds := [], alts := [], laidByText := true, laidKinds := [.data, .data, .data, .data, .data, .data, .pinned, .pinned], laidTests := true, laidLooks := .later }
def SkeletonCanonCardSaid : Prop := Claim7.holds Tryz.pinned (.plain (OpenSpec.ofChange skeletonCanonSpec)) skeletonCanonCard

/-- THE TIED CARD OF 'vulgatelaw08.SkeletonUses'. -/
def skeletonUsesCard : Claim7 := { stood := { row := skeletonUsesRow, standIns := [], harness := (true, "0e79b68cf6b0eac46615dc5d8c9409c845a2454528a4e25d165ed54fdaeb5d4c"), looks := false }, kinds := [], alts := [], laidByText := true, laidKinds := [.data, .data, .data, .data, .data, .data, .pinned, .pinned], laidTests := true, laidLooks := .later }
def SkeletonUsesCardSaid : Prop := Claim7.holds Tryz.pinned (.plain (OpenSpec.ofChange skeletonUsesSpec)) skeletonUsesCard

/-- THE TIED CARD OF 'vulgatelaw08.SkeletonRenders'. -/
def skeletonRendersCard : Claim7 := { stood := { row := skeletonRendersRow, standIns := [], harness := (true, "0e79b68cf6b0eac46615dc5d8c9409c845a2454528a4e25d165ed54fdaeb5d4c"), looks := false }, kinds := [], alts := [], laidByText := true, laidKinds := [.data, .data, .data, .data, .data, .data, .pinned, .pinned], laidTests := true, laidLooks := .later }
def SkeletonRendersCardSaid : Prop := Claim7.holds Tryz.pinned (.plain (OpenSpec.ofChange skeletonRendersSpec)) skeletonRendersCard

/-- THE TIED CARD OF 'vulgatelaw08.SkeletonSame'. -/
def skeletonSameCard : Claim7 := { stood := { row := skeletonSameRow, standIns := [], harness := (true, "0e79b68cf6b0eac46615dc5d8c9409c845a2454528a4e25d165ed54fdaeb5d4c"), looks := false }, kinds := [], alts := [], laidByText := true, laidKinds := [.data, .data, .data, .data, .data, .data, .pinned, .pinned], laidTests := true, laidLooks := .later }
def SkeletonSameCardSaid : Prop := Claim7.holds Tryz.pinned (.plain (OpenSpec.ofChange skeletonSameSpec)) skeletonSameCard

/-- THE SECOND FORM's CARD OF 'vulgatelaw08.SkeletonParses'. -/
def skeletonParsesUptoCard : Claim7 := { stood := { row := skeletonParsesUptoRow, standIns := [], harness := (true, "0e79b68cf6b0eac46615dc5d8c9409c845a2454528a4e25d165ed54fdaeb5d4c"), looks := false }, kinds := [], alts := [], laidByText := true, laidKinds := [.data, .data, .data, .data, .data, .data, .pinned, .pinned], laidTests := true, laidLooks := .later }
def SkeletonParsesUptoCardSaid : Prop := Claim7.holds Tryz.pinned (.plain (OpenSpec.upto skeletonParsesSpec)) skeletonParsesUptoCard

/-- THE SECOND FORM's CARD OF 'vulgatelaw08.SkeletonCanon'. -/
def skeletonCanonUptoCard : Claim7 := { stood := { row := skeletonCanonUptoRow, standIns := [], harness := (true, "0e79b68cf6b0eac46615dc5d8c9409c845a2454528a4e25d165ed54fdaeb5d4c"), looks := false }, kinds := [], alts := [], laidByText := true, laidKinds := [.data, .data, .data, .data, .data, .data, .pinned, .pinned], laidTests := true, laidLooks := .later }
def SkeletonCanonUptoCardSaid : Prop := Claim7.holds Tryz.pinned (.plain (OpenSpec.upto skeletonCanonSpec)) skeletonCanonUptoCard

/-- THE SECOND FORM's CARD OF 'vulgatelaw08.SkeletonUses'. -/
def skeletonUsesUptoCard : Claim7 := { stood := { row := skeletonUsesUptoRow, standIns := [], harness := (true, "0e79b68cf6b0eac46615dc5d8c9409c845a2454528a4e25d165ed54fdaeb5d4c"), looks := false }, kinds := [], alts := [], laidByText := true, laidKinds := [.data, .data, .data, .data, .data, .data, .pinned, .pinned], laidTests := true, laidLooks := .later }
def SkeletonUsesUptoCardSaid : Prop := Claim7.holds Tryz.pinned (.plain (OpenSpec.upto skeletonUsesSpec)) skeletonUsesUptoCard

/-- THE SECOND FORM's CARD OF 'vulgatelaw08.SkeletonRenders'. -/
def skeletonRendersUptoCard : Claim7 := { stood := { row := skeletonRendersUptoRow, standIns := [], harness := (true, "0e79b68cf6b0eac46615dc5d8c9409c845a2454528a4e25d165ed54fdaeb5d4c"), looks := false }, kinds := [], alts := [], laidByText := true, laidKinds := [.data, .data, .data, .data, .data, .data, .pinned, .pinned], laidTests := true, laidLooks := .later }
def SkeletonRendersUptoCardSaid : Prop := Claim7.holds Tryz.pinned (.plain (OpenSpec.upto skeletonRendersSpec)) skeletonRendersUptoCard

/-- THE SECOND FORM's CARD OF 'vulgatelaw08.SkeletonSame'. -/
def skeletonSameUptoCard : Claim7 := { stood := { row := skeletonSameUptoRow, standIns := [], harness := (true, "0e79b68cf6b0eac46615dc5d8c9409c845a2454528a4e25d165ed54fdaeb5d4c"), looks := false }, kinds := [], alts := [], laidByText := true, laidKinds := [.data, .data, .data, .data, .data, .data, .pinned, .pinned], laidTests := true, laidLooks := .later }
def SkeletonSameUptoCardSaid : Prop := Claim7.holds Tryz.pinned (.plain (OpenSpec.upto skeletonSameSpec)) skeletonSameUptoCard
end Rows
end Go.Proofs.YtlheaabmpcnchaaGreatDoor
