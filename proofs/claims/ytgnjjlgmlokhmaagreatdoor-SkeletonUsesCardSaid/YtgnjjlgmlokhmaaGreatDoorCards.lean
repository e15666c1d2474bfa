/-
  DERIVED. GIVEN WITH THE SEED: THE CARDS: each row of YtgnjjlgmlokhmaaGreatDoorRows.lean that lists a variable, with what it lists TIED to the program's text (the seventh form; the later family's looks); each row that meets fmt, with fmt's text TOLD by the authors' own Lean function (tested against real Go, not proved from fmt's source: count such statements apart). THE CARD IS WHAT COUNTS. Prove the row's statement (the work); the ties are given (YtgnjjlgmlokhmaaGreatDoorTie.lean); close each card by the builder's one call (the guide's Derived/Test/ToyasCard.lean, 'card_holds'). Laid BY PROGRAM, IN A SANDBOX (cutbox-door.mjs). By AI agents, Wed Nov 11 2026. No macro, syntax, notation, axiom, sorry.
-/
import Derived.Test.YtgnjjlgmlokhmaaGreatDoorRows
import GoSem.ClaimSeven
namespace Go.Proofs.YtgnjjlgmlokhmaaGreatDoor
namespace Rows

/-- THE TIED CARD OF 'vulgatelaw08.SkeletonUses'. -/
def skeletonUsesCard : Claim7 := { stood := { row := skeletonUsesRow, standIns := [], harness := (true, "7e433555797e3fe0108ad944b69e84987fd9676293c9f9dc970986e44d3d0c19"), looks := false }, kinds := [], alts := [], laidByText := true, laidKinds := [.data, .data, .data, .data, .data, .data, .pinned, .pinned], laidTests := true, laidLooks := .later }
def SkeletonUsesCardSaid : Prop := Claim7.holds Tryz.pinned (.plain (OpenSpec.ofChange skeletonUsesSpec)) skeletonUsesCard

/-- THE SECOND FORM's CARD OF 'vulgatelaw08.SkeletonUses'. -/
def skeletonUsesUptoCard : Claim7 := { stood := { row := skeletonUsesUptoRow, standIns := [], harness := (true, "7e433555797e3fe0108ad944b69e84987fd9676293c9f9dc970986e44d3d0c19"), looks := false }, kinds := [], alts := [], laidByText := true, laidKinds := [.data, .data, .data, .data, .data, .data, .pinned, .pinned], laidTests := true, laidLooks := .later }
def SkeletonUsesUptoCardSaid : Prop := Claim7.holds Tryz.pinned (.plain (OpenSpec.upto skeletonUsesSpec)) skeletonUsesUptoCard
end Rows
end Go.Proofs.YtgnjjlgmlokhmaaGreatDoor
