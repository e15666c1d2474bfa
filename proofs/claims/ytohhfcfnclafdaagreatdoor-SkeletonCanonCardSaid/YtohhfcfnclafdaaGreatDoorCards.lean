/-
  DERIVED. GIVEN WITH THE SEED: THE CARDS: each row of YtohhfcfnclafdaaGreatDoorRows.lean that lists a variable, with what it lists TIED to the program's text (the seventh form; the later family's looks); each row that meets fmt, with fmt's text TOLD by the authors' own Lean function (tested against real Go, not proved from fmt's source: count such statements apart). THE CARD IS WHAT COUNTS. Prove the row's statement (the work); the ties are given (YtohhfcfnclafdaaGreatDoorTie.lean); close each card by the builder's one call (the guide's Derived/Test/ToyasCard.lean, 'card_holds'). Laid BY PROGRAM, IN A SANDBOX (cutbox-door.mjs). By AI agents, Wed Nov 11 2026. No macro, syntax, notation, axiom, sorry.
-/
import Derived.Test.YtohhfcfnclafdaaGreatDoorRows
import GoSem.ClaimSeven
namespace Go.Proofs.YtohhfcfnclafdaaGreatDoor
namespace Rows

/-- THE TIED CARD OF 'vulgatelaw08.SkeletonCanon'. -/
def skeletonCanonCard : Claim7 := { stood := { row := skeletonCanonRow, standIns := [], harness := (true, "1fa9709a14a30b35ea149a06c035a01821fa1514ebae213488dc3d146d18b7d9"), looks := false }, kinds := [], alts := [], laidByText := true, laidKinds := [.data, .data, .data, .data, .data, .data, .pinned, .pinned], laidTests := true, laidLooks := .later }
def SkeletonCanonCardSaid : Prop := Claim7.holds Tryz.pinned (.plain (OpenSpec.ofChange skeletonCanonSpec)) skeletonCanonCard

/-- THE TIED CARD OF 'vulgatelaw08.SkeletonUses'. -/
def skeletonUsesCard : Claim7 := { stood := { row := skeletonUsesRow, standIns := [], harness := (true, "1fa9709a14a30b35ea149a06c035a01821fa1514ebae213488dc3d146d18b7d9"), looks := false }, kinds := [], alts := [], laidByText := true, laidKinds := [.data, .data, .data, .data, .data, .data, .pinned, .pinned], laidTests := true, laidLooks := .later }
def SkeletonUsesCardSaid : Prop := Claim7.holds Tryz.pinned (.plain (OpenSpec.ofChange skeletonUsesSpec)) skeletonUsesCard

/-- THE TIED CARD OF 'vulgatelaw08.SkeletonRenders'. -/
def skeletonRendersCard : Claim7 := { stood := { row := skeletonRendersRow, standIns := [], harness := (true, "1fa9709a14a30b35ea149a06c035a01821fa1514ebae213488dc3d146d18b7d9"), looks := false }, kinds := [], alts := [], laidByText := true, laidKinds := [.data, .data, .data, .data, .data, .data, .pinned, .pinned], laidTests := true, laidLooks := .later }
def SkeletonRendersCardSaid : Prop := Claim7.holds Tryz.pinned (.plain (OpenSpec.ofChange skeletonRendersSpec)) skeletonRendersCard

/-- THE TIED CARD OF 'vulgatelaw08.SkeletonSame'. -/
def skeletonSameCard : Claim7 := { stood := { row := skeletonSameRow, standIns := [], harness := (true, "1fa9709a14a30b35ea149a06c035a01821fa1514ebae213488dc3d146d18b7d9"), looks := false }, kinds := [], alts := [], laidByText := true, laidKinds := [.data, .data, .data, .data, .data, .data, .pinned, .pinned], laidTests := true, laidLooks := .later }
def SkeletonSameCardSaid : Prop := Claim7.holds Tryz.pinned (.plain (OpenSpec.ofChange skeletonSameSpec)) skeletonSameCard

/-- THE TIED CARD OF 'vulgatelaw09.FitFlaws'. -/
def fitFlawsCard : Claim7 := { stood := { row := fitFlawsRow, standIns := [], harness := (true, "1fa9709a14a30b35ea149a06c035a01821fa1514ebae213488dc3d146d18b7d9"), looks := false }, kinds := [], alts := [], laidByText := true, laidKinds := [.data, .data, .data, .pinned, .pinned], laidTests := true, laidLooks := .later }
def FitFlawsCardSaid : Prop := Claim7.holds Tryz.pinned (.plain (OpenSpec.ofChange fitFlawsSpec)) fitFlawsCard

/-- THE TIED CARD OF 'vulgatelaw09.FitSources'. -/
def fitSourcesCard : Claim7 := { stood := { row := fitSourcesRow, standIns := [], harness := (true, "1fa9709a14a30b35ea149a06c035a01821fa1514ebae213488dc3d146d18b7d9"), looks := false }, kinds := [], alts := [], laidByText := true, laidKinds := [.data, .data, .data, .pinned, .pinned], laidTests := true, laidLooks := .later }
def FitSourcesCardSaid : Prop := Claim7.holds Tryz.pinned (.plain (OpenSpec.ofChange fitSourcesSpec)) fitSourcesCard

/-- THE TIED CARD OF 'vulgatelaw09.FitSelf'. -/
def fitSelfCard : Claim7 := { stood := { row := fitSelfRow, standIns := [], harness := (true, "1fa9709a14a30b35ea149a06c035a01821fa1514ebae213488dc3d146d18b7d9"), looks := false }, kinds := [], alts := [], laidByText := true, laidKinds := [.data, .data, .data, .pinned, .pinned], laidTests := true, laidLooks := .later }
def FitSelfCardSaid : Prop := Claim7.holds Tryz.pinned (.plain (OpenSpec.ofChange fitSelfSpec)) fitSelfCard

/-- THE TIED CARD OF 'vulgatelaw09.FitNames'. -/
def fitNamesCard : Claim7 := { stood := { row := fitNamesRow, standIns := [], harness := (true, "1fa9709a14a30b35ea149a06c035a01821fa1514ebae213488dc3d146d18b7d9"), looks := false }, kinds := [], alts := [], laidByText := true, laidKinds := [.data, .data, .data, .pinned, .pinned], laidTests := true, laidLooks := .later }
def FitNamesCardSaid : Prop := Claim7.holds Tryz.pinned (.plain (OpenSpec.ofChange fitNamesSpec)) fitNamesCard

/-- THE TIED CARD OF 'vulgatelaw09.FitMore'. -/
def fitMoreCard : Claim7 := { stood := { row := fitMoreRow, standIns := [], harness := (true, "1fa9709a14a30b35ea149a06c035a01821fa1514ebae213488dc3d146d18b7d9"), looks := false }, kinds := [], alts := [], laidByText := true, laidKinds := [.data, .data, .data, .pinned, .pinned], laidTests := true, laidLooks := .later }
def FitMoreCardSaid : Prop := Claim7.holds Tryz.pinned (.plain (OpenSpec.ofChange fitMoreSpec)) fitMoreCard

/-- THE TIED CARD OF 'vulgatelaw09.FitTables'. -/
def fitTablesCard : Claim7 := { stood := { row := fitTablesRow, standIns := [], harness := (true, "1fa9709a14a30b35ea149a06c035a01821fa1514ebae213488dc3d146d18b7d9"), looks := false }, kinds := [], alts := [], laidByText := true, laidKinds := [.data, .data, .data, .pinned, .pinned], laidTests := true, laidLooks := .later }
def FitTablesCardSaid : Prop := Claim7.holds Tryz.pinned (.plain (OpenSpec.ofChange fitTablesSpec)) fitTablesCard

/-- THE SECOND FORM's CARD OF 'vulgatelaw08.SkeletonCanon'. -/
def skeletonCanonUptoCard : Claim7 := { stood := { row := skeletonCanonUptoRow, standIns := [], harness := (true, "1fa9709a14a30b35ea149a06c035a01821fa1514ebae213488dc3d146d18b7d9"), looks := false }, kinds := [], alts := [], laidByText := true, laidKinds := [.data, .data, .data, .data, .data, .data, .pinned, .pinned], laidTests := true, laidLooks := .later }
def SkeletonCanonUptoCardSaid : Prop := Claim7.holds Tryz.pinned (.plain (OpenSpec.upto skeletonCanonSpec)) skeletonCanonUptoCard

/-- THE SECOND FORM's CARD OF 'vulgatelaw08.SkeletonUses'. -/
def skeletonUsesUptoCard : Claim7 := { stood := { row := skeletonUsesUptoRow, standIns := [], harness := (true, "1fa9709a14a30b35ea149a06c035a01821fa1514ebae213488dc3d146d18b7d9"), looks := false }, kinds := [], alts := [], laidByText := true, laidKinds := [.data, .data, .data, .data, .data, .data, .pinned, .pinned], laidTests := true, laidLooks := .later }
def SkeletonUsesUptoCardSaid : Prop := Claim7.holds Tryz.pinned (.plain (OpenSpec.upto skeletonUsesSpec)) skeletonUsesUptoCard

/-- THE SECOND FORM's CARD OF 'vulgatelaw08.SkeletonRenders'. -/
def skeletonRendersUptoCard : Claim7 := { stood := { row := skeletonRendersUptoRow, standIns := [], harness := (true, "1fa9709a14a30b35ea149a06c035a01821fa1514ebae213488dc3d146d18b7d9"), looks := false }, kinds := [], alts := [], laidByText := true, laidKinds := [.data, .data, .data, .data, .data, .data, .pinned, .pinned], laidTests := true, laidLooks := .later }
def SkeletonRendersUptoCardSaid : Prop := Claim7.holds Tryz.pinned (.plain (OpenSpec.upto skeletonRendersSpec)) skeletonRendersUptoCard

/-- THE SECOND FORM's CARD OF 'vulgatelaw08.SkeletonSame'. -/
def skeletonSameUptoCard : Claim7 := { stood := { row := skeletonSameUptoRow, standIns := [], harness := (true, "1fa9709a14a30b35ea149a06c035a01821fa1514ebae213488dc3d146d18b7d9"), looks := false }, kinds := [], alts := [], laidByText := true, laidKinds := [.data, .data, .data, .data, .data, .data, .pinned, .pinned], laidTests := true, laidLooks := .later }
def SkeletonSameUptoCardSaid : Prop := Claim7.holds Tryz.pinned (.plain (OpenSpec.upto skeletonSameSpec)) skeletonSameUptoCard

/-- THE SECOND FORM's CARD OF 'vulgatelaw09.FitFlaws'. -/
def fitFlawsUptoCard : Claim7 := { stood := { row := fitFlawsUptoRow, standIns := [], harness := (true, "1fa9709a14a30b35ea149a06c035a01821fa1514ebae213488dc3d146d18b7d9"), looks := false }, kinds := [], alts := [], laidByText := true, laidKinds := [.data, .data, .data, .pinned, .pinned], laidTests := true, laidLooks := .later }
def FitFlawsUptoCardSaid : Prop := Claim7.holds Tryz.pinned (.plain (OpenSpec.upto fitFlawsSpec)) fitFlawsUptoCard

/-- THE SECOND FORM's CARD OF 'vulgatelaw09.FitSources'. -/
def fitSourcesUptoCard : Claim7 := { stood := { row := fitSourcesUptoRow, standIns := [], harness := (true, "1fa9709a14a30b35ea149a06c035a01821fa1514ebae213488dc3d146d18b7d9"), looks := false }, kinds := [], alts := [], laidByText := true, laidKinds := [.data, .data, .data, .pinned, .pinned], laidTests := true, laidLooks := .later }
def FitSourcesUptoCardSaid : Prop := Claim7.holds Tryz.pinned (.plain (OpenSpec.upto fitSourcesSpec)) fitSourcesUptoCard

/-- THE SECOND FORM's CARD OF 'vulgatelaw09.FitSelf'. -/
def fitSelfUptoCard : Claim7 := { stood := { row := fitSelfUptoRow, standIns := [], harness := (true, "1fa9709a14a30b35ea149a06c035a01821fa1514ebae213488dc3d146d18b7d9"), looks := false }, kinds := [], alts := [], laidByText := true, laidKinds := [.data, .data, .data, .pinned, .pinned], laidTests := true, laidLooks := .later }
def FitSelfUptoCardSaid : Prop := Claim7.holds Tryz.pinned (.plain (OpenSpec.upto fitSelfSpec)) fitSelfUptoCard

/-- THE SECOND FORM's CARD OF 'vulgatelaw09.FitNames'. -/
def fitNamesUptoCard : Claim7 := { stood := { row := fitNamesUptoRow, standIns := [], harness := (true, "1fa9709a14a30b35ea149a06c035a01821fa1514ebae213488dc3d146d18b7d9"), looks := false }, kinds := [], alts := [], laidByText := true, laidKinds := [.data, .data, .data, .pinned, .pinned], laidTests := true, laidLooks := .later }
def FitNamesUptoCardSaid : Prop := Claim7.holds Tryz.pinned (.plain (OpenSpec.upto fitNamesSpec)) fitNamesUptoCard

/-- THE SECOND FORM's CARD OF 'vulgatelaw09.FitMore'. -/
def fitMoreUptoCard : Claim7 := { stood := { row := fitMoreUptoRow, standIns := [], harness := (true, "1fa9709a14a30b35ea149a06c035a01821fa1514ebae213488dc3d146d18b7d9"), looks := false }, kinds := [], alts := [], laidByText := true, laidKinds := [.data, .data, .data, .pinned, .pinned], laidTests := true, laidLooks := .later }
def FitMoreUptoCardSaid : Prop := Claim7.holds Tryz.pinned (.plain (OpenSpec.upto fitMoreSpec)) fitMoreUptoCard

/-- THE SECOND FORM's CARD OF 'vulgatelaw09.FitTables'. -/
def fitTablesUptoCard : Claim7 := { stood := { row := fitTablesUptoRow, standIns := [], harness := (true, "1fa9709a14a30b35ea149a06c035a01821fa1514ebae213488dc3d146d18b7d9"), looks := false }, kinds := [], alts := [], laidByText := true, laidKinds := [.data, .data, .data, .pinned, .pinned], laidTests := true, laidLooks := .later }
def FitTablesUptoCardSaid : Prop := Claim7.holds Tryz.pinned (.plain (OpenSpec.upto fitTablesSpec)) fitTablesUptoCard
end Rows
end Go.Proofs.YtohhfcfnclafdaaGreatDoor
