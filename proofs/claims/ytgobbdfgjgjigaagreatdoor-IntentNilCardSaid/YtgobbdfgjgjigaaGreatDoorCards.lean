/-
  DERIVED. GIVEN WITH THE SEED: THE CARDS: each row of YtgobbdfgjgjigaaGreatDoorRows.lean that lists a variable, with what it lists TIED to the program's text (the seventh form; the later family's looks); each row that meets fmt, with fmt's text TOLD by the authors' own Lean function (tested against real Go, not proved from fmt's source: count such statements apart). THE CARD IS WHAT COUNTS. Prove the row's statement (the work); the ties are given (YtgobbdfgjgjigaaGreatDoorTie.lean); close each card by the builder's one call (the guide's Derived/Test/ToyasCard.lean, 'card_holds'). Laid BY PROGRAM, IN A SANDBOX (cutbox-door.mjs). By AI agents, Wed Nov 11 2026. No macro, syntax, notation, axiom, sorry.
-/
import Derived.Test.YtgobbdfgjgjigaaGreatDoorRows
import GoSem.ClaimSeven
namespace Go.Proofs.YtgobbdfgjgjigaaGreatDoor
namespace Rows

/-- THE TIED CARD OF 'vulgatelaw16.IntentPlays'. -/
def intentPlaysCard : Claim7 := { stood := { row := intentPlaysRow, standIns := [], harness := (true, "3d20b9ea0acd2103c72492f990220a0b4300f990a2ed479cb6414c217e0a98dd"), looks := false }, kinds := [], alts := [], laidByText := true, laidKinds := [.data, .pinned, .pinned], laidTests := true, laidLooks := .later }
def IntentPlaysCardSaid : Prop := Claim7.holds Tryz.pinned (.plain (OpenSpec.ofChange intentPlaysSpec)) intentPlaysCard

/-- THE TIED CARD OF 'vulgatelaw16.IntentNil'. -/
def intentNilCard : Claim7 := { stood := { row := intentNilRow, standIns := [], harness := (true, "3d20b9ea0acd2103c72492f990220a0b4300f990a2ed479cb6414c217e0a98dd"), looks := false }, kinds := [], alts := [], laidByText := true, laidKinds := [.data, .pinned, .pinned], laidTests := true, laidLooks := .later }
def IntentNilCardSaid : Prop := Claim7.holds Tryz.pinned (.plain (OpenSpec.ofChange intentNilSpec)) intentNilCard

/-- THE SECOND FORM's CARD OF 'vulgatelaw16.IntentPlays'. -/
def intentPlaysUptoCard : Claim7 := { stood := { row := intentPlaysUptoRow, standIns := [], harness := (true, "3d20b9ea0acd2103c72492f990220a0b4300f990a2ed479cb6414c217e0a98dd"), looks := false }, kinds := [], alts := [], laidByText := true, laidKinds := [.data, .pinned, .pinned], laidTests := true, laidLooks := .later }
def IntentPlaysUptoCardSaid : Prop := Claim7.holds Tryz.pinned (.plain (OpenSpec.upto intentPlaysSpec)) intentPlaysUptoCard

/-- THE SECOND FORM's CARD OF 'vulgatelaw16.IntentNil'. -/
def intentNilUptoCard : Claim7 := { stood := { row := intentNilUptoRow, standIns := [], harness := (true, "3d20b9ea0acd2103c72492f990220a0b4300f990a2ed479cb6414c217e0a98dd"), looks := false }, kinds := [], alts := [], laidByText := true, laidKinds := [.data, .pinned, .pinned], laidTests := true, laidLooks := .later }
def IntentNilUptoCardSaid : Prop := Claim7.holds Tryz.pinned (.plain (OpenSpec.upto intentNilSpec)) intentNilUptoCard
end Rows
end Go.Proofs.YtgobbdfgjgjigaaGreatDoor
