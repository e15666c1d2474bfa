/-
  DERIVED. GIVEN WITH THE SEED: THE CARDS: each row of YtgobbdfgjgjigaaDoorRows.lean that lists a variable, with what it lists TIED to the program's text (the seventh form; the later family's looks); each row that meets fmt, with fmt's text TOLD by the authors' own Lean function (tested against real Go, not proved from fmt's source: count such statements apart). THE CARD IS WHAT COUNTS. Prove the row's statement (the work); the ties are given (YtgobbdfgjgjigaaDoorTie.lean); close each card by the builder's one call (the guide's Derived/Test/ToyasCard.lean, 'card_holds'). Laid BY PROGRAM, IN A SANDBOX (cutbox-door.mjs). By AI agents, Wed Nov 11 2026. No macro, syntax, notation, axiom, sorry.
-/
import Derived.Test.YtgobbdfgjgjigaaDoorRows
import GoSem.ClaimSeven
namespace Go.Proofs.YtgobbdfgjgjigaaDoor
namespace Rows

/-- THE TIED CARD OF 'vulgatelaw16.IntentKeeps'. -/
def intentKeepsCard : Claim7 := { stood := { row := intentKeepsRow, standIns := [], harness := (true, "0060496f8ffd39d012585f8cd0468982d6ac0a066d5269c9bbbe704a7c7d2cbb"), looks := false }, kinds := [], alts := [], laidByText := true, laidKinds := [.data, .pinned, .pinned], laidTests := true, laidLooks := .later }
def IntentKeepsCardSaid : Prop := Claim7.holds Tryd.pinned (.plain (OpenSpec.ofChange intentKeepsSpec)) intentKeepsCard

/-- THE SECOND FORM's CARD OF 'vulgatelaw16.IntentKeeps'. -/
def intentKeepsUptoCard : Claim7 := { stood := { row := intentKeepsUptoRow, standIns := [], harness := (true, "0060496f8ffd39d012585f8cd0468982d6ac0a066d5269c9bbbe704a7c7d2cbb"), looks := false }, kinds := [], alts := [], laidByText := true, laidKinds := [.data, .pinned, .pinned], laidTests := true, laidLooks := .later }
def IntentKeepsUptoCardSaid : Prop := Claim7.holds Tryd.pinned (.plain (OpenSpec.upto intentKeepsSpec)) intentKeepsUptoCard
end Rows
end Go.Proofs.YtgobbdfgjgjigaaDoor
