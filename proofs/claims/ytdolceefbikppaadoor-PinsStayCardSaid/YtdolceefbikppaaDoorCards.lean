/-
  DERIVED. GIVEN WITH THE SEED: THE CARDS: each row of YtdolceefbikppaaDoorRows.lean that lists a variable, with what it lists TIED to the program's text (the seventh form; the later family's looks); each row that meets fmt, with fmt's text TOLD by the authors' own Lean function (tested against real Go, not proved from fmt's source: count such statements apart). THE CARD IS WHAT COUNTS. Prove the row's statement (the work); the ties are given (YtdolceefbikppaaDoorTie.lean); close each card by the builder's one call (the guide's Derived/Test/ToyasCard.lean, 'card_holds'). Laid BY PROGRAM, IN A SANDBOX (cutbox-door.mjs). By AI agents, Wed Nov 11 2026. No macro, syntax, notation, axiom, sorry.
-/
import Derived.Test.YtdolceefbikppaaDoorRows
import GoSem.ClaimSeven
namespace Go.Proofs.YtdolceefbikppaaDoor
namespace Rows

/-- THE TIED CARD OF 'vulgatelaw13.PinsPlay'. -/
def pinsPlayCard : Claim7 := { stood := { row := pinsPlayRow, standIns := [], harness := (true, "ea84b17e0f54e720db9ee2ef817f3901cfc16bbcb74d6fe714f3303a523ea7b3"), looks := false }, kinds := [], alts := [], laidByText := true, laidKinds := [.data], laidTests := true, laidLooks := .later }
def PinsPlayCardSaid : Prop := Claim7.holds Tryd.pinned (.plain (OpenSpec.ofChange pinsPlaySpec)) pinsPlayCard

/-- THE TIED CARD OF 'vulgatelaw13.PinsFull'. -/
def pinsFullCard : Claim7 := { stood := { row := pinsFullRow, standIns := [], harness := (true, "ea84b17e0f54e720db9ee2ef817f3901cfc16bbcb74d6fe714f3303a523ea7b3"), looks := false }, kinds := [], alts := [], laidByText := true, laidKinds := [.data], laidTests := true, laidLooks := .later }
def PinsFullCardSaid : Prop := Claim7.holds Tryd.pinned (.plain (OpenSpec.ofChange pinsFullSpec)) pinsFullCard

/-- THE TIED CARD OF 'vulgatelaw13.PinsStay'. -/
def pinsStayCard : Claim7 := { stood := { row := pinsStayRow, standIns := [], harness := (true, "ea84b17e0f54e720db9ee2ef817f3901cfc16bbcb74d6fe714f3303a523ea7b3"), looks := false }, kinds := [], alts := [], laidByText := true, laidKinds := [.data], laidTests := true, laidLooks := .later }
def PinsStayCardSaid : Prop := Claim7.holds Tryd.pinned (.plain (OpenSpec.ofChange pinsStaySpec)) pinsStayCard

/-- THE TIED CARD OF 'vulgatelaw13.PinsNil'. -/
def pinsNilCard : Claim7 := { stood := { row := pinsNilRow, standIns := [], harness := (true, "ea84b17e0f54e720db9ee2ef817f3901cfc16bbcb74d6fe714f3303a523ea7b3"), looks := false }, kinds := [], alts := [], laidByText := true, laidKinds := [.data], laidTests := true, laidLooks := .later }
def PinsNilCardSaid : Prop := Claim7.holds Tryd.pinned (.plain (OpenSpec.ofChange pinsNilSpec)) pinsNilCard

/-- THE SECOND FORM's CARD OF 'vulgatelaw13.PinsPlay'. -/
def pinsPlayUptoCard : Claim7 := { stood := { row := pinsPlayUptoRow, standIns := [], harness := (true, "ea84b17e0f54e720db9ee2ef817f3901cfc16bbcb74d6fe714f3303a523ea7b3"), looks := false }, kinds := [], alts := [], laidByText := true, laidKinds := [.data], laidTests := true, laidLooks := .later }
def PinsPlayUptoCardSaid : Prop := Claim7.holds Tryd.pinned (.plain (OpenSpec.upto pinsPlaySpec)) pinsPlayUptoCard

/-- THE SECOND FORM's CARD OF 'vulgatelaw13.PinsFull'. -/
def pinsFullUptoCard : Claim7 := { stood := { row := pinsFullUptoRow, standIns := [], harness := (true, "ea84b17e0f54e720db9ee2ef817f3901cfc16bbcb74d6fe714f3303a523ea7b3"), looks := false }, kinds := [], alts := [], laidByText := true, laidKinds := [.data], laidTests := true, laidLooks := .later }
def PinsFullUptoCardSaid : Prop := Claim7.holds Tryd.pinned (.plain (OpenSpec.upto pinsFullSpec)) pinsFullUptoCard

/-- THE SECOND FORM's CARD OF 'vulgatelaw13.PinsStay'. -/
def pinsStayUptoCard : Claim7 := { stood := { row := pinsStayUptoRow, standIns := [], harness := (true, "ea84b17e0f54e720db9ee2ef817f3901cfc16bbcb74d6fe714f3303a523ea7b3"), looks := false }, kinds := [], alts := [], laidByText := true, laidKinds := [.data], laidTests := true, laidLooks := .later }
def PinsStayUptoCardSaid : Prop := Claim7.holds Tryd.pinned (.plain (OpenSpec.upto pinsStaySpec)) pinsStayUptoCard

/-- THE SECOND FORM's CARD OF 'vulgatelaw13.PinsNil'. -/
def pinsNilUptoCard : Claim7 := { stood := { row := pinsNilUptoRow, standIns := [], harness := (true, "ea84b17e0f54e720db9ee2ef817f3901cfc16bbcb74d6fe714f3303a523ea7b3"), looks := false }, kinds := [], alts := [], laidByText := true, laidKinds := [.data], laidTests := true, laidLooks := .later }
def PinsNilUptoCardSaid : Prop := Claim7.holds Tryd.pinned (.plain (OpenSpec.upto pinsNilSpec)) pinsNilUptoCard
end Rows
end Go.Proofs.YtdolceefbikppaaDoor
