/-
  DERIVED. GIVEN WITH THE SEED: THE CARDS: each row of YtpiajeonnhfanaaDoorRows.lean that lists a variable, with what it lists TIED to the program's text (the seventh form; the later family's looks); each row that meets fmt, with fmt's text TOLD by the authors' own Lean function (tested against real Go, not proved from fmt's source: count such statements apart). THE CARD IS WHAT COUNTS. Prove the row's statement (the work); the ties are given (YtpiajeonnhfanaaDoorTie.lean); close each card by the builder's one call (the guide's Derived/Test/ToyasCard.lean, 'card_holds'). Laid BY PROGRAM, IN A SANDBOX (cutbox-door.mjs). By AI agents, Wed Nov 11 2026. No macro, syntax, notation, axiom, sorry.
-/
import Derived.Test.YtpiajeonnhfanaaDoorRows
import GoSem.ClaimSeven
namespace Go.Proofs.YtpiajeonnhfanaaDoor
namespace Rows

/-- THE TIED CARD OF 'vulgatelaw07.PluralOf'. -/
def pluralOfCard : Claim7 := { stood := { row := pluralOfRow, standIns := [], harness := (true, "cf77985984d48e2be43163e9669f3a5345ec0e6d36eddcbac280962755cb9eae"), looks := false }, kinds := [], alts := [], laidByText := true, laidKinds := [.data, .pinned, .pinned], laidTests := true, laidLooks := .later }
def PluralOfCardSaid : Prop := Claim7.holds Tryd.pinned (.plain (OpenSpec.ofChange pluralOfSpec)) pluralOfCard

/-- THE TIED CARD OF 'vulgatelaw07.PluralSets'. -/
def pluralSetsCard : Claim7 := { stood := { row := pluralSetsRow, standIns := [], harness := (true, "cf77985984d48e2be43163e9669f3a5345ec0e6d36eddcbac280962755cb9eae"), looks := false }, kinds := [], alts := [], laidByText := true, laidKinds := [.data, .data, .pinned, .pinned], laidTests := true, laidLooks := .later }
def PluralSetsCardSaid : Prop := Claim7.holds Tryd.pinned (.plain (OpenSpec.ofChange pluralSetsSpec)) pluralSetsCard

/-- THE TIED CARD OF 'vulgatelaw07.PluralPicks'. -/
def pluralPicksCard : Claim7 := { stood := { row := pluralPicksRow, standIns := [], harness := (true, "cf77985984d48e2be43163e9669f3a5345ec0e6d36eddcbac280962755cb9eae"), looks := false }, kinds := [], alts := [], laidByText := true, laidKinds := [.data, .pinned, .pinned], laidTests := true, laidLooks := .later }
def PluralPicksCardSaid : Prop := Claim7.holds Tryd.pinned (.plain (OpenSpec.ofChange pluralPicksSpec)) pluralPicksCard

/-- THE TIED CARD OF 'vulgatelaw07.PluralRounds'. -/
def pluralRoundsCard : Claim7 := { stood := { row := pluralRoundsRow, standIns := [], harness := (true, "cf77985984d48e2be43163e9669f3a5345ec0e6d36eddcbac280962755cb9eae"), looks := false }, kinds := [], alts := [], laidByText := true, laidKinds := [.data, .pinned, .pinned], laidTests := true, laidLooks := .later }
def PluralRoundsCardSaid : Prop := Claim7.holds Tryd.pinned (.plain (OpenSpec.ofChange pluralRoundsSpec)) pluralRoundsCard

/-- THE SECOND FORM's CARD OF 'vulgatelaw07.PluralOf'. -/
def pluralOfUptoCard : Claim7 := { stood := { row := pluralOfUptoRow, standIns := [], harness := (true, "cf77985984d48e2be43163e9669f3a5345ec0e6d36eddcbac280962755cb9eae"), looks := false }, kinds := [], alts := [], laidByText := true, laidKinds := [.data, .pinned, .pinned], laidTests := true, laidLooks := .later }
def PluralOfUptoCardSaid : Prop := Claim7.holds Tryd.pinned (.plain (OpenSpec.upto pluralOfSpec)) pluralOfUptoCard

/-- THE SECOND FORM's CARD OF 'vulgatelaw07.PluralSets'. -/
def pluralSetsUptoCard : Claim7 := { stood := { row := pluralSetsUptoRow, standIns := [], harness := (true, "cf77985984d48e2be43163e9669f3a5345ec0e6d36eddcbac280962755cb9eae"), looks := false }, kinds := [], alts := [], laidByText := true, laidKinds := [.data, .data, .pinned, .pinned], laidTests := true, laidLooks := .later }
def PluralSetsUptoCardSaid : Prop := Claim7.holds Tryd.pinned (.plain (OpenSpec.upto pluralSetsSpec)) pluralSetsUptoCard

/-- THE SECOND FORM's CARD OF 'vulgatelaw07.PluralPicks'. -/
def pluralPicksUptoCard : Claim7 := { stood := { row := pluralPicksUptoRow, standIns := [], harness := (true, "cf77985984d48e2be43163e9669f3a5345ec0e6d36eddcbac280962755cb9eae"), looks := false }, kinds := [], alts := [], laidByText := true, laidKinds := [.data, .pinned, .pinned], laidTests := true, laidLooks := .later }
def PluralPicksUptoCardSaid : Prop := Claim7.holds Tryd.pinned (.plain (OpenSpec.upto pluralPicksSpec)) pluralPicksUptoCard

/-- THE SECOND FORM's CARD OF 'vulgatelaw07.PluralRounds'. -/
def pluralRoundsUptoCard : Claim7 := { stood := { row := pluralRoundsUptoRow, standIns := [], harness := (true, "cf77985984d48e2be43163e9669f3a5345ec0e6d36eddcbac280962755cb9eae"), looks := false }, kinds := [], alts := [], laidByText := true, laidKinds := [.data, .pinned, .pinned], laidTests := true, laidLooks := .later }
def PluralRoundsUptoCardSaid : Prop := Claim7.holds Tryd.pinned (.plain (OpenSpec.upto pluralRoundsSpec)) pluralRoundsUptoCard
end Rows
end Go.Proofs.YtpiajeonnhfanaaDoor
