/-
  DERIVED. GIVEN WITH THE SEED: THE CARDS: each row of YtgbnaammphilhaaDoorRows.lean that lists a variable, with what it lists TIED to the program's text (the seventh form; the later family's looks); each row that meets fmt, with fmt's text TOLD by the authors' own Lean function (tested against real Go, not proved from fmt's source: count such statements apart). THE CARD IS WHAT COUNTS. Prove the row's statement (the work); the ties are given (YtgbnaammphilhaaDoorTie.lean); close each card by the builder's one call (the guide's Derived/Test/ToyasCard.lean, 'card_holds'). Laid BY PROGRAM, IN A SANDBOX (cutbox-door.mjs). By AI agents, Wed Nov 11 2026. No macro, syntax, notation, axiom, sorry.
-/
import Derived.Test.YtgbnaammphilhaaDoorRows
import GoSem.ClaimSeven
namespace Go.Proofs.YtgbnaammphilhaaDoor
namespace Rows

/-- THE TIED CARD OF 'vulgatelaw05.TagParses'. -/
def tagParsesCard : Claim7 := { stood := { row := tagParsesRow, standIns := [], harness := (true, "55787c4b62c13398b0a98071fc6bc87a51852f009355b76eb9955f35ac32e242"), looks := false }, kinds := [], alts := [], laidByText := true, laidKinds := [.data, .pinned, .pinned], laidTests := true, laidLooks := .later }
def TagParsesCardSaid : Prop := Claim7.holds Tryd.pinned (.plain (OpenSpec.ofChange tagParsesSpec)) tagParsesCard

/-- THE TIED CARD OF 'vulgatelaw05.TagBytes'. -/
def tagBytesCard : Claim7 := { stood := { row := tagBytesRow, standIns := [], harness := (true, "55787c4b62c13398b0a98071fc6bc87a51852f009355b76eb9955f35ac32e242"), looks := false }, kinds := [], alts := [], laidByText := true, laidKinds := [.data, .pinned, .pinned], laidTests := true, laidLooks := .later }
def TagBytesCardSaid : Prop := Claim7.holds Tryd.pinned (.plain (OpenSpec.ofChange tagBytesSpec)) tagBytesCard

/-- THE TIED CARD OF 'vulgatelaw05.TagMatches'. -/
def tagMatchesCard : Claim7 := { stood := { row := tagMatchesRow, standIns := [], harness := (true, "55787c4b62c13398b0a98071fc6bc87a51852f009355b76eb9955f35ac32e242"), looks := false }, kinds := [], alts := [], laidByText := true, laidKinds := [.data, .pinned, .pinned], laidTests := true, laidLooks := .later }
def TagMatchesCardSaid : Prop := Claim7.holds Tryd.pinned (.plain (OpenSpec.ofChange tagMatchesSpec)) tagMatchesCard

/-- THE TIED CARD OF 'vulgatelaw05.TagChains'. -/
def tagChainsCard : Claim7 := { stood := { row := tagChainsRow, standIns := [], harness := (true, "55787c4b62c13398b0a98071fc6bc87a51852f009355b76eb9955f35ac32e242"), looks := false }, kinds := [], alts := [], laidByText := true, laidKinds := [.data, .pinned, .pinned], laidTests := true, laidLooks := .later }
def TagChainsCardSaid : Prop := Claim7.holds Tryd.pinned (.plain (OpenSpec.ofChange tagChainsSpec)) tagChainsCard

/-- THE SECOND FORM's CARD OF 'vulgatelaw05.TagParses'. -/
def tagParsesUptoCard : Claim7 := { stood := { row := tagParsesUptoRow, standIns := [], harness := (true, "55787c4b62c13398b0a98071fc6bc87a51852f009355b76eb9955f35ac32e242"), looks := false }, kinds := [], alts := [], laidByText := true, laidKinds := [.data, .pinned, .pinned], laidTests := true, laidLooks := .later }
def TagParsesUptoCardSaid : Prop := Claim7.holds Tryd.pinned (.plain (OpenSpec.upto tagParsesSpec)) tagParsesUptoCard

/-- THE SECOND FORM's CARD OF 'vulgatelaw05.TagBytes'. -/
def tagBytesUptoCard : Claim7 := { stood := { row := tagBytesUptoRow, standIns := [], harness := (true, "55787c4b62c13398b0a98071fc6bc87a51852f009355b76eb9955f35ac32e242"), looks := false }, kinds := [], alts := [], laidByText := true, laidKinds := [.data, .pinned, .pinned], laidTests := true, laidLooks := .later }
def TagBytesUptoCardSaid : Prop := Claim7.holds Tryd.pinned (.plain (OpenSpec.upto tagBytesSpec)) tagBytesUptoCard

/-- THE SECOND FORM's CARD OF 'vulgatelaw05.TagMatches'. -/
def tagMatchesUptoCard : Claim7 := { stood := { row := tagMatchesUptoRow, standIns := [], harness := (true, "55787c4b62c13398b0a98071fc6bc87a51852f009355b76eb9955f35ac32e242"), looks := false }, kinds := [], alts := [], laidByText := true, laidKinds := [.data, .pinned, .pinned], laidTests := true, laidLooks := .later }
def TagMatchesUptoCardSaid : Prop := Claim7.holds Tryd.pinned (.plain (OpenSpec.upto tagMatchesSpec)) tagMatchesUptoCard

/-- THE SECOND FORM's CARD OF 'vulgatelaw05.TagChains'. -/
def tagChainsUptoCard : Claim7 := { stood := { row := tagChainsUptoRow, standIns := [], harness := (true, "55787c4b62c13398b0a98071fc6bc87a51852f009355b76eb9955f35ac32e242"), looks := false }, kinds := [], alts := [], laidByText := true, laidKinds := [.data, .pinned, .pinned], laidTests := true, laidLooks := .later }
def TagChainsUptoCardSaid : Prop := Claim7.holds Tryd.pinned (.plain (OpenSpec.upto tagChainsSpec)) tagChainsUptoCard
end Rows
end Go.Proofs.YtgbnaammphilhaaDoor
