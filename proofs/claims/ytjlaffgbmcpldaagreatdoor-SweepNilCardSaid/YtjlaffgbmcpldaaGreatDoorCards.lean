/-
  DERIVED. GIVEN WITH THE SEED: THE CARDS: each row of YtjlaffgbmcpldaaGreatDoorRows.lean that lists a variable, with what it lists TIED to the program's text (the seventh form; the later family's looks); each row that meets fmt, with fmt's text TOLD by the authors' own Lean function (tested against real Go, not proved from fmt's source: count such statements apart). THE CARD IS WHAT COUNTS. Prove the row's statement (the work); the ties are given (YtjlaffgbmcpldaaGreatDoorTie.lean); close each card by the builder's one call (the guide's Derived/Test/ToyasCard.lean, 'card_holds'). Laid BY PROGRAM, IN A SANDBOX (cutbox-door.mjs). By AI agents, Wed Nov 11 2026. No macro, syntax, notation, axiom, sorry.
-/
import Derived.Test.YtjlaffgbmcpldaaGreatDoorRows
import GoSem.ClaimSeven
namespace Go.Proofs.YtjlaffgbmcpldaaGreatDoor
namespace Rows

/-- THE TIED CARD OF 'vulgatelaw14.StoreChecks'. -/
def storeChecksCard : Claim7 := { stood := { row := storeChecksRow, standIns := [], harness := (true, "b8ee23f5212c3d65c025fce9c3080d927c1f3d28dc304c48885eba28dbd9e374"), looks := false }, kinds := [], alts := [], laidByText := true, laidKinds := [.data, .pinned, .pinned], laidTests := true, laidLooks := .later }
def StoreChecksCardSaid : Prop := Claim7.holds Tryz.pinned (.plain (OpenSpec.ofChange storeChecksSpec)) storeChecksCard

/-- THE TIED CARD OF 'vulgatelaw15.SweepPlays'. -/
def sweepPlaysCard : Claim7 := { stood := { row := sweepPlaysRow, standIns := [], harness := (true, "b8ee23f5212c3d65c025fce9c3080d927c1f3d28dc304c48885eba28dbd9e374"), looks := false }, kinds := [], alts := [], laidByText := true, laidKinds := [.data, .data, .pinned, .pinned], laidTests := true, laidLooks := .later }
def SweepPlaysCardSaid : Prop := Claim7.holds Tryz.pinned (.plain (OpenSpec.ofChange sweepPlaysSpec)) sweepPlaysCard

/-- THE TIED CARD OF 'vulgatelaw15.SweepLeaves'. -/
def sweepLeavesCard : Claim7 := { stood := { row := sweepLeavesRow, standIns := [], harness := (true, "b8ee23f5212c3d65c025fce9c3080d927c1f3d28dc304c48885eba28dbd9e374"), looks := false }, kinds := [], alts := [], laidByText := true, laidKinds := [.data, .data, .pinned, .pinned], laidTests := true, laidLooks := .later }
def SweepLeavesCardSaid : Prop := Claim7.holds Tryz.pinned (.plain (OpenSpec.ofChange sweepLeavesSpec)) sweepLeavesCard

/-- THE TIED CARD OF 'vulgatelaw15.SweepSees'. -/
def sweepSeesCard : Claim7 := { stood := { row := sweepSeesRow, standIns := [], harness := (true, "b8ee23f5212c3d65c025fce9c3080d927c1f3d28dc304c48885eba28dbd9e374"), looks := false }, kinds := [], alts := [], laidByText := true, laidKinds := [.data, .data, .pinned, .pinned], laidTests := true, laidLooks := .later }
def SweepSeesCardSaid : Prop := Claim7.holds Tryz.pinned (.plain (OpenSpec.ofChange sweepSeesSpec)) sweepSeesCard

/-- THE TIED CARD OF 'vulgatelaw15.SweepNil'. -/
def sweepNilCard : Claim7 := { stood := { row := sweepNilRow, standIns := [], harness := (true, "b8ee23f5212c3d65c025fce9c3080d927c1f3d28dc304c48885eba28dbd9e374"), looks := false }, kinds := [], alts := [], laidByText := true, laidKinds := [.data, .pinned, .pinned], laidTests := true, laidLooks := .later }
def SweepNilCardSaid : Prop := Claim7.holds Tryz.pinned (.plain (OpenSpec.ofChange sweepNilSpec)) sweepNilCard

/-- THE SECOND FORM's CARD OF 'vulgatelaw14.StoreChecks'. -/
def storeChecksUptoCard : Claim7 := { stood := { row := storeChecksUptoRow, standIns := [], harness := (true, "b8ee23f5212c3d65c025fce9c3080d927c1f3d28dc304c48885eba28dbd9e374"), looks := false }, kinds := [], alts := [], laidByText := true, laidKinds := [.data, .pinned, .pinned], laidTests := true, laidLooks := .later }
def StoreChecksUptoCardSaid : Prop := Claim7.holds Tryz.pinned (.plain (OpenSpec.upto storeChecksSpec)) storeChecksUptoCard

/-- THE SECOND FORM's CARD OF 'vulgatelaw15.SweepPlays'. -/
def sweepPlaysUptoCard : Claim7 := { stood := { row := sweepPlaysUptoRow, standIns := [], harness := (true, "b8ee23f5212c3d65c025fce9c3080d927c1f3d28dc304c48885eba28dbd9e374"), looks := false }, kinds := [], alts := [], laidByText := true, laidKinds := [.data, .data, .pinned, .pinned], laidTests := true, laidLooks := .later }
def SweepPlaysUptoCardSaid : Prop := Claim7.holds Tryz.pinned (.plain (OpenSpec.upto sweepPlaysSpec)) sweepPlaysUptoCard

/-- THE SECOND FORM's CARD OF 'vulgatelaw15.SweepLeaves'. -/
def sweepLeavesUptoCard : Claim7 := { stood := { row := sweepLeavesUptoRow, standIns := [], harness := (true, "b8ee23f5212c3d65c025fce9c3080d927c1f3d28dc304c48885eba28dbd9e374"), looks := false }, kinds := [], alts := [], laidByText := true, laidKinds := [.data, .data, .pinned, .pinned], laidTests := true, laidLooks := .later }
def SweepLeavesUptoCardSaid : Prop := Claim7.holds Tryz.pinned (.plain (OpenSpec.upto sweepLeavesSpec)) sweepLeavesUptoCard

/-- THE SECOND FORM's CARD OF 'vulgatelaw15.SweepSees'. -/
def sweepSeesUptoCard : Claim7 := { stood := { row := sweepSeesUptoRow, standIns := [], harness := (true, "b8ee23f5212c3d65c025fce9c3080d927c1f3d28dc304c48885eba28dbd9e374"), looks := false }, kinds := [], alts := [], laidByText := true, laidKinds := [.data, .data, .pinned, .pinned], laidTests := true, laidLooks := .later }
def SweepSeesUptoCardSaid : Prop := Claim7.holds Tryz.pinned (.plain (OpenSpec.upto sweepSeesSpec)) sweepSeesUptoCard

/-- THE SECOND FORM's CARD OF 'vulgatelaw15.SweepNil'. -/
def sweepNilUptoCard : Claim7 := { stood := { row := sweepNilUptoRow, standIns := [], harness := (true, "b8ee23f5212c3d65c025fce9c3080d927c1f3d28dc304c48885eba28dbd9e374"), looks := false }, kinds := [], alts := [], laidByText := true, laidKinds := [.data, .pinned, .pinned], laidTests := true, laidLooks := .later }
def SweepNilUptoCardSaid : Prop := Claim7.holds Tryz.pinned (.plain (OpenSpec.upto sweepNilSpec)) sweepNilUptoCard
end Rows
end Go.Proofs.YtjlaffgbmcpldaaGreatDoor
