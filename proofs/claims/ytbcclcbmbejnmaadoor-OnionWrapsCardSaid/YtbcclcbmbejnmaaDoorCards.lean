/-
  DERIVED. GIVEN WITH THE SEED: THE CARDS: each row of YtbcclcbmbejnmaaDoorRows.lean that lists a variable, with what it lists TIED to the program's text (the seventh form; the later family's looks); each row that meets fmt, with fmt's text TOLD by the authors' own Lean function (tested against real Go, not proved from fmt's source: count such statements apart). THE CARD IS WHAT COUNTS. Prove the row's statement (the work); the ties are given (YtbcclcbmbejnmaaDoorTie.lean); close each card by the builder's one call (the guide's Derived/Test/ToyasCard.lean, 'card_holds'). Laid BY PROGRAM, IN A SANDBOX (cutbox-door.mjs). By AI agents, Wed Nov 11 2026. No macro, syntax, notation, axiom, sorry.
-/
import Derived.Test.YtbcclcbmbejnmaaDoorRows
import GoSem.ClaimSeven
namespace Go.Proofs.YtbcclcbmbejnmaaDoor
namespace Rows

/-- THE TIED CARD OF 'shallotlaw09.OnionWraps'. -/
def onionWrapsCard : Claim7 := { stood := { row := onionWrapsRow, standIns := [], harness := (true, "54f69384bedb738ff04c0b61b41218d9fe6a337e62cb67e3746b9b2e08889007"), looks := false }, kinds := [], alts := [], laidByText := true, laidKinds := [.data], laidTests := true, laidLooks := .later }
def OnionWrapsCardSaid : Prop := Claim7.holds Tryd.pinned (.plain (OpenSpec.ofChange onionWrapsSpec)) onionWrapsCard

/-- THE TIED CARD OF 'shallotlaw09.OnionPeels'. -/
def onionPeelsCard : Claim7 := { stood := { row := onionPeelsRow, standIns := [], harness := (true, "54f69384bedb738ff04c0b61b41218d9fe6a337e62cb67e3746b9b2e08889007"), looks := false }, kinds := [], alts := [], laidByText := true, laidKinds := [.data], laidTests := true, laidLooks := .later }
def OnionPeelsCardSaid : Prop := Claim7.holds Tryd.pinned (.plain (OpenSpec.ofChange onionPeelsSpec)) onionPeelsCard

/-- THE TIED CARD OF 'shallotlaw09.OnionBody'. -/
def onionBodyCard : Claim7 := { stood := { row := onionBodyRow, standIns := [], harness := (true, "54f69384bedb738ff04c0b61b41218d9fe6a337e62cb67e3746b9b2e08889007"), looks := false }, kinds := [], alts := [], laidByText := true, laidKinds := [.data], laidTests := true, laidLooks := .later }
def OnionBodyCardSaid : Prop := Claim7.holds Tryd.pinned (.plain (OpenSpec.ofChange onionBodySpec)) onionBodyCard

/-- THE TIED CARD OF 'shallotlaw09.OnionPadding'. -/
def onionPaddingCard : Claim7 := { stood := { row := onionPaddingRow, standIns := [], harness := (true, "54f69384bedb738ff04c0b61b41218d9fe6a337e62cb67e3746b9b2e08889007"), looks := false }, kinds := [], alts := [], laidByText := true, laidKinds := [.data], laidTests := true, laidLooks := .later }
def OnionPaddingCardSaid : Prop := Claim7.holds Tryd.pinned (.plain (OpenSpec.ofChange onionPaddingSpec)) onionPaddingCard

/-- THE TIED CARD OF 'shallotlaw09.OnionOuter'. -/
def onionOuterCard : Claim7 := { stood := { row := onionOuterRow, standIns := [], harness := (true, "54f69384bedb738ff04c0b61b41218d9fe6a337e62cb67e3746b9b2e08889007"), looks := false }, kinds := [], alts := [], laidByText := true, laidKinds := [.data], laidTests := true, laidLooks := .later }
def OnionOuterCardSaid : Prop := Claim7.holds Tryd.pinned (.plain (OpenSpec.ofChange onionOuterSpec)) onionOuterCard

/-- THE TIED CARD OF 'shallotlaw09.OnionNonces'. -/
def onionNoncesCard : Claim7 := { stood := { row := onionNoncesRow, standIns := [], harness := (true, "54f69384bedb738ff04c0b61b41218d9fe6a337e62cb67e3746b9b2e08889007"), looks := false }, kinds := [], alts := [], laidByText := true, laidKinds := [.data], laidTests := true, laidLooks := .later }
def OnionNoncesCardSaid : Prop := Claim7.holds Tryd.pinned (.plain (OpenSpec.ofChange onionNoncesSpec)) onionNoncesCard

/-- THE TIED CARD OF 'shallotlaw09.OnionSize'. -/
def onionSizeCard : Claim7 := { stood := { row := onionSizeRow, standIns := [], harness := (true, "54f69384bedb738ff04c0b61b41218d9fe6a337e62cb67e3746b9b2e08889007"), looks := false }, kinds := [], alts := [], laidByText := true, laidKinds := [.data], laidTests := true, laidLooks := .later }
def OnionSizeCardSaid : Prop := Claim7.holds Tryd.pinned (.plain (OpenSpec.ofChange onionSizeSpec)) onionSizeCard

/-- THE SECOND FORM's CARD OF 'shallotlaw09.OnionWraps'. -/
def onionWrapsUptoCard : Claim7 := { stood := { row := onionWrapsUptoRow, standIns := [], harness := (true, "54f69384bedb738ff04c0b61b41218d9fe6a337e62cb67e3746b9b2e08889007"), looks := false }, kinds := [], alts := [], laidByText := true, laidKinds := [.data], laidTests := true, laidLooks := .later }
def OnionWrapsUptoCardSaid : Prop := Claim7.holds Tryd.pinned (.plain (OpenSpec.upto onionWrapsSpec)) onionWrapsUptoCard

/-- THE SECOND FORM's CARD OF 'shallotlaw09.OnionPeels'. -/
def onionPeelsUptoCard : Claim7 := { stood := { row := onionPeelsUptoRow, standIns := [], harness := (true, "54f69384bedb738ff04c0b61b41218d9fe6a337e62cb67e3746b9b2e08889007"), looks := false }, kinds := [], alts := [], laidByText := true, laidKinds := [.data], laidTests := true, laidLooks := .later }
def OnionPeelsUptoCardSaid : Prop := Claim7.holds Tryd.pinned (.plain (OpenSpec.upto onionPeelsSpec)) onionPeelsUptoCard

/-- THE SECOND FORM's CARD OF 'shallotlaw09.OnionBody'. -/
def onionBodyUptoCard : Claim7 := { stood := { row := onionBodyUptoRow, standIns := [], harness := (true, "54f69384bedb738ff04c0b61b41218d9fe6a337e62cb67e3746b9b2e08889007"), looks := false }, kinds := [], alts := [], laidByText := true, laidKinds := [.data], laidTests := true, laidLooks := .later }
def OnionBodyUptoCardSaid : Prop := Claim7.holds Tryd.pinned (.plain (OpenSpec.upto onionBodySpec)) onionBodyUptoCard

/-- THE SECOND FORM's CARD OF 'shallotlaw09.OnionPadding'. -/
def onionPaddingUptoCard : Claim7 := { stood := { row := onionPaddingUptoRow, standIns := [], harness := (true, "54f69384bedb738ff04c0b61b41218d9fe6a337e62cb67e3746b9b2e08889007"), looks := false }, kinds := [], alts := [], laidByText := true, laidKinds := [.data], laidTests := true, laidLooks := .later }
def OnionPaddingUptoCardSaid : Prop := Claim7.holds Tryd.pinned (.plain (OpenSpec.upto onionPaddingSpec)) onionPaddingUptoCard

/-- THE SECOND FORM's CARD OF 'shallotlaw09.OnionOuter'. -/
def onionOuterUptoCard : Claim7 := { stood := { row := onionOuterUptoRow, standIns := [], harness := (true, "54f69384bedb738ff04c0b61b41218d9fe6a337e62cb67e3746b9b2e08889007"), looks := false }, kinds := [], alts := [], laidByText := true, laidKinds := [.data], laidTests := true, laidLooks := .later }
def OnionOuterUptoCardSaid : Prop := Claim7.holds Tryd.pinned (.plain (OpenSpec.upto onionOuterSpec)) onionOuterUptoCard

/-- THE SECOND FORM's CARD OF 'shallotlaw09.OnionNonces'. -/
def onionNoncesUptoCard : Claim7 := { stood := { row := onionNoncesUptoRow, standIns := [], harness := (true, "54f69384bedb738ff04c0b61b41218d9fe6a337e62cb67e3746b9b2e08889007"), looks := false }, kinds := [], alts := [], laidByText := true, laidKinds := [.data], laidTests := true, laidLooks := .later }
def OnionNoncesUptoCardSaid : Prop := Claim7.holds Tryd.pinned (.plain (OpenSpec.upto onionNoncesSpec)) onionNoncesUptoCard

/-- THE SECOND FORM's CARD OF 'shallotlaw09.OnionSize'. -/
def onionSizeUptoCard : Claim7 := { stood := { row := onionSizeUptoRow, standIns := [], harness := (true, "54f69384bedb738ff04c0b61b41218d9fe6a337e62cb67e3746b9b2e08889007"), looks := false }, kinds := [], alts := [], laidByText := true, laidKinds := [.data], laidTests := true, laidLooks := .later }
def OnionSizeUptoCardSaid : Prop := Claim7.holds Tryd.pinned (.plain (OpenSpec.upto onionSizeSpec)) onionSizeUptoCard
end Rows
end Go.Proofs.YtbcclcbmbejnmaaDoor
