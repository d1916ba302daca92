/-
  DERIVED. GIVEN WITH THE SEED: THE CARDS: each row of YtebknelbppmahaaDoorRows.lean that lists a variable, with what it lists TIED to the program's text (the seventh form; the later family's looks); each row that meets fmt, with fmt's text TOLD by the authors' own Lean function (tested against real Go, not proved from fmt's source: count such statements apart). THE CARD IS WHAT COUNTS. Prove the row's statement (the work); the ties are given (YtebknelbppmahaaDoorTie.lean); close each card by the builder's one call (the guide's Derived/Test/ToyasCard.lean, 'card_holds'). Laid BY PROGRAM, IN A SANDBOX (cutbox-door.mjs). By AI agents, Wed Nov 11 2026. No macro, syntax, notation, axiom, sorry.
-/
import Derived.Test.YtebknelbppmahaaDoorRows
import GoSem.ClaimSeven
namespace Go.Proofs.YtebknelbppmahaaDoor
namespace Rows

/-- THE TIED CARD OF 'shallotlaw08.LayerSeals'. -/
def layerSealsCard : Claim7 := { stood := { row := layerSealsRow, standIns := [], harness := (true, "278da703ce523b6210a0617b93cef5d96a9a054928a7354d5313b5abb75b65e7"), looks := false }, kinds := [], alts := [], laidByText := true, laidKinds := [.data], laidTests := true, laidLooks := .later }
def LayerSealsCardSaid : Prop := Claim7.holds Tryd.pinned (.plain (OpenSpec.ofChange layerSealsSpec)) layerSealsCard

/-- THE TIED CARD OF 'shallotlaw08.LayerOpens'. -/
def layerOpensCard : Claim7 := { stood := { row := layerOpensRow, standIns := [], harness := (true, "278da703ce523b6210a0617b93cef5d96a9a054928a7354d5313b5abb75b65e7"), looks := false }, kinds := [], alts := [], laidByText := true, laidKinds := [.data], laidTests := true, laidLooks := .later }
def LayerOpensCardSaid : Prop := Claim7.holds Tryd.pinned (.plain (OpenSpec.ofChange layerOpensSpec)) layerOpensCard

/-- THE TIED CARD OF 'shallotlaw08.LayerBack'. -/
def layerBackCard : Claim7 := { stood := { row := layerBackRow, standIns := [], harness := (true, "278da703ce523b6210a0617b93cef5d96a9a054928a7354d5313b5abb75b65e7"), looks := false }, kinds := [], alts := [], laidByText := true, laidKinds := [.data], laidTests := true, laidLooks := .later }
def LayerBackCardSaid : Prop := Claim7.holds Tryd.pinned (.plain (OpenSpec.ofChange layerBackSpec)) layerBackCard

/-- THE TIED CARD OF 'shallotlaw08.LayerStream'. -/
def layerStreamCard : Claim7 := { stood := { row := layerStreamRow, standIns := [], harness := (true, "278da703ce523b6210a0617b93cef5d96a9a054928a7354d5313b5abb75b65e7"), looks := false }, kinds := [], alts := [], laidByText := true, laidKinds := [.data], laidTests := true, laidLooks := .later }
def LayerStreamCardSaid : Prop := Claim7.holds Tryd.pinned (.plain (OpenSpec.ofChange layerStreamSpec)) layerStreamCard

/-- THE TIED CARD OF 'shallotlaw08.LayerKeys'. -/
def layerKeysCard : Claim7 := { stood := { row := layerKeysRow, standIns := [], harness := (true, "278da703ce523b6210a0617b93cef5d96a9a054928a7354d5313b5abb75b65e7"), looks := false }, kinds := [], alts := [], laidByText := true, laidKinds := [.data], laidTests := true, laidLooks := .later }
def LayerKeysCardSaid : Prop := Claim7.holds Tryd.pinned (.plain (OpenSpec.ofChange layerKeysSpec)) layerKeysCard

/-- THE TIED CARD OF 'shallotlaw08.LayerTag'. -/
def layerTagCard : Claim7 := { stood := { row := layerTagRow, standIns := [], harness := (true, "278da703ce523b6210a0617b93cef5d96a9a054928a7354d5313b5abb75b65e7"), looks := false }, kinds := [], alts := [], laidByText := true, laidKinds := [.data], laidTests := true, laidLooks := .later }
def LayerTagCardSaid : Prop := Claim7.holds Tryd.pinned (.plain (OpenSpec.ofChange layerTagSpec)) layerTagCard

/-- THE SECOND FORM's CARD OF 'shallotlaw08.LayerSeals'. -/
def layerSealsUptoCard : Claim7 := { stood := { row := layerSealsUptoRow, standIns := [], harness := (true, "278da703ce523b6210a0617b93cef5d96a9a054928a7354d5313b5abb75b65e7"), looks := false }, kinds := [], alts := [], laidByText := true, laidKinds := [.data], laidTests := true, laidLooks := .later }
def LayerSealsUptoCardSaid : Prop := Claim7.holds Tryd.pinned (.plain (OpenSpec.upto layerSealsSpec)) layerSealsUptoCard

/-- THE SECOND FORM's CARD OF 'shallotlaw08.LayerOpens'. -/
def layerOpensUptoCard : Claim7 := { stood := { row := layerOpensUptoRow, standIns := [], harness := (true, "278da703ce523b6210a0617b93cef5d96a9a054928a7354d5313b5abb75b65e7"), looks := false }, kinds := [], alts := [], laidByText := true, laidKinds := [.data], laidTests := true, laidLooks := .later }
def LayerOpensUptoCardSaid : Prop := Claim7.holds Tryd.pinned (.plain (OpenSpec.upto layerOpensSpec)) layerOpensUptoCard

/-- THE SECOND FORM's CARD OF 'shallotlaw08.LayerBack'. -/
def layerBackUptoCard : Claim7 := { stood := { row := layerBackUptoRow, standIns := [], harness := (true, "278da703ce523b6210a0617b93cef5d96a9a054928a7354d5313b5abb75b65e7"), looks := false }, kinds := [], alts := [], laidByText := true, laidKinds := [.data], laidTests := true, laidLooks := .later }
def LayerBackUptoCardSaid : Prop := Claim7.holds Tryd.pinned (.plain (OpenSpec.upto layerBackSpec)) layerBackUptoCard

/-- THE SECOND FORM's CARD OF 'shallotlaw08.LayerStream'. -/
def layerStreamUptoCard : Claim7 := { stood := { row := layerStreamUptoRow, standIns := [], harness := (true, "278da703ce523b6210a0617b93cef5d96a9a054928a7354d5313b5abb75b65e7"), looks := false }, kinds := [], alts := [], laidByText := true, laidKinds := [.data], laidTests := true, laidLooks := .later }
def LayerStreamUptoCardSaid : Prop := Claim7.holds Tryd.pinned (.plain (OpenSpec.upto layerStreamSpec)) layerStreamUptoCard

/-- THE SECOND FORM's CARD OF 'shallotlaw08.LayerKeys'. -/
def layerKeysUptoCard : Claim7 := { stood := { row := layerKeysUptoRow, standIns := [], harness := (true, "278da703ce523b6210a0617b93cef5d96a9a054928a7354d5313b5abb75b65e7"), looks := false }, kinds := [], alts := [], laidByText := true, laidKinds := [.data], laidTests := true, laidLooks := .later }
def LayerKeysUptoCardSaid : Prop := Claim7.holds Tryd.pinned (.plain (OpenSpec.upto layerKeysSpec)) layerKeysUptoCard

/-- THE SECOND FORM's CARD OF 'shallotlaw08.LayerTag'. -/
def layerTagUptoCard : Claim7 := { stood := { row := layerTagUptoRow, standIns := [], harness := (true, "278da703ce523b6210a0617b93cef5d96a9a054928a7354d5313b5abb75b65e7"), looks := false }, kinds := [], alts := [], laidByText := true, laidKinds := [.data], laidTests := true, laidLooks := .later }
def LayerTagUptoCardSaid : Prop := Claim7.holds Tryd.pinned (.plain (OpenSpec.upto layerTagSpec)) layerTagUptoCard
end Rows
end Go.Proofs.YtebknelbppmahaaDoor
