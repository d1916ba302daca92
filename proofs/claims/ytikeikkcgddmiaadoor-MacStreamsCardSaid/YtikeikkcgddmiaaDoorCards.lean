/-
  DERIVED. GIVEN WITH THE SEED: THE CARDS: each row of YtikeikkcgddmiaaDoorRows.lean that lists a variable, with what it lists TIED to the program's text (the seventh form; the later family's looks); each row that meets fmt, with fmt's text TOLD by the authors' own Lean function (tested against real Go, not proved from fmt's source: count such statements apart). THE CARD IS WHAT COUNTS. Prove the row's statement (the work); the ties are given (YtikeikkcgddmiaaDoorTie.lean); close each card by the builder's one call (the guide's Derived/Test/ToyasCard.lean, 'card_holds'). Laid BY PROGRAM, IN A SANDBOX (cutbox-door.mjs). By AI agents, Wed Nov 11 2026. No macro, syntax, notation, axiom, sorry.
-/
import Derived.Test.YtikeikkcgddmiaaDoorRows
import GoSem.ClaimSeven
namespace Go.Proofs.YtikeikkcgddmiaaDoor
namespace Rows

/-- THE TIED CARD OF 'shallotlaw02.MacTags'. -/
def macTagsCard : Claim7 := { stood := { row := macTagsRow, standIns := [], harness := (true, "ffd8b8f081e2a977ebf43304df5cb43958c71c378ea9b4120702b3f1eb878898"), looks := false }, kinds := [], alts := [], laidByText := true, laidKinds := [.data], laidTests := true, laidLooks := .later }
def MacTagsCardSaid : Prop := Claim7.holds Tryd.pinned (.plain (OpenSpec.ofChange macTagsSpec)) macTagsCard

/-- THE TIED CARD OF 'shallotlaw02.MacStreams'. -/
def macStreamsCard : Claim7 := { stood := { row := macStreamsRow, standIns := [], harness := (true, "ffd8b8f081e2a977ebf43304df5cb43958c71c378ea9b4120702b3f1eb878898"), looks := false }, kinds := [], alts := [], laidByText := true, laidKinds := [.data], laidTests := true, laidLooks := .later }
def MacStreamsCardSaid : Prop := Claim7.holds Tryd.pinned (.plain (OpenSpec.ofChange macStreamsSpec)) macStreamsCard

/-- THE TIED CARD OF 'shallotlaw02.MacHashes'. -/
def macHashesCard : Claim7 := { stood := { row := macHashesRow, standIns := [], harness := (true, "ffd8b8f081e2a977ebf43304df5cb43958c71c378ea9b4120702b3f1eb878898"), looks := false }, kinds := [], alts := [], laidByText := true, laidKinds := [.data], laidTests := true, laidLooks := .later }
def MacHashesCardSaid : Prop := Claim7.holds Tryd.pinned (.plain (OpenSpec.ofChange macHashesSpec)) macHashesCard

/-- THE TIED CARD OF 'shallotlaw02.MacKeys'. -/
def macKeysCard : Claim7 := { stood := { row := macKeysRow, standIns := [], harness := (true, "ffd8b8f081e2a977ebf43304df5cb43958c71c378ea9b4120702b3f1eb878898"), looks := false }, kinds := [], alts := [], laidByText := true, laidKinds := [.data], laidTests := true, laidLooks := .later }
def MacKeysCardSaid : Prop := Claim7.holds Tryd.pinned (.plain (OpenSpec.ofChange macKeysSpec)) macKeysCard

/-- THE TIED CARD OF 'shallotlaw02.MacBegins'. -/
def macBeginsCard : Claim7 := { stood := { row := macBeginsRow, standIns := [], harness := (true, "ffd8b8f081e2a977ebf43304df5cb43958c71c378ea9b4120702b3f1eb878898"), looks := false }, kinds := [], alts := [], laidByText := true, laidKinds := [.data], laidTests := true, laidLooks := .later }
def MacBeginsCardSaid : Prop := Claim7.holds Tryd.pinned (.plain (OpenSpec.ofChange macBeginsSpec)) macBeginsCard

/-- THE TIED CARD OF 'shallotlaw02.MacTwice'. -/
def macTwiceCard : Claim7 := { stood := { row := macTwiceRow, standIns := [], harness := (true, "ffd8b8f081e2a977ebf43304df5cb43958c71c378ea9b4120702b3f1eb878898"), looks := false }, kinds := [], alts := [], laidByText := true, laidKinds := [.data], laidTests := true, laidLooks := .later }
def MacTwiceCardSaid : Prop := Claim7.holds Tryd.pinned (.plain (OpenSpec.ofChange macTwiceSpec)) macTwiceCard

/-- THE SECOND FORM's CARD OF 'shallotlaw02.MacTags'. -/
def macTagsUptoCard : Claim7 := { stood := { row := macTagsUptoRow, standIns := [], harness := (true, "ffd8b8f081e2a977ebf43304df5cb43958c71c378ea9b4120702b3f1eb878898"), looks := false }, kinds := [], alts := [], laidByText := true, laidKinds := [.data], laidTests := true, laidLooks := .later }
def MacTagsUptoCardSaid : Prop := Claim7.holds Tryd.pinned (.plain (OpenSpec.upto macTagsSpec)) macTagsUptoCard

/-- THE SECOND FORM's CARD OF 'shallotlaw02.MacStreams'. -/
def macStreamsUptoCard : Claim7 := { stood := { row := macStreamsUptoRow, standIns := [], harness := (true, "ffd8b8f081e2a977ebf43304df5cb43958c71c378ea9b4120702b3f1eb878898"), looks := false }, kinds := [], alts := [], laidByText := true, laidKinds := [.data], laidTests := true, laidLooks := .later }
def MacStreamsUptoCardSaid : Prop := Claim7.holds Tryd.pinned (.plain (OpenSpec.upto macStreamsSpec)) macStreamsUptoCard

/-- THE SECOND FORM's CARD OF 'shallotlaw02.MacHashes'. -/
def macHashesUptoCard : Claim7 := { stood := { row := macHashesUptoRow, standIns := [], harness := (true, "ffd8b8f081e2a977ebf43304df5cb43958c71c378ea9b4120702b3f1eb878898"), looks := false }, kinds := [], alts := [], laidByText := true, laidKinds := [.data], laidTests := true, laidLooks := .later }
def MacHashesUptoCardSaid : Prop := Claim7.holds Tryd.pinned (.plain (OpenSpec.upto macHashesSpec)) macHashesUptoCard

/-- THE SECOND FORM's CARD OF 'shallotlaw02.MacKeys'. -/
def macKeysUptoCard : Claim7 := { stood := { row := macKeysUptoRow, standIns := [], harness := (true, "ffd8b8f081e2a977ebf43304df5cb43958c71c378ea9b4120702b3f1eb878898"), looks := false }, kinds := [], alts := [], laidByText := true, laidKinds := [.data], laidTests := true, laidLooks := .later }
def MacKeysUptoCardSaid : Prop := Claim7.holds Tryd.pinned (.plain (OpenSpec.upto macKeysSpec)) macKeysUptoCard

/-- THE SECOND FORM's CARD OF 'shallotlaw02.MacBegins'. -/
def macBeginsUptoCard : Claim7 := { stood := { row := macBeginsUptoRow, standIns := [], harness := (true, "ffd8b8f081e2a977ebf43304df5cb43958c71c378ea9b4120702b3f1eb878898"), looks := false }, kinds := [], alts := [], laidByText := true, laidKinds := [.data], laidTests := true, laidLooks := .later }
def MacBeginsUptoCardSaid : Prop := Claim7.holds Tryd.pinned (.plain (OpenSpec.upto macBeginsSpec)) macBeginsUptoCard

/-- THE SECOND FORM's CARD OF 'shallotlaw02.MacTwice'. -/
def macTwiceUptoCard : Claim7 := { stood := { row := macTwiceUptoRow, standIns := [], harness := (true, "ffd8b8f081e2a977ebf43304df5cb43958c71c378ea9b4120702b3f1eb878898"), looks := false }, kinds := [], alts := [], laidByText := true, laidKinds := [.data], laidTests := true, laidLooks := .later }
def MacTwiceUptoCardSaid : Prop := Claim7.holds Tryd.pinned (.plain (OpenSpec.upto macTwiceSpec)) macTwiceUptoCard
end Rows
end Go.Proofs.YtikeikkcgddmiaaDoor
