/-
  DERIVED. GIVEN WITH THE SEED: THE CARDS: each row of YtmmlffffphgjbaaDoorRows.lean that lists a variable, with what it lists TIED to the program's text (the seventh form; the later family's looks); each row that meets fmt, with fmt's text TOLD by the authors' own Lean function (tested against real Go, not proved from fmt's source: count such statements apart). THE CARD IS WHAT COUNTS. Prove the row's statement (the work); the ties are given (YtmmlffffphgjbaaDoorTie.lean); close each card by the builder's one call (the guide's Derived/Test/ToyasCard.lean, 'card_holds'). Laid BY PROGRAM, IN A SANDBOX (cutbox-door.mjs). By AI agents, Wed Nov 11 2026. No macro, syntax, notation, axiom, sorry.
-/
import Derived.Test.YtmmlffffphgjbaaDoorRows
import GoSem.ClaimSeven
namespace Go.Proofs.YtmmlffffphgjbaaDoor
namespace Rows

/-- THE TIED CARD OF 'shallotlaw01.ShaPads'. -/
def shaPadsCard : Claim7 := { stood := { row := shaPadsRow, standIns := [], harness := (true, "e0fe1081a8fd6721926d41b43ecc8fcd00df7235cd7d9d27600546fd40795c6d"), looks := false }, kinds := [], alts := [], laidByText := true, laidKinds := [.data], laidTests := true, laidLooks := .later }
def ShaPadsCardSaid : Prop := Claim7.holds Tryd.pinned (.plain (OpenSpec.ofChange shaPadsSpec)) shaPadsCard

/-- THE TIED CARD OF 'shallotlaw01.ShaBlocks'. -/
def shaBlocksCard : Claim7 := { stood := { row := shaBlocksRow, standIns := [], harness := (true, "e0fe1081a8fd6721926d41b43ecc8fcd00df7235cd7d9d27600546fd40795c6d"), looks := false }, kinds := [], alts := [], laidByText := true, laidKinds := [.data], laidTests := true, laidLooks := .later }
def ShaBlocksCardSaid : Prop := Claim7.holds Tryd.pinned (.plain (OpenSpec.ofChange shaBlocksSpec)) shaBlocksCard

/-- THE TIED CARD OF 'shallotlaw01.ShaSums'. -/
def shaSumsCard : Claim7 := { stood := { row := shaSumsRow, standIns := [], harness := (true, "e0fe1081a8fd6721926d41b43ecc8fcd00df7235cd7d9d27600546fd40795c6d"), looks := false }, kinds := [], alts := [], laidByText := true, laidKinds := [.data], laidTests := true, laidLooks := .later }
def ShaSumsCardSaid : Prop := Claim7.holds Tryd.pinned (.plain (OpenSpec.ofChange shaSumsSpec)) shaSumsCard

/-- THE TIED CARD OF 'shallotlaw01.ShaFolds'. -/
def shaFoldsCard : Claim7 := { stood := { row := shaFoldsRow, standIns := [], harness := (true, "e0fe1081a8fd6721926d41b43ecc8fcd00df7235cd7d9d27600546fd40795c6d"), looks := false }, kinds := [], alts := [], laidByText := true, laidKinds := [.data], laidTests := true, laidLooks := .later }
def ShaFoldsCardSaid : Prop := Claim7.holds Tryd.pinned (.plain (OpenSpec.ofChange shaFoldsSpec)) shaFoldsCard

/-- THE TIED CARD OF 'shallotlaw01.ShaShape'. -/
def shaShapeCard : Claim7 := { stood := { row := shaShapeRow, standIns := [], harness := (true, "e0fe1081a8fd6721926d41b43ecc8fcd00df7235cd7d9d27600546fd40795c6d"), looks := false }, kinds := [], alts := [], laidByText := true, laidKinds := [.data], laidTests := true, laidLooks := .later }
def ShaShapeCardSaid : Prop := Claim7.holds Tryd.pinned (.plain (OpenSpec.ofChange shaShapeSpec)) shaShapeCard

/-- THE TIED CARD OF 'shallotlaw01.ShaAhead'. -/
def shaAheadCard : Claim7 := { stood := { row := shaAheadRow, standIns := [], harness := (true, "e0fe1081a8fd6721926d41b43ecc8fcd00df7235cd7d9d27600546fd40795c6d"), looks := false }, kinds := [], alts := [], laidByText := true, laidKinds := [.data], laidTests := true, laidLooks := .later }
def ShaAheadCardSaid : Prop := Claim7.holds Tryd.pinned (.plain (OpenSpec.ofChange shaAheadSpec)) shaAheadCard

/-- THE SECOND FORM's CARD OF 'shallotlaw01.ShaPads'. -/
def shaPadsUptoCard : Claim7 := { stood := { row := shaPadsUptoRow, standIns := [], harness := (true, "e0fe1081a8fd6721926d41b43ecc8fcd00df7235cd7d9d27600546fd40795c6d"), looks := false }, kinds := [], alts := [], laidByText := true, laidKinds := [.data], laidTests := true, laidLooks := .later }
def ShaPadsUptoCardSaid : Prop := Claim7.holds Tryd.pinned (.plain (OpenSpec.upto shaPadsSpec)) shaPadsUptoCard

/-- THE SECOND FORM's CARD OF 'shallotlaw01.ShaBlocks'. -/
def shaBlocksUptoCard : Claim7 := { stood := { row := shaBlocksUptoRow, standIns := [], harness := (true, "e0fe1081a8fd6721926d41b43ecc8fcd00df7235cd7d9d27600546fd40795c6d"), looks := false }, kinds := [], alts := [], laidByText := true, laidKinds := [.data], laidTests := true, laidLooks := .later }
def ShaBlocksUptoCardSaid : Prop := Claim7.holds Tryd.pinned (.plain (OpenSpec.upto shaBlocksSpec)) shaBlocksUptoCard

/-- THE SECOND FORM's CARD OF 'shallotlaw01.ShaSums'. -/
def shaSumsUptoCard : Claim7 := { stood := { row := shaSumsUptoRow, standIns := [], harness := (true, "e0fe1081a8fd6721926d41b43ecc8fcd00df7235cd7d9d27600546fd40795c6d"), looks := false }, kinds := [], alts := [], laidByText := true, laidKinds := [.data], laidTests := true, laidLooks := .later }
def ShaSumsUptoCardSaid : Prop := Claim7.holds Tryd.pinned (.plain (OpenSpec.upto shaSumsSpec)) shaSumsUptoCard

/-- THE SECOND FORM's CARD OF 'shallotlaw01.ShaFolds'. -/
def shaFoldsUptoCard : Claim7 := { stood := { row := shaFoldsUptoRow, standIns := [], harness := (true, "e0fe1081a8fd6721926d41b43ecc8fcd00df7235cd7d9d27600546fd40795c6d"), looks := false }, kinds := [], alts := [], laidByText := true, laidKinds := [.data], laidTests := true, laidLooks := .later }
def ShaFoldsUptoCardSaid : Prop := Claim7.holds Tryd.pinned (.plain (OpenSpec.upto shaFoldsSpec)) shaFoldsUptoCard

/-- THE SECOND FORM's CARD OF 'shallotlaw01.ShaShape'. -/
def shaShapeUptoCard : Claim7 := { stood := { row := shaShapeUptoRow, standIns := [], harness := (true, "e0fe1081a8fd6721926d41b43ecc8fcd00df7235cd7d9d27600546fd40795c6d"), looks := false }, kinds := [], alts := [], laidByText := true, laidKinds := [.data], laidTests := true, laidLooks := .later }
def ShaShapeUptoCardSaid : Prop := Claim7.holds Tryd.pinned (.plain (OpenSpec.upto shaShapeSpec)) shaShapeUptoCard

/-- THE SECOND FORM's CARD OF 'shallotlaw01.ShaAhead'. -/
def shaAheadUptoCard : Claim7 := { stood := { row := shaAheadUptoRow, standIns := [], harness := (true, "e0fe1081a8fd6721926d41b43ecc8fcd00df7235cd7d9d27600546fd40795c6d"), looks := false }, kinds := [], alts := [], laidByText := true, laidKinds := [.data], laidTests := true, laidLooks := .later }
def ShaAheadUptoCardSaid : Prop := Claim7.holds Tryd.pinned (.plain (OpenSpec.upto shaAheadSpec)) shaAheadUptoCard
end Rows
end Go.Proofs.YtmmlffffphgjbaaDoor
