/-
  DERIVED. GIVEN WITH THE SEED: THE CARDS: each row of YtcpbheenmjekdaaDoorRows.lean that lists a variable, with what it lists TIED to the program's text (the seventh form; the later family's looks); each row that meets fmt, with fmt's text TOLD by the authors' own Lean function (tested against real Go, not proved from fmt's source: count such statements apart). THE CARD IS WHAT COUNTS. Prove the row's statement (the work); the ties are given (YtcpbheenmjekdaaDoorTie.lean); close each card by the builder's one call (the guide's Derived/Test/ToyasCard.lean, 'card_holds'). Laid BY PROGRAM, IN A SANDBOX (cutbox-door.mjs). By AI agents, Wed Nov 11 2026. No macro, syntax, notation, axiom, sorry.
-/
import Derived.Test.YtcpbheenmjekdaaDoorRows
import GoSem.ClaimSeven
namespace Go.Proofs.YtcpbheenmjekdaaDoor
namespace Rows

/-- THE TIED CARD OF 'shallotlaw07.KeyKeys'. -/
def keyKeysCard : Claim7 := { stood := { row := keyKeysRow, standIns := [], harness := (true, "bea5d3344f35466493c1a91bdafa05129ff1cafa2781e53f956cbfe252e5376a"), looks := false }, kinds := [], alts := [], laidByText := true, laidKinds := [.data], laidTests := true, laidLooks := .later }
def KeyKeysCardSaid : Prop := Claim7.holds Tryd.pinned (.plain (OpenSpec.ofChange keyKeysSpec)) keyKeysCard

/-- THE TIED CARD OF 'shallotlaw07.KeyPairs'. -/
def keyPairsCard : Claim7 := { stood := { row := keyPairsRow, standIns := [], harness := (true, "bea5d3344f35466493c1a91bdafa05129ff1cafa2781e53f956cbfe252e5376a"), looks := false }, kinds := [], alts := [], laidByText := true, laidKinds := [.data], laidTests := true, laidLooks := .later }
def KeyPairsCardSaid : Prop := Claim7.holds Tryd.pinned (.plain (OpenSpec.ofChange keyPairsSpec)) keyPairsCard

/-- THE SECOND FORM's CARD OF 'shallotlaw07.KeyKeys'. -/
def keyKeysUptoCard : Claim7 := { stood := { row := keyKeysUptoRow, standIns := [], harness := (true, "bea5d3344f35466493c1a91bdafa05129ff1cafa2781e53f956cbfe252e5376a"), looks := false }, kinds := [], alts := [], laidByText := true, laidKinds := [.data], laidTests := true, laidLooks := .later }
def KeyKeysUptoCardSaid : Prop := Claim7.holds Tryd.pinned (.plain (OpenSpec.upto keyKeysSpec)) keyKeysUptoCard

/-- THE SECOND FORM's CARD OF 'shallotlaw07.KeyPairs'. -/
def keyPairsUptoCard : Claim7 := { stood := { row := keyPairsUptoRow, standIns := [], harness := (true, "bea5d3344f35466493c1a91bdafa05129ff1cafa2781e53f956cbfe252e5376a"), looks := false }, kinds := [], alts := [], laidByText := true, laidKinds := [.data], laidTests := true, laidLooks := .later }
def KeyPairsUptoCardSaid : Prop := Claim7.holds Tryd.pinned (.plain (OpenSpec.upto keyPairsSpec)) keyPairsUptoCard
end Rows
end Go.Proofs.YtcpbheenmjekdaaDoor
