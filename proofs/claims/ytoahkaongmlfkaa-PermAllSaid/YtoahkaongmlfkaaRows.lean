/-
  No cell of these rows narrows 'for every input' (looked for: loops, veiled, ifaces, maps, wideKeys, modest, calm, conditions, laid).
  DERIVED. THE GIVEN ROWS OF THIS SEAT. 7 by the template 'for every input the law returns true; each argument reads behind the call as it read before'; 0 by the template 'total and deterministic' (their statements: YtoahkaongmlfkaaTotals.lean).
  GIVEN WITH THE SEED: the statements are not yours to turn. If you find one false, say at which input.
  Laid BY PROGRAM, IN A SANDBOX (cutbox-rows.mjs): the forced cells as the released guide's own fill.sh prints them over the translation d8d909f72796e480… (all of the seat's roots in one cut). By AI agents, Wed Nov 11 2026. No macro, syntax, notation, axiom, sorry.
-/
import Derived.Test.YtoahkaongmlfkaaChecked
import GoSem.Claim
import GoSem.ClaimJoined
import GoSem.ClaimMapViews
import Derived.JoinedTies
import Derived.KernelRfl
namespace Go.Proofs.Ytoahkaongmlfkaa
/- THE CELL 'sum', in the pinned program and in every row, IS THE sha256 OF THE DUMP (.gsa) THAT YtoahkaongmlfkaaProg.lean LOADS. Nothing in Lean hashes anything: it is a label: what it is worth is what the hold of that sum in a sandbox is worth. -/
noncomputable def Try.pinned : Pinned := { name := "ytoahkaongmlfkaa", sum := "d8d909f72796e4803deff4165cc28a5d2b4ebfaa49ba48b728a6c06fb021df2b", checked := Try.checked }
namespace Rows
def none {H : Type} : Left H := { results := [], args := [] }

/-- 'shallotlaw11.PermDoes': WHATEVER THE INPUT: true; the input reads as it did. -/
def permDoesSpec : ChangeSpec := { name := "permDoes", fn := fun _ => fun
  | [d1, d2] => { results := [.lit (.bool true)], args := [d1, d2] }
  | _ => none }
def permDoesRow : OpenClaim := { program := "ytoahkaongmlfkaa", sum := "d8d909f72796e4803deff4165cc28a5d2b4ebfaa49ba48b728a6c06fb021df2b", func := "shallot/shallotlaw11.PermDoes", spec := "permDoes", unfollowed := true, recurses := true, apart := false }
def PermDoesSaid : Prop := permDoesRow.holds Try.pinned (OpenSpec.ofChange permDoesSpec)

/-- ITS FALSE NEIGHBOUR: 'it returns false'. Refute it at one input. -/
def permDoesWrong : ChangeSpec := { name := "permDoes", fn := fun _ => fun
  | [d1, d2] => { results := [.lit (.bool false)], args := [d1, d2] }
  | _ => none }
def PermDoesWrongFalsely : Prop := permDoesRow.holds Try.pinned (OpenSpec.ofChange permDoesWrong)

/-- 'shallotlaw11.PermTurns': WHATEVER THE INPUT: true; the input reads as it did. -/
def permTurnsSpec : ChangeSpec := { name := "permTurns", fn := fun _ => fun
  | [d1, d2] => { results := [.lit (.bool true)], args := [d1, d2] }
  | _ => none }
def permTurnsRow : OpenClaim := { program := "ytoahkaongmlfkaa", sum := "d8d909f72796e4803deff4165cc28a5d2b4ebfaa49ba48b728a6c06fb021df2b", func := "shallot/shallotlaw11.PermTurns", spec := "permTurns", unfollowed := true, recurses := true, apart := false }
def PermTurnsSaid : Prop := permTurnsRow.holds Try.pinned (OpenSpec.ofChange permTurnsSpec)

/-- ITS FALSE NEIGHBOUR: 'it returns false'. Refute it at one input. -/
def permTurnsWrong : ChangeSpec := { name := "permTurns", fn := fun _ => fun
  | [d1, d2] => { results := [.lit (.bool false)], args := [d1, d2] }
  | _ => none }
def PermTurnsWrongFalsely : Prop := permTurnsRow.holds Try.pinned (OpenSpec.ofChange permTurnsWrong)

/-- 'shallotlaw11.PermRight': WHATEVER THE INPUT: true; the input reads as it did. -/
def permRightSpec : ChangeSpec := { name := "permRight", fn := fun _ => fun
  | [d1, d2] => { results := [.lit (.bool true)], args := [d1, d2] }
  | _ => none }
def permRightRow : OpenClaim := { program := "ytoahkaongmlfkaa", sum := "d8d909f72796e4803deff4165cc28a5d2b4ebfaa49ba48b728a6c06fb021df2b", func := "shallot/shallotlaw11.PermRight", spec := "permRight", unfollowed := true, recurses := true, apart := false }
def PermRightSaid : Prop := permRightRow.holds Try.pinned (OpenSpec.ofChange permRightSpec)

/-- ITS FALSE NEIGHBOUR: 'it returns false'. Refute it at one input. -/
def permRightWrong : ChangeSpec := { name := "permRight", fn := fun _ => fun
  | [d1, d2] => { results := [.lit (.bool false)], args := [d1, d2] }
  | _ => none }
def PermRightWrongFalsely : Prop := permRightRow.holds Try.pinned (OpenSpec.ofChange permRightWrong)

/-- 'shallotlaw11.PermBack': WHATEVER THE INPUT: true; the input reads as it did. -/
def permBackSpec : ChangeSpec := { name := "permBack", fn := fun _ => fun
  | [d1, d2] => { results := [.lit (.bool true)], args := [d1, d2] }
  | _ => none }
def permBackRow : OpenClaim := { program := "ytoahkaongmlfkaa", sum := "d8d909f72796e4803deff4165cc28a5d2b4ebfaa49ba48b728a6c06fb021df2b", func := "shallot/shallotlaw11.PermBack", spec := "permBack", unfollowed := true, recurses := true, apart := false }
def PermBackSaid : Prop := permBackRow.holds Try.pinned (OpenSpec.ofChange permBackSpec)

/-- ITS FALSE NEIGHBOUR: 'it returns false'. Refute it at one input. -/
def permBackWrong : ChangeSpec := { name := "permBack", fn := fun _ => fun
  | [d1, d2] => { results := [.lit (.bool false)], args := [d1, d2] }
  | _ => none }
def PermBackWrongFalsely : Prop := permBackRow.holds Try.pinned (OpenSpec.ofChange permBackWrong)

/-- 'shallotlaw11.PermAll': WHATEVER THE INPUT: true; the input reads as it did. -/
def permAllSpec : ChangeSpec := { name := "permAll", fn := fun _ => fun
  | [d] => { results := [.lit (.bool true)], args := [d] }
  | _ => none }
def permAllRow : OpenClaim := { program := "ytoahkaongmlfkaa", sum := "d8d909f72796e4803deff4165cc28a5d2b4ebfaa49ba48b728a6c06fb021df2b", func := "shallot/shallotlaw11.PermAll", spec := "permAll", unfollowed := true, recurses := true, apart := false }
def PermAllSaid : Prop := permAllRow.holds Try.pinned (OpenSpec.ofChange permAllSpec)

/-- ITS FALSE NEIGHBOUR: 'it returns false'. Refute it at one input. -/
def permAllWrong : ChangeSpec := { name := "permAll", fn := fun _ => fun
  | [d] => { results := [.lit (.bool false)], args := [d] }
  | _ => none }
def PermAllWrongFalsely : Prop := permAllRow.holds Try.pinned (OpenSpec.ofChange permAllWrong)

/-- 'shallotlaw11.PermDraws': WHATEVER THE INPUT: true; the input reads as it did. -/
def permDrawsSpec : ChangeSpec := { name := "permDraws", fn := fun _ => fun
  | [d1, d2, d3, d4] => { results := [.lit (.bool true)], args := [d1, d2, d3, d4] }
  | _ => none }
def permDrawsRow : OpenClaim := { program := "ytoahkaongmlfkaa", sum := "d8d909f72796e4803deff4165cc28a5d2b4ebfaa49ba48b728a6c06fb021df2b", func := "shallot/shallotlaw11.PermDraws", spec := "permDraws", unfollowed := true, recurses := true, apart := false }
def PermDrawsSaid : Prop := permDrawsRow.holds Try.pinned (OpenSpec.ofChange permDrawsSpec)

/-- ITS FALSE NEIGHBOUR: 'it returns false'. Refute it at one input. -/
def permDrawsWrong : ChangeSpec := { name := "permDraws", fn := fun _ => fun
  | [d1, d2, d3, d4] => { results := [.lit (.bool false)], args := [d1, d2, d3, d4] }
  | _ => none }
def PermDrawsWrongFalsely : Prop := permDrawsRow.holds Try.pinned (OpenSpec.ofChange permDrawsWrong)

/-- 'shallotlaw11.PermPlaces': WHATEVER THE INPUT: true; the input reads as it did. -/
def permPlacesSpec : ChangeSpec := { name := "permPlaces", fn := fun _ => fun
  | [d] => { results := [.lit (.bool true)], args := [d] }
  | _ => none }
def permPlacesRow : OpenClaim := { program := "ytoahkaongmlfkaa", sum := "d8d909f72796e4803deff4165cc28a5d2b4ebfaa49ba48b728a6c06fb021df2b", func := "shallot/shallotlaw11.PermPlaces", spec := "permPlaces", unfollowed := true, recurses := true, apart := false }
def PermPlacesSaid : Prop := permPlacesRow.holds Try.pinned (OpenSpec.ofChange permPlacesSpec)

/-- ITS FALSE NEIGHBOUR: 'it returns false'. Refute it at one input. -/
def permPlacesWrong : ChangeSpec := { name := "permPlaces", fn := fun _ => fun
  | [d] => { results := [.lit (.bool false)], args := [d] }
  | _ => none }
def PermPlacesWrongFalsely : Prop := permPlacesRow.holds Try.pinned (OpenSpec.ofChange permPlacesWrong)

/- THE SECOND FORM. 'bulk': how many values and letters a reading holds, each counted each time it is reached (what is shared counts as often as it is met; a slice's spare places count too). A statement '..UptoSaid' is the law's where the arguments, and the package variables that the reading takes, are together of bulk at most 1048576: NARROWER than '..Said'. Prove '..Said' where nothing that the law and all that it calls make is longer than what came in: it says more and counts as full. Else prove '..UptoSaid'. A law counts once. -/
mutual
def uptoBulk {H : Type} : DataW H → Nat
  | .lit (.string bytes) => bytes.length + 1
  | .lit _ => 1
  | .nil => 1
  | .ptr d => uptoBulk d + 1
  | .slice elems spare => uptoBulkAll elems + uptoBulkAll spare + 1
  | .agg parts => uptoBulkAll parts + 1
  | .iface _ d => uptoBulk d + 1
  | .map entries => uptoBulkEntries entries + 1
  | .held _ => 1
def uptoBulkAll {H : Type} : List (DataW H) → Nat
  | [] => 0
  | d :: r => uptoBulk d + uptoBulkAll r
def uptoBulkEntries {H : Type} : List (Lit × DataW H) → Nat
  | [] => 0
  | x :: r => uptoBulkEntry x + uptoBulkEntries r
def uptoBulkEntry {H : Type} : Lit × DataW H → Nat
  | (.string bytes, d) => bytes.length + uptoBulk d + 1
  | (_, d) => uptoBulk d + 1
 end
def uptoSmall : (H : Type) → List (DataW H) → Bool := fun _ ds => decide (uptoBulkAll ds ≤ 1048576)
def OpenSpec.upto (s : _root_.Go.ChangeSpec) : _root_.Go.OpenSpec := { _root_.Go.OpenSpec.ofChange s with cond := some uptoSmall }

/-- 'shallotlaw11.PermDoes', WHERE WHAT IT READS IS OF BULK AT MOST 1048576: true; the input reads as it did. -/
def permDoesUptoRow : OpenClaim := { program := "ytoahkaongmlfkaa", sum := "d8d909f72796e4803deff4165cc28a5d2b4ebfaa49ba48b728a6c06fb021df2b", func := "shallot/shallotlaw11.PermDoes", spec := "permDoes", unfollowed := true, recurses := true, apart := false, narrowed := true }
def PermDoesUptoSaid : Prop := permDoesUptoRow.holds Try.pinned (OpenSpec.upto permDoesSpec)

/-- 'shallotlaw11.PermTurns', WHERE WHAT IT READS IS OF BULK AT MOST 1048576: true; the input reads as it did. -/
def permTurnsUptoRow : OpenClaim := { program := "ytoahkaongmlfkaa", sum := "d8d909f72796e4803deff4165cc28a5d2b4ebfaa49ba48b728a6c06fb021df2b", func := "shallot/shallotlaw11.PermTurns", spec := "permTurns", unfollowed := true, recurses := true, apart := false, narrowed := true }
def PermTurnsUptoSaid : Prop := permTurnsUptoRow.holds Try.pinned (OpenSpec.upto permTurnsSpec)

/-- 'shallotlaw11.PermRight', WHERE WHAT IT READS IS OF BULK AT MOST 1048576: true; the input reads as it did. -/
def permRightUptoRow : OpenClaim := { program := "ytoahkaongmlfkaa", sum := "d8d909f72796e4803deff4165cc28a5d2b4ebfaa49ba48b728a6c06fb021df2b", func := "shallot/shallotlaw11.PermRight", spec := "permRight", unfollowed := true, recurses := true, apart := false, narrowed := true }
def PermRightUptoSaid : Prop := permRightUptoRow.holds Try.pinned (OpenSpec.upto permRightSpec)

/-- 'shallotlaw11.PermBack', WHERE WHAT IT READS IS OF BULK AT MOST 1048576: true; the input reads as it did. -/
def permBackUptoRow : OpenClaim := { program := "ytoahkaongmlfkaa", sum := "d8d909f72796e4803deff4165cc28a5d2b4ebfaa49ba48b728a6c06fb021df2b", func := "shallot/shallotlaw11.PermBack", spec := "permBack", unfollowed := true, recurses := true, apart := false, narrowed := true }
def PermBackUptoSaid : Prop := permBackUptoRow.holds Try.pinned (OpenSpec.upto permBackSpec)

/-- 'shallotlaw11.PermAll', WHERE WHAT IT READS IS OF BULK AT MOST 1048576: true; the input reads as it did. -/
def permAllUptoRow : OpenClaim := { program := "ytoahkaongmlfkaa", sum := "d8d909f72796e4803deff4165cc28a5d2b4ebfaa49ba48b728a6c06fb021df2b", func := "shallot/shallotlaw11.PermAll", spec := "permAll", unfollowed := true, recurses := true, apart := false, narrowed := true }
def PermAllUptoSaid : Prop := permAllUptoRow.holds Try.pinned (OpenSpec.upto permAllSpec)

/-- 'shallotlaw11.PermDraws', WHERE WHAT IT READS IS OF BULK AT MOST 1048576: true; the input reads as it did. -/
def permDrawsUptoRow : OpenClaim := { program := "ytoahkaongmlfkaa", sum := "d8d909f72796e4803deff4165cc28a5d2b4ebfaa49ba48b728a6c06fb021df2b", func := "shallot/shallotlaw11.PermDraws", spec := "permDraws", unfollowed := true, recurses := true, apart := false, narrowed := true }
def PermDrawsUptoSaid : Prop := permDrawsUptoRow.holds Try.pinned (OpenSpec.upto permDrawsSpec)

/-- 'shallotlaw11.PermPlaces', WHERE WHAT IT READS IS OF BULK AT MOST 1048576: true; the input reads as it did. -/
def permPlacesUptoRow : OpenClaim := { program := "ytoahkaongmlfkaa", sum := "d8d909f72796e4803deff4165cc28a5d2b4ebfaa49ba48b728a6c06fb021df2b", func := "shallot/shallotlaw11.PermPlaces", spec := "permPlaces", unfollowed := true, recurses := true, apart := false, narrowed := true }
def PermPlacesUptoSaid : Prop := permPlacesUptoRow.holds Try.pinned (OpenSpec.upto permPlacesSpec)

end Rows
end Go.Proofs.Ytoahkaongmlfkaa
