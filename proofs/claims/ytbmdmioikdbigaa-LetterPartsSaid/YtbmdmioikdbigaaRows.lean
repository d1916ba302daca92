/-
  No cell of these rows narrows 'for every input' (looked for: loops, veiled, ifaces, maps, wideKeys, modest, calm, conditions, laid).
  DERIVED. THE GIVEN ROWS OF THIS SEAT. 5 by the template 'for every input the law returns true; each argument reads behind the call as it read before'; 0 by the template 'total and deterministic' (their statements: YtbmdmioikdbigaaTotals.lean).
  GIVEN WITH THE SEED: the statements are not yours to turn. If you find one false, say at which input.
  Laid BY PROGRAM, IN A SANDBOX (cutbox-rows.mjs): the forced cells as the released guide's own fill.sh prints them over the translation ba0089a4f4082a61… (all of the seat's roots in one cut). By AI agents, Wed Nov 11 2026. No macro, syntax, notation, axiom, sorry.
-/
import Derived.Test.YtbmdmioikdbigaaChecked
import GoSem.Claim
import GoSem.ClaimJoined
import GoSem.ClaimMapViews
import Derived.JoinedTies
import Derived.KernelRfl
namespace Go.Proofs.Ytbmdmioikdbigaa
/- THE CELL 'sum', in the pinned program and in every row, IS THE sha256 OF THE DUMP (.gsa) THAT YtbmdmioikdbigaaProg.lean LOADS. Nothing in Lean hashes anything: it is a label: what it is worth is what the hold of that sum in a sandbox is worth. -/
noncomputable def Try.pinned : Pinned := { name := "ytbmdmioikdbigaa", sum := "ba0089a4f4082a6119577d4e9a3b083be8f735678794190ac133ac6e758a556e", checked := Try.checked }
namespace Rows
def none {H : Type} : Left H := { results := [], args := [] }

/-- 'shallotlaw10.LetterTakes': WHATEVER THE INPUT: true; the input reads as it did. -/
def letterTakesSpec : ChangeSpec := { name := "letterTakes", fn := fun _ => fun
  | [d] => { results := [.lit (.bool true)], args := [d] }
  | _ => none }
def letterTakesRow : OpenClaim := { program := "ytbmdmioikdbigaa", sum := "ba0089a4f4082a6119577d4e9a3b083be8f735678794190ac133ac6e758a556e", func := "shallot/shallotlaw10.LetterTakes", spec := "letterTakes", apart := false }
def LetterTakesSaid : Prop := letterTakesRow.holds Try.pinned (OpenSpec.ofChange letterTakesSpec)

/-- ITS FALSE NEIGHBOUR: 'it returns false'. Refute it at one input. -/
def letterTakesWrong : ChangeSpec := { name := "letterTakes", fn := fun _ => fun
  | [d] => { results := [.lit (.bool false)], args := [d] }
  | _ => none }
def LetterTakesWrongFalsely : Prop := letterTakesRow.holds Try.pinned (OpenSpec.ofChange letterTakesWrong)

/-- 'shallotlaw10.LetterBack': WHATEVER THE INPUT: true; the input reads as it did. -/
def letterBackSpec : ChangeSpec := { name := "letterBack", fn := fun _ => fun
  | [d1, d2] => { results := [.lit (.bool true)], args := [d1, d2] }
  | _ => none }
def letterBackRow : OpenClaim := { program := "ytbmdmioikdbigaa", sum := "ba0089a4f4082a6119577d4e9a3b083be8f735678794190ac133ac6e758a556e", func := "shallot/shallotlaw10.LetterBack", spec := "letterBack", apart := false }
def LetterBackSaid : Prop := letterBackRow.holds Try.pinned (OpenSpec.ofChange letterBackSpec)

/-- ITS FALSE NEIGHBOUR: 'it returns false'. Refute it at one input. -/
def letterBackWrong : ChangeSpec := { name := "letterBack", fn := fun _ => fun
  | [d1, d2] => { results := [.lit (.bool false)], args := [d1, d2] }
  | _ => none }
def LetterBackWrongFalsely : Prop := letterBackRow.holds Try.pinned (OpenSpec.ofChange letterBackWrong)

/-- 'shallotlaw10.LetterParts': WHATEVER THE INPUT: true; the input reads as it did. -/
def letterPartsSpec : ChangeSpec := { name := "letterParts", fn := fun _ => fun
  | [d] => { results := [.lit (.bool true)], args := [d] }
  | _ => none }
def letterPartsRow : OpenClaim := { program := "ytbmdmioikdbigaa", sum := "ba0089a4f4082a6119577d4e9a3b083be8f735678794190ac133ac6e758a556e", func := "shallot/shallotlaw10.LetterParts", spec := "letterParts", apart := false }
def LetterPartsSaid : Prop := letterPartsRow.holds Try.pinned (OpenSpec.ofChange letterPartsSpec)

/-- ITS FALSE NEIGHBOUR: 'it returns false'. Refute it at one input. -/
def letterPartsWrong : ChangeSpec := { name := "letterParts", fn := fun _ => fun
  | [d] => { results := [.lit (.bool false)], args := [d] }
  | _ => none }
def LetterPartsWrongFalsely : Prop := letterPartsRow.holds Try.pinned (OpenSpec.ofChange letterPartsWrong)

/-- 'shallotlaw10.LetterOne': WHATEVER THE INPUT: true; the input reads as it did. -/
def letterOneSpec : ChangeSpec := { name := "letterOne", fn := fun _ => fun
  | [d1, d2] => { results := [.lit (.bool true)], args := [d1, d2] }
  | _ => none }
def letterOneRow : OpenClaim := { program := "ytbmdmioikdbigaa", sum := "ba0089a4f4082a6119577d4e9a3b083be8f735678794190ac133ac6e758a556e", func := "shallot/shallotlaw10.LetterOne", spec := "letterOne", apart := false }
def LetterOneSaid : Prop := letterOneRow.holds Try.pinned (OpenSpec.ofChange letterOneSpec)

/-- ITS FALSE NEIGHBOUR: 'it returns false'. Refute it at one input. -/
def letterOneWrong : ChangeSpec := { name := "letterOne", fn := fun _ => fun
  | [d1, d2] => { results := [.lit (.bool false)], args := [d1, d2] }
  | _ => none }
def LetterOneWrongFalsely : Prop := letterOneRow.holds Try.pinned (OpenSpec.ofChange letterOneWrong)

/-- 'shallotlaw10.LetterCuts': WHATEVER THE INPUT: true; the input reads as it did. -/
def letterCutsSpec : ChangeSpec := { name := "letterCuts", fn := fun _ => fun
  | [d1, d2, d3] => { results := [.lit (.bool true)], args := [d1, d2, d3] }
  | _ => none }
def letterCutsRow : OpenClaim := { program := "ytbmdmioikdbigaa", sum := "ba0089a4f4082a6119577d4e9a3b083be8f735678794190ac133ac6e758a556e", func := "shallot/shallotlaw10.LetterCuts", spec := "letterCuts", apart := false }
def LetterCutsSaid : Prop := letterCutsRow.holds Try.pinned (OpenSpec.ofChange letterCutsSpec)

/-- ITS FALSE NEIGHBOUR: 'it returns false'. Refute it at one input. -/
def letterCutsWrong : ChangeSpec := { name := "letterCuts", fn := fun _ => fun
  | [d1, d2, d3] => { results := [.lit (.bool false)], args := [d1, d2, d3] }
  | _ => none }
def LetterCutsWrongFalsely : Prop := letterCutsRow.holds Try.pinned (OpenSpec.ofChange letterCutsWrong)

/- THE SECOND FORM. 'bulk': how many values and letters a reading holds, each counted each time it is reached (what is shared counts as often as it is met; a slice's spare places count too). A statement '..UptoSaid' is the law's where the arguments, and the package variables that the reading takes, are together of bulk at most 1048576: NARROWER than '..Said'. Prove '..Said' where nothing that the law and all that it calls make is longer than what came in: it says more and counts as full. Else prove '..UptoSaid'. A law counts once. -/
mutual
def uptoBulk {H : Type} : DataW H → Nat
  | .lit (.string bytes) => bytes.length + 1
  | .lit _ => 1
  | .nil => 1
  | .ptr d => uptoBulk d + 1
  | .slice elems spare => uptoBulkAll elems + uptoBulkAll spare + 1
  | .agg parts => uptoBulkAll parts + 1
  | .iface _ d => uptoBulk d + 1
  | .map entries => uptoBulkEntries entries + 1
  | .held _ => 1
def uptoBulkAll {H : Type} : List (DataW H) → Nat
  | [] => 0
  | d :: r => uptoBulk d + uptoBulkAll r
def uptoBulkEntries {H : Type} : List (Lit × DataW H) → Nat
  | [] => 0
  | x :: r => uptoBulkEntry x + uptoBulkEntries r
def uptoBulkEntry {H : Type} : Lit × DataW H → Nat
  | (.string bytes, d) => bytes.length + uptoBulk d + 1
  | (_, d) => uptoBulk d + 1
 end
def uptoSmall : (H : Type) → List (DataW H) → Bool := fun _ ds => decide (uptoBulkAll ds ≤ 1048576)
def OpenSpec.upto (s : _root_.Go.ChangeSpec) : _root_.Go.OpenSpec := { _root_.Go.OpenSpec.ofChange s with cond := some uptoSmall }

/-- 'shallotlaw10.LetterTakes', WHERE WHAT IT READS IS OF BULK AT MOST 1048576: true; the input reads as it did. -/
def letterTakesUptoRow : OpenClaim := { program := "ytbmdmioikdbigaa", sum := "ba0089a4f4082a6119577d4e9a3b083be8f735678794190ac133ac6e758a556e", func := "shallot/shallotlaw10.LetterTakes", spec := "letterTakes", apart := false, narrowed := true }
def LetterTakesUptoSaid : Prop := letterTakesUptoRow.holds Try.pinned (OpenSpec.upto letterTakesSpec)

/-- 'shallotlaw10.LetterBack', WHERE WHAT IT READS IS OF BULK AT MOST 1048576: true; the input reads as it did. -/
def letterBackUptoRow : OpenClaim := { program := "ytbmdmioikdbigaa", sum := "ba0089a4f4082a6119577d4e9a3b083be8f735678794190ac133ac6e758a556e", func := "shallot/shallotlaw10.LetterBack", spec := "letterBack", apart := false, narrowed := true }
def LetterBackUptoSaid : Prop := letterBackUptoRow.holds Try.pinned (OpenSpec.upto letterBackSpec)

/-- 'shallotlaw10.LetterParts', WHERE WHAT IT READS IS OF BULK AT MOST 1048576: true; the input reads as it did. -/
def letterPartsUptoRow : OpenClaim := { program := "ytbmdmioikdbigaa", sum := "ba0089a4f4082a6119577d4e9a3b083be8f735678794190ac133ac6e758a556e", func := "shallot/shallotlaw10.LetterParts", spec := "letterParts", apart := false, narrowed := true }
def LetterPartsUptoSaid : Prop := letterPartsUptoRow.holds Try.pinned (OpenSpec.upto letterPartsSpec)

/-- 'shallotlaw10.LetterOne', WHERE WHAT IT READS IS OF BULK AT MOST 1048576: true; the input reads as it did. -/
def letterOneUptoRow : OpenClaim := { program := "ytbmdmioikdbigaa", sum := "ba0089a4f4082a6119577d4e9a3b083be8f735678794190ac133ac6e758a556e", func := "shallot/shallotlaw10.LetterOne", spec := "letterOne", apart := false, narrowed := true }
def LetterOneUptoSaid : Prop := letterOneUptoRow.holds Try.pinned (OpenSpec.upto letterOneSpec)

/-- 'shallotlaw10.LetterCuts', WHERE WHAT IT READS IS OF BULK AT MOST 1048576: true; the input reads as it did. -/
def letterCutsUptoRow : OpenClaim := { program := "ytbmdmioikdbigaa", sum := "ba0089a4f4082a6119577d4e9a3b083be8f735678794190ac133ac6e758a556e", func := "shallot/shallotlaw10.LetterCuts", spec := "letterCuts", apart := false, narrowed := true }
def LetterCutsUptoSaid : Prop := letterCutsUptoRow.holds Try.pinned (OpenSpec.upto letterCutsSpec)

end Rows
end Go.Proofs.Ytbmdmioikdbigaa
