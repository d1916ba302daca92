/-
  No cell of these rows narrows 'for every input' (looked for: loops, veiled, ifaces, maps, wideKeys, modest, calm, conditions, laid).
  DERIVED. THE GIVEN ROWS OF THIS SEAT. 6 by the template 'for every input the law returns true; each argument reads behind the call as it read before'; 0 by the template 'total and deterministic' (their statements: YtgjkbihjpgppbaaTotals.lean).
  GIVEN WITH THE SEED: the statements are not yours to turn. If you find one false, say at which input.
  Laid BY PROGRAM, IN A SANDBOX (cutbox-rows.mjs): the forced cells as the released guide's own fill.sh prints them over the translation c6d8dfef321b0544… (all of the seat's roots in one cut). By AI agents, Wed Nov 11 2026. No macro, syntax, notation, axiom, sorry.
-/
import Derived.Test.YtgjkbihjpgppbaaChecked
import GoSem.Claim
import GoSem.ClaimJoined
import GoSem.ClaimMapViews
import Derived.JoinedTies
import Derived.KernelRfl
namespace Go.Proofs.Ytgjkbihjpgppbaa
/- THE CELL 'sum', in the pinned program and in every row, IS THE sha256 OF THE DUMP (.gsa) THAT YtgjkbihjpgppbaaProg.lean LOADS. Nothing in Lean hashes anything: it is a label: what it is worth is what the hold of that sum in a sandbox is worth. -/
noncomputable def Try.pinned : Pinned := { name := "ytgjkbihjpgppbaa", sum := "c6d8dfef321b05444e2310a848193ba4673400dde6bfebc81400d2c7719ed28d", checked := Try.checked }
namespace Rows
def none {H : Type} : Left H := { results := [], args := [] }

/-- 'shallotlaw06.NoteTells': WHATEVER THE INPUT: true; the input reads as it did. -/
def noteTellsSpec : ChangeSpec := { name := "noteTells", fn := fun _ => fun
  | [d1, d2] => { results := [.lit (.bool true)], args := [d1, d2] }
  | _ => none }
def noteTellsRow : OpenClaim := { program := "ytgjkbihjpgppbaa", sum := "c6d8dfef321b05444e2310a848193ba4673400dde6bfebc81400d2c7719ed28d", func := "shallot/shallotlaw06.NoteTells", spec := "noteTells", unfollowed := true, recurses := true, apart := false }
def NoteTellsSaid : Prop := noteTellsRow.holds Try.pinned (OpenSpec.ofChange noteTellsSpec)

/-- ITS FALSE NEIGHBOUR: 'it returns false'. Refute it at one input. -/
def noteTellsWrong : ChangeSpec := { name := "noteTells", fn := fun _ => fun
  | [d1, d2] => { results := [.lit (.bool false)], args := [d1, d2] }
  | _ => none }
def NoteTellsWrongFalsely : Prop := noteTellsRow.holds Try.pinned (OpenSpec.ofChange noteTellsWrong)

/-- 'shallotlaw06.NoteTakes': WHATEVER THE INPUT: true; the input reads as it did. -/
def noteTakesSpec : ChangeSpec := { name := "noteTakes", fn := fun _ => fun
  | [d] => { results := [.lit (.bool true)], args := [d] }
  | _ => none }
def noteTakesRow : OpenClaim := { program := "ytgjkbihjpgppbaa", sum := "c6d8dfef321b05444e2310a848193ba4673400dde6bfebc81400d2c7719ed28d", func := "shallot/shallotlaw06.NoteTakes", spec := "noteTakes", apart := false }
def NoteTakesSaid : Prop := noteTakesRow.holds Try.pinned (OpenSpec.ofChange noteTakesSpec)

/-- ITS FALSE NEIGHBOUR: 'it returns false'. Refute it at one input. -/
def noteTakesWrong : ChangeSpec := { name := "noteTakes", fn := fun _ => fun
  | [d] => { results := [.lit (.bool false)], args := [d] }
  | _ => none }
def NoteTakesWrongFalsely : Prop := noteTakesRow.holds Try.pinned (OpenSpec.ofChange noteTakesWrong)

/-- 'shallotlaw06.NoteBack': WHATEVER THE INPUT: true; the input reads as it did. -/
def noteBackSpec : ChangeSpec := { name := "noteBack", fn := fun _ => fun
  | [d1, d2] => { results := [.lit (.bool true)], args := [d1, d2] }
  | _ => none }
def noteBackRow : OpenClaim := { program := "ytgjkbihjpgppbaa", sum := "c6d8dfef321b05444e2310a848193ba4673400dde6bfebc81400d2c7719ed28d", func := "shallot/shallotlaw06.NoteBack", spec := "noteBack", unfollowed := true, recurses := true, apart := false }
def NoteBackSaid : Prop := noteBackRow.holds Try.pinned (OpenSpec.ofChange noteBackSpec)

/-- ITS FALSE NEIGHBOUR: 'it returns false'. Refute it at one input. -/
def noteBackWrong : ChangeSpec := { name := "noteBack", fn := fun _ => fun
  | [d1, d2] => { results := [.lit (.bool false)], args := [d1, d2] }
  | _ => none }
def NoteBackWrongFalsely : Prop := noteBackRow.holds Try.pinned (OpenSpec.ofChange noteBackWrong)

/-- 'shallotlaw06.NoteCuts': WHATEVER THE INPUT: true; the input reads as it did. -/
def noteCutsSpec : ChangeSpec := { name := "noteCuts", fn := fun _ => fun
  | [d1, d2, d3] => { results := [.lit (.bool true)], args := [d1, d2, d3] }
  | _ => none }
def noteCutsRow : OpenClaim := { program := "ytgjkbihjpgppbaa", sum := "c6d8dfef321b05444e2310a848193ba4673400dde6bfebc81400d2c7719ed28d", func := "shallot/shallotlaw06.NoteCuts", spec := "noteCuts", apart := false }
def NoteCutsSaid : Prop := noteCutsRow.holds Try.pinned (OpenSpec.ofChange noteCutsSpec)

/-- ITS FALSE NEIGHBOUR: 'it returns false'. Refute it at one input. -/
def noteCutsWrong : ChangeSpec := { name := "noteCuts", fn := fun _ => fun
  | [d1, d2, d3] => { results := [.lit (.bool false)], args := [d1, d2, d3] }
  | _ => none }
def NoteCutsWrongFalsely : Prop := noteCutsRow.holds Try.pinned (OpenSpec.ofChange noteCutsWrong)

/-- 'shallotlaw06.NoteSize': WHATEVER THE INPUT: true; the input reads as it did. -/
def noteSizeSpec : ChangeSpec := { name := "noteSize", fn := fun _ => fun
  | [d] => { results := [.lit (.bool true)], args := [d] }
  | _ => none }
def noteSizeRow : OpenClaim := { program := "ytgjkbihjpgppbaa", sum := "c6d8dfef321b05444e2310a848193ba4673400dde6bfebc81400d2c7719ed28d", func := "shallot/shallotlaw06.NoteSize", spec := "noteSize", apart := false }
def NoteSizeSaid : Prop := noteSizeRow.holds Try.pinned (OpenSpec.ofChange noteSizeSpec)

/-- ITS FALSE NEIGHBOUR: 'it returns false'. Refute it at one input. -/
def noteSizeWrong : ChangeSpec := { name := "noteSize", fn := fun _ => fun
  | [d] => { results := [.lit (.bool false)], args := [d] }
  | _ => none }
def NoteSizeWrongFalsely : Prop := noteSizeRow.holds Try.pinned (OpenSpec.ofChange noteSizeWrong)

/-- 'shallotlaw06.NoteKinds': WHATEVER THE INPUT: true; the input reads as it did. -/
def noteKindsSpec : ChangeSpec := { name := "noteKinds", fn := fun _ => fun
  | [d1, d2, d3, d4] => { results := [.lit (.bool true)], args := [d1, d2, d3, d4] }
  | _ => none }
def noteKindsRow : OpenClaim := { program := "ytgjkbihjpgppbaa", sum := "c6d8dfef321b05444e2310a848193ba4673400dde6bfebc81400d2c7719ed28d", func := "shallot/shallotlaw06.NoteKinds", spec := "noteKinds", apart := false }
def NoteKindsSaid : Prop := noteKindsRow.holds Try.pinned (OpenSpec.ofChange noteKindsSpec)

/-- ITS FALSE NEIGHBOUR: 'it returns false'. Refute it at one input. -/
def noteKindsWrong : ChangeSpec := { name := "noteKinds", fn := fun _ => fun
  | [d1, d2, d3, d4] => { results := [.lit (.bool false)], args := [d1, d2, d3, d4] }
  | _ => none }
def NoteKindsWrongFalsely : Prop := noteKindsRow.holds Try.pinned (OpenSpec.ofChange noteKindsWrong)

/- THE SECOND FORM. 'bulk': how many values and letters a reading holds, each counted each time it is reached (what is shared counts as often as it is met; a slice's spare places count too). A statement '..UptoSaid' is the law's where the arguments, and the package variables that the reading takes, are together of bulk at most 1048576: NARROWER than '..Said'. Prove '..Said' where nothing that the law and all that it calls make is longer than what came in: it says more and counts as full. Else prove '..UptoSaid'. A law counts once. -/
mutual
def uptoBulk {H : Type} : DataW H → Nat
  | .lit (.string bytes) => bytes.length + 1
  | .lit _ => 1
  | .nil => 1
  | .ptr d => uptoBulk d + 1
  | .slice elems spare => uptoBulkAll elems + uptoBulkAll spare + 1
  | .agg parts => uptoBulkAll parts + 1
  | .iface _ d => uptoBulk d + 1
  | .map entries => uptoBulkEntries entries + 1
  | .held _ => 1
def uptoBulkAll {H : Type} : List (DataW H) → Nat
  | [] => 0
  | d :: r => uptoBulk d + uptoBulkAll r
def uptoBulkEntries {H : Type} : List (Lit × DataW H) → Nat
  | [] => 0
  | x :: r => uptoBulkEntry x + uptoBulkEntries r
def uptoBulkEntry {H : Type} : Lit × DataW H → Nat
  | (.string bytes, d) => bytes.length + uptoBulk d + 1
  | (_, d) => uptoBulk d + 1
 end
def uptoSmall : (H : Type) → List (DataW H) → Bool := fun _ ds => decide (uptoBulkAll ds ≤ 1048576)
def OpenSpec.upto (s : _root_.Go.ChangeSpec) : _root_.Go.OpenSpec := { _root_.Go.OpenSpec.ofChange s with cond := some uptoSmall }

/-- 'shallotlaw06.NoteTells', WHERE WHAT IT READS IS OF BULK AT MOST 1048576: true; the input reads as it did. -/
def noteTellsUptoRow : OpenClaim := { program := "ytgjkbihjpgppbaa", sum := "c6d8dfef321b05444e2310a848193ba4673400dde6bfebc81400d2c7719ed28d", func := "shallot/shallotlaw06.NoteTells", spec := "noteTells", unfollowed := true, recurses := true, apart := false, narrowed := true }
def NoteTellsUptoSaid : Prop := noteTellsUptoRow.holds Try.pinned (OpenSpec.upto noteTellsSpec)

/-- 'shallotlaw06.NoteTakes', WHERE WHAT IT READS IS OF BULK AT MOST 1048576: true; the input reads as it did. -/
def noteTakesUptoRow : OpenClaim := { program := "ytgjkbihjpgppbaa", sum := "c6d8dfef321b05444e2310a848193ba4673400dde6bfebc81400d2c7719ed28d", func := "shallot/shallotlaw06.NoteTakes", spec := "noteTakes", apart := false, narrowed := true }
def NoteTakesUptoSaid : Prop := noteTakesUptoRow.holds Try.pinned (OpenSpec.upto noteTakesSpec)

/-- 'shallotlaw06.NoteBack', WHERE WHAT IT READS IS OF BULK AT MOST 1048576: true; the input reads as it did. -/
def noteBackUptoRow : OpenClaim := { program := "ytgjkbihjpgppbaa", sum := "c6d8dfef321b05444e2310a848193ba4673400dde6bfebc81400d2c7719ed28d", func := "shallot/shallotlaw06.NoteBack", spec := "noteBack", unfollowed := true, recurses := true, apart := false, narrowed := true }
def NoteBackUptoSaid : Prop := noteBackUptoRow.holds Try.pinned (OpenSpec.upto noteBackSpec)

/-- 'shallotlaw06.NoteCuts', WHERE WHAT IT READS IS OF BULK AT MOST 1048576: true; the input reads as it did. -/
def noteCutsUptoRow : OpenClaim := { program := "ytgjkbihjpgppbaa", sum := "c6d8dfef321b05444e2310a848193ba4673400dde6bfebc81400d2c7719ed28d", func := "shallot/shallotlaw06.NoteCuts", spec := "noteCuts", apart := false, narrowed := true }
def NoteCutsUptoSaid : Prop := noteCutsUptoRow.holds Try.pinned (OpenSpec.upto noteCutsSpec)

/-- 'shallotlaw06.NoteSize', WHERE WHAT IT READS IS OF BULK AT MOST 1048576: true; the input reads as it did. -/
def noteSizeUptoRow : OpenClaim := { program := "ytgjkbihjpgppbaa", sum := "c6d8dfef321b05444e2310a848193ba4673400dde6bfebc81400d2c7719ed28d", func := "shallot/shallotlaw06.NoteSize", spec := "noteSize", apart := false, narrowed := true }
def NoteSizeUptoSaid : Prop := noteSizeUptoRow.holds Try.pinned (OpenSpec.upto noteSizeSpec)

/-- 'shallotlaw06.NoteKinds', WHERE WHAT IT READS IS OF BULK AT MOST 1048576: true; the input reads as it did. -/
def noteKindsUptoRow : OpenClaim := { program := "ytgjkbihjpgppbaa", sum := "c6d8dfef321b05444e2310a848193ba4673400dde6bfebc81400d2c7719ed28d", func := "shallot/shallotlaw06.NoteKinds", spec := "noteKinds", apart := false, narrowed := true }
def NoteKindsUptoSaid : Prop := noteKindsUptoRow.holds Try.pinned (OpenSpec.upto noteKindsSpec)

end Rows
end Go.Proofs.Ytgjkbihjpgppbaa
