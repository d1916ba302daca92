/- The tables that are known. -/
import Derived.WalkKit
namespace Go.Proofs.Ytfppilpaaoklaaa
open Go
def globs : Nat → Option (List Value) := fun _ => none
theorem globs_eq {g : Nat} : globs g = none := rfl
class NoGlobs : Prop where
  none : ∀ g vs, globs g = some vs → False
instance : NoGlobs := ⟨fun g vs h => by cases h⟩
end Go.Proofs.Ytfppilpaaoklaaa
