/- The tables that are known. -/
import Derived.WalkKit
namespace Go.Proofs.Ytgjkbihjpgppbaa
open Go
def globs : Nat → Option (List Value) := fun _ => none
class NoGlobs : Prop where
  none : ∀ g vs, globs g = some vs → False
instance : NoGlobs := ⟨fun g vs h => by cases h⟩
end Go.Proofs.Ytgjkbihjpgppbaa
