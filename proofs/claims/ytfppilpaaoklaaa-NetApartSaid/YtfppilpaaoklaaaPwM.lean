/- The walk over plain values: loops, with what each round hands on. -/
import Derived.Test.YtfppilpaaoklaaaPwL
namespace Go.Proofs.Ytfppilpaaoklaaa
set_option linter.unusedSimpArgs false
set_option linter.unusedVariables false
open Go Go.RowKit
variable {Γ : Ctx}

def overT (tm : List T) : List (Nat × T) → List T
  | [] => tm
  | (i, t) :: ov => overT (tm.set i t) ov
def anys : Nat → Nat → List (Nat × T) → List (Nat × T)
  | _, 0, r => r
  | a, n + 1, r => (a, .leaf .any) :: anys (a + 1) n r
/-- A loop: x: what is handed on from round to round. -/
theorem AW.loopG {k : Nat} [kk : KK Γ k] {α : Type} {P : Program} {c : Code} {Q : Exit → St → Prop} {σ0 : St} (ov : α → List (Nat × T)) (bl : α → List (Option AB)) (ms : α → Nat) (inv : α → Prop) (x0 : α) (ρ0 : List Nat) (h0 : inv x0)
    (le0 : St.le k ρ0 σ0 ⟨overT σ0.tm (ov x0), bl x0⟩) (ok : ∀ x, inv x → St.ok ⟨overT σ0.tm (ov x), bl x⟩)
    (round : ∀ x, inv x → AW Γ P c (thenS (fun σ' => ∃ ρ y, ms y < ms x ∧ inv y ∧ St.le k ρ σ' ⟨overT σ0.tm (ov y), bl y⟩) Q) ⟨overT σ0.tm (ov x), bl x⟩) : AW Γ P (.loop c) Q σ0 := by
  refine AW.weak ρ0 le0 (ok x0 h0) ?_
  refine AW.loop (fun n σ => ∃ x, inv x ∧ n = ms x ∧ σ = ⟨overT σ0.tm (ov x), bl x⟩) (ms x0) ⟨x0, h0, rfl, rfl⟩ ?_
  rintro n σ ⟨x, hx, rfl, rfl⟩
  intro w0 a w H
  refine wpG_mono (round x hx w0 a w H) fun e a' w' ⟨σ', h1, h2⟩ => ?_
  cases e with
  | normal =>
    obtain ⟨ρ, y, k1, k2, k3⟩ := h1
    exact ⟨⟨overT σ0.tm (ov y), bl y⟩, ⟨ms y, k1, y, k2, rfl, rfl⟩, h2.le k3 (ok y k2)⟩
  | _ => exact ⟨σ', h1, h2⟩
end Go.Proofs.Ytfppilpaaoklaaa
