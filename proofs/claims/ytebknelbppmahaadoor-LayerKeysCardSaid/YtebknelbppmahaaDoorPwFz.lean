/- A row of bytes that is the call's own, read for good from here on. -/
import Derived.Test.YtebknelbppmahaaDoorPwX
import Derived.Test.YtebknelbppmahaaDoorPwP
namespace Go.Proofs.YtebknelbppmahaaDoor
set_option linter.unusedSimpArgs false
set_option linter.unusedVariables false
open Go Go.RowKit
theorem AW.frzB {Γ : Ctx} {P : Program} {c : Code} {Q : Exit → St → Prop} {σ : St} (id : Nat) (b : List UInt8) {t : TypeId} (hab : σ.bl[id]? = some (some ⟨t, 1, bytesE b⟩)) (h : AW Γ P c Q ⟨σ.tm.map (frzT id (bytesE b)), σ.bl.set id none⟩) : AW Γ P c Q σ := by
  intro w0 a w ⟨μ, E, I, F, M⟩
  have hlt : id < σ.bl.length := (List.getElem?_eq_some_iff.1 hab).1
  have hi : σ.h id = some (some ⟨t, 1, bytesE b⟩) := hab
  obtain ⟨E1, I1⟩ := killed I hi
  have hst : hOf (σ.bl.set id none) = upd σ.h [(id, none)] := by
    have := hOf_step (bl := σ.bl) (id := id) (x := none) (Nat.le_of_lt hlt)
    rwa [if_pos hlt] at this
  refine h w0 a w ⟨μ, ?_, ?_, ⟨⟨?_, ?_⟩, fun i t' ht => ?_⟩, M⟩
  · show Ev Γ w0 (hOf (σ.bl.set id none)) μ w
    rw [hst]; exact E.trans E1
  · show Inv Γ (hOf (σ.bl.set id none)) μ w
    rw [hst]; exact I1
  · simpa using F.1.1
  · show Globs Γ (hOf (σ.bl.set id none)) μ w
    rw [hst]; exact F.1.2.evo E1
  · show RT Γ (hOf (σ.bl.set id none)) μ w t' _
    rw [hst]
    simp only [List.getElem?_map] at ht
    cases h0 : σ.tm[i]? with
    | none => rw [h0] at ht; cases ht
    | some t0 =>
      rw [h0] at ht
      simp only [Option.map_some, Option.some.injEq] at ht
      subst ht
      exact frz_RT (ab := ⟨t, 1, bytesE b⟩) I hi (bytesE_allP _) (F.2 i t0 h0)
end Go.Proofs.YtebknelbppmahaaDoor
