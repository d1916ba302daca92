/- What a pointer of the call's own points to, read for good from here on. -/
import Derived.Test.YtbcclcbmbejnmaaDoorPwX
import Derived.Test.YtbcclcbmbejnmaaDoorPwP
namespace Go.Proofs.YtbcclcbmbejnmaaDoor
set_option linter.unusedSimpArgs false
set_option linter.unusedVariables false
open Go Go.RowKit
/-- .. what a pointer points to. -/
def ptrT (id : Nat) (cs : List L) : T → T
  | .leaf (.ptr k 0 0) => if k = id then .leaf (.pp cs) else .leaf (.ptr k 0 0)
  | t => t
theorem ptr_RT {Γ : Ctx} {h : Heap} {μ : Pos} {w : World} (I : Inv Γ h μ w) {id : Nat} {ab : AB} {cs : List L} (hi : h id = some (some ab)) (hes : ab.es = [cs]) (hall : ∀ x ∈ cs, persL x = true) {t : T} {u : Value} (r : RT Γ h μ w t u) : RT Γ (upd h [(id, none)]) μ w (ptrT id cs t) u := by
  obtain ⟨E, I1⟩ := killed I hi
  have other : RT Γ (upd h [(id, none)]) μ w t u := r.evo E
  unfold ptrT
  split
  · rename_i k
    split
    · rename_i he
      subst he
      have keep : ∀ b, PerG Γ h μ w b → PerG Γ (upd h [(k, none)]) μ w b ∧ w.heap[b]? = w.heap[b]? := fun b hb => ⟨⟨E.perm hb.1, hb.2⟩, rfl⟩
      have r' : RX Γ h μ w (.ptr k 0 0) u := r
      rcases r' with hd | ⟨ab2, k1, g, hg, rfl⟩
      · rw [hi] at hd; cases hd
      · rw [hi] at k1; injection k1 with k1; injection k1 with k1; subst k1
        rcases I.at_ k ab hi with ⟨h0, r2⟩ | ⟨g', cur, hg', hw, hl', hr'⟩
        · rw [hes] at h0; cases h0
        · rw [hg] at hg'; cases hg'
          have hG : PerG Γ (upd h [(k, none)]) μ w g := by
            refine ⟨⟨(Array.getElem?_eq_some_iff.1 hw).1, fun q a hk hkg => ?_⟩, .inr (I.own k ab g hi hg)⟩
            rw [upd_one] at hk
            split at hk
            · cases hk
            · rename_i hne
              exact hne (I.inj q k a ab g hk hi hkg hg)
          have at0 : ∀ (j : Nat) (x : L), cs[j]? = some x → ∃ v, cur[j]? = some v ∧ RXc Γ h μ w x v := fun j x hx => by
            have := hr' 0 cs j x (by rw [hes]; rfl) hx
            simpa using this
          show RX Γ (upd h [(k, none)]) μ w (.pp cs) _
          refine RL.pp cs _ (fun j => cur.getD j undef) (fun j x hx => ?_) (fun j x hx => ?_) (fun j x hx => ?_) <;>
            obtain ⟨v, hv, m1, m2⟩ := at0 j x hx
          · refine ⟨by rw [show (⟨g, 0 * ab.s + 0, none⟩ : Addr).block = g from rfl]; exact hG, ?_⟩
            have hlt := (Array.getElem?_eq_some_iff.1 hv).1
            have ha : (⟨g, 0 * ab.s + 0, none⟩ : Addr).add j = ⟨g, j, none⟩ := by unfold Addr.add; split <;> simp_all
            rw [ha]
            simp [World.cell?, hw, hlt]
          · have hgd : cur.getD j undef = v := by
              have hlt := (Array.getElem?_eq_some_iff.1 hv).1
              have := (Array.getElem?_eq_some_iff.1 hv).2
              simp [hlt, this]
            rw [hgd]
            exact RL.keep keep (m2.pers (hall x (List.mem_of_getElem? hx)))
          · have hgd : cur.getD j undef = v := by
              have hlt := (Array.getElem?_eq_some_iff.1 hv).1
              have := (Array.getElem?_eq_some_iff.1 hv).2
              simp [hlt, this]
            rw [hgd]; exact m1
    · exact other
  · exact other
theorem AW.frzPtr {Γ : Ctx} {P : Program} {c : Code} {Q : Exit → St → Prop} {σ : St} (id : Nat) (cs : List L) {t : TypeId} {s : Nat} (hab : σ.bl[id]? = some (some ⟨t, s, [cs]⟩)) (hall : ∀ x ∈ cs, persL x = true) (h : AW Γ P c Q ⟨σ.tm.map (ptrT id cs), σ.bl.set id none⟩) : AW Γ P c Q σ := by
  intro w0 a w ⟨μ, E, I, F, M⟩
  have hlt : id < σ.bl.length := (List.getElem?_eq_some_iff.1 hab).1
  have hi : σ.h id = some (some ⟨t, s, [cs]⟩) := hab
  obtain ⟨E1, I1⟩ := killed I hi
  have hst : hOf (σ.bl.set id none) = upd σ.h [(id, none)] := by
    have := hOf_step (bl := σ.bl) (id := id) (x := none) (Nat.le_of_lt hlt)
    rwa [if_pos hlt] at this
  refine h w0 a w ⟨μ, ?_, ?_, ⟨⟨?_, ?_⟩, fun i t' ht => ?_⟩, M⟩
  · show Ev Γ w0 (hOf (σ.bl.set id none)) μ w
    rw [hst]; exact E.trans E1
  · show Inv Γ (hOf (σ.bl.set id none)) μ w
    rw [hst]; exact I1
  · simpa using F.1.1
  · show Globs Γ (hOf (σ.bl.set id none)) μ w
    rw [hst]; exact F.1.2.evo E1
  · show RT Γ (hOf (σ.bl.set id none)) μ w t' _
    rw [hst]
    simp only [List.getElem?_map] at ht
    cases h0 : σ.tm[i]? with
    | none => rw [h0] at ht; cases ht
    | some t0 =>
      rw [h0] at ht
      simp only [Option.map_some, Option.some.injEq] at ht
      subst ht
      exact ptr_RT I hi rfl hall (F.2 i t0 h0)
end Go.Proofs.YtbcclcbmbejnmaaDoor
