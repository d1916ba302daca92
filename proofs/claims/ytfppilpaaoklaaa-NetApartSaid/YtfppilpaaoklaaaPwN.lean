/- The walk over plain values: a nil row is an own one without elements. -/
import Derived.Test.YtfppilpaaoklaaaPwM
namespace Go.Proofs.Ytfppilpaaoklaaa
set_option linter.unusedSimpArgs false
set_option linter.unusedVariables false
open Go Go.RowKit
variable {Γ : Ctx}
theorem virt {h : Heap} {μ : Pos} {w : World} (I : Inv Γ h μ w) {id : Nat} (hi : h id = none) (t : TypeId) (s : Nat) :
    Evo h μ w (upd h [(id, some ⟨t, s, []⟩)]) (fun i => if i = id then none else μ i) w ∧ Inv Γ (upd h [(id, some ⟨t, s, []⟩)]) (fun i => if i = id then none else μ i) w := by
  have hback : ∀ i a, upd h [(id, some ⟨t, s, []⟩)] i = some (some a) → i ≠ id → h i = some (some a) := fun i a hh hne => by
    rw [upd_one, if_neg hne] at hh; exact hh
  have hne : ∀ i x, h i = some x → i ≠ id := fun i x hh e => by rw [e, hi] at hh; cases hh
  have E : Evo h μ w (upd h [(id, some ⟨t, s, []⟩)]) (fun i => if i = id then none else μ i) w := by
    refine ⟨rfl, rfl, rfl, Nat.le_refl _, fun b hb => ⟨rfl, fun i a hh => ?_⟩, fun i a hh => .inr ⟨a, ?_, rfl, rfl, rfl, ?_, fun g c hg hw => ⟨c, hw, rfl⟩⟩, fun i hh => ?_⟩
    · by_cases he : i = id
      · simp [he]
      · simp only [he, if_false]; exact hb.2 i a (hback i a hh he)
    · rw [upd_one, if_neg (hne i _ hh)]; exact hh
    · simp [hne i _ hh]
    · rw [upd_one, if_neg (hne i _ hh)]; exact hh
  refine ⟨E, ⟨fun i a hh => ?_, fun i a hh => ?_, fun i j a b g h1 h2 g1 g2 => ?_, I.base, fun i a g hh hg => ?_⟩⟩
  · by_cases he : i = id
    · rw [upd_one, if_pos he] at hh; injection hh with hh; injection hh with hh; subst hh
      intro e h'; cases h'
    · exact I.len i a (hback i a hh he)
  · by_cases he : i = id
    · rw [upd_one, if_pos he] at hh; injection hh with hh; injection hh with hh; subst hh
      exact .inl ⟨rfl, by simp [he]⟩
    · simp only [he, if_false]
      refine (I.at_ i a (hback i a hh he)).imp (fun h => h) fun ⟨g, cur, q1, q2, q3, q4⟩ => ⟨g, cur, q1, q2, q3, fun i e j l he hl => ?_⟩
      obtain ⟨u, hu, hx⟩ := q4 i e j l he hl
      exact ⟨u, hu, hx.evo E⟩
  · by_cases he : i = id
    · simp [he] at g1
    · by_cases hf : j = id
      · simp [hf] at g2
      · simp only [he, hf, if_false] at g1 g2
        exact I.inj i j a b g (hback i a h1 he) (hback j b h2 hf) g1 g2
  · by_cases he : i = id
    · simp [he] at hg
    · simp only [he, if_false] at hg
      exact I.own i a g (hback i a hh he) hg
theorem AW.nilOwn {P : Program} {c : Code} {Q : Exit → St → Prop} {σ : St} (i : Nat) (v : Value) (t : TypeId) (s : Nat) (hs : σ.tm[i]? = some (.leaf (.sc v))) (hv : isNilSl v = true) (h : AW Γ P c Q ⟨σ.tm.set i (.leaf (.own σ.bl.length s 0)), σ.bl ++ [some ⟨t, s, []⟩]⟩) : AW Γ P c Q σ := by
  intro w0 a w ⟨μ, E, I, F, hd⟩
  have hi : σ.h σ.bl.length = none := hOf_none (Nat.le_refl _)
  have hstep : hOf (σ.bl ++ [some ⟨t, s, []⟩]) = upd (hOf σ.bl) [(σ.bl.length, some ⟨t, s, []⟩)] := by
    have := hOf_step (bl := σ.bl) (id := σ.bl.length) (x := some ⟨t, s, []⟩) (Nat.le_refl _)
    rwa [if_neg (Nat.lt_irrefl _)] at this
  obtain ⟨E', I'⟩ := virt I hi t s
  refine h w0 a w ⟨fun k => if k = σ.bl.length then none else μ k, ?_, ?_, ?_, hd⟩
  · show Ev Γ w0 (hOf (σ.bl ++ [some ⟨t, s, []⟩])) _ w
    rw [hstep]; exact E.trans E'
  · show Inv Γ (hOf (σ.bl ++ [some ⟨t, s, []⟩])) _ w
    rw [hstep]; exact I'
  · show FrameR Γ (hOf (σ.bl ++ [some ⟨t, s, []⟩])) _ w _ _
    rw [hstep]
    have F' := F.evo E'
    refine ⟨⟨by simpa using F'.1.1, F'.1.2⟩, fun j x hx => ?_⟩
    rw [List.getElem?_set] at hx
    split at hx
    · rename_i hij
      subst hij
      split at hx
      · injection hx with hx; subst hx
        have hr := F.2 i _ hs
        have := RT.sc_inv hr
        rw [this, isNilSl_spec hv]
        exact .inr ⟨⟨t, s, []⟩, by rw [upd_one, if_pos rfl], rfl, rfl, .inl ⟨rfl, none, rfl⟩⟩
      · cases hx
    · exact F'.2 j x hx
end Go.Proofs.Ytfppilpaaoklaaa
