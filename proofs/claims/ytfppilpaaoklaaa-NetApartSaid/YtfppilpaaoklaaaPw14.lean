/- The walk over plain values: states taken for others; a function's contract out of its body. -/
import Derived.Test.YtfppilpaaoklaaaPw13
namespace Go.Proofs.Ytfppilpaaoklaaa
set_option linter.unusedSimpArgs false
set_option linter.unusedVariables false
open Go Go.RowKit
variable {Γ : Ctx}

/-! ### A state taken for another one: ρ says of each new number which one it was -/
def leP (ρ : List Nat) (l : L) : L → Prop
  | .ptr k i j => ∃ id, l = .ptr id i j ∧ ρ[k]? = some id
  | l' => l = l'
def lePs (ρ : List Nat) : List L → List L → Prop
  | [], [] => True
  | l :: ls, l' :: ls' => leP ρ l l' ∧ lePs ρ ls ls'
  | _, _ => False
def leL (ρ : List Nat) (l : L) : L → Prop
  | .any => True
  | .own k s n => ∃ id, l = .own id s n ∧ ρ[k]? = some id
  | .row k lo n => ∃ id, l = .row id lo n ∧ ρ[k]? = some id
  | .ptr k i j => ∃ id, l = .ptr id i j ∧ ρ[k]? = some id
  | .arow k i j n => ∃ id, l = .arow id i j n ∧ ρ[k]? = some id
  | .clo f ls' => ∃ ls, l = .clo f ls ∧ lePs ρ ls ls'
  | l' => l = l'
def leLs (ρ : List Nat) : List L → List L → Prop
  | [], [] => True
  | l :: ls, l' :: ls' => leL ρ l l' ∧ leLs ρ ls ls'
  | _, _ => False
def leC (ρ : List Nat) (t : T) : T → Prop
  | .leaf l' => l' = .any ∨ ∃ l, t = .leaf l ∧ leL ρ l l'
  | .agg ls' => ∃ ls, t = .agg ls ∧ leLs ρ ls ls'
  | .tup _ => False
def leCs (ρ : List Nat) : List T → List T → Prop
  | [], [] => True
  | t :: ts, t' :: ts' => leC ρ t t' ∧ leCs ρ ts ts'
  | _, _ => False
def leT (ρ : List Nat) (t : T) : T → Prop
  | .leaf l' => l' = .any ∨ ∃ l, t = .leaf l ∧ leL ρ l l'
  | .agg ls' => ∃ ls, t = .agg ls ∧ leLs ρ ls ls'
  | .tup ts' => ∃ ts, t = .tup ts ∧ leCs ρ ts ts'
def leTs (ρ : List Nat) : List T → List T → Prop
  | [], [] => True
  | t :: ts, t' :: ts' => leT ρ t t' ∧ leTs ρ ts ts'
  | _, _ => False
/-- Rows: the same, and read for good; or one by one. -/
def leEs (ρ : List Nat) (es es' : List (List L)) : Prop := (es = es' ∧ allP es) ∨ (es.length = es'.length ∧ ∀ (i : Nat) (e e' : List L), es[i]? = some e → es'[i]? = some e' → leLs ρ e e')
def leBs (ρ : List Nat) (bl : List (Option AB)) : Nat → List (Option AB) → Prop
  | _, [] => True
  | k, none :: bl' => leBs ρ bl (k + 1) bl'
  | k, some ab' :: bl' => (∃ id ab, ρ[k]? = some id ∧ hOf bl id = some (some ab) ∧ ab.t = ab'.t ∧ ab.s = ab'.s ∧ leEs ρ ab.es ab'.es) ∧ leBs ρ bl (k + 1) bl'
/-- Those that were handed in, and may be written, keep their numbers. -/
def fixOk : Nat → List Nat → List (Option AB) → Prop
  | 0, _, _ => True
  | k + 1, ρ, bl => fixOk k ρ bl ∧ k < bl.length ∧ ((∃ ab, bl[k]? = some (some ab)) → ρ[k]? = some k)
@[simp] theorem fixOk_zero {ρ : List Nat} {bl : List (Option AB)} : fixOk 0 ρ bl = True := rfl
theorem fixOk_at {ρ : List Nat} {bl : List (Option AB)} : ∀ {k : Nat}, fixOk k ρ bl → ∀ j, j < k → j < bl.length ∧ ((∃ ab, bl[j]? = some (some ab)) → ρ[j]? = some j)
  | 0, _, j, h => by omega
  | k + 1, h, j, hj => by
    by_cases he : j = k
    · subst he; exact h.2
    · exact fixOk_at h.1 j (by omega)
/-- How many were handed in that may be written. -/
class KK (Γ : Ctx) (k : outParam Nat) : Prop where
  len : Γ.bi.length = k
structure St.le (k : Nat) (ρ : List Nat) (σ σ' : St) : Prop where
  nd : ρ.Nodup ∧ fixOk k ρ σ'.bl
  tm : leTs ρ σ.tm σ'.tm
  bl : leBs ρ σ.bl 0 σ'.bl

theorem leBs_at {ρ : List Nat} {bl : List (Option AB)} : ∀ (bl' : List (Option AB)) (k : Nat), leBs ρ bl k bl' → ∀ (i : Nat) (ab' : AB), bl'[i]? = some (some ab') → ∃ id ab, ρ[k + i]? = some id ∧ hOf bl id = some (some ab) ∧ ab.t = ab'.t ∧ ab.s = ab'.s ∧ leEs ρ ab.es ab'.es
  | [], _, _, i, ab', h => by simp at h
  | none :: bl', k, hl, i, ab', h => by
    rcases i with _ | i
    · simp at h
    · have := leBs_at bl' (k + 1) hl i ab' (by simpa using h)
      rwa [show k + 1 + i = k + (i + 1) by omega] at this
  | some a :: bl', k, hl, i, ab', h => by
    rcases i with _ | i
    · simp at h; subst h; exact hl.1
    · have := leBs_at bl' (k + 1) hl.2 i ab' (by simpa using h)
      rwa [show k + 1 + i = k + (i + 1) by omega] at this
theorem lePs_at {ρ : List Nat} : ∀ (ls ls' : List L), lePs ρ ls ls' → ls.length = ls'.length ∧ ∀ (j : Nat) (l l' : L), ls[j]? = some l → ls'[j]? = some l' → leP ρ l l'
  | [], [], _ => ⟨rfl, fun j l l' h => by simp at h⟩
  | l :: ls, l' :: ls', h => by
    obtain ⟨h1, h2⟩ := lePs_at ls ls' h.2
    refine ⟨by simp [h1], fun j x x' hx hx' => ?_⟩
    rcases j with _ | j
    · simp at hx hx'; subst hx hx'; exact h.1
    · exact h2 j x x' (by simpa using hx) (by simpa using hx')
theorem leLs_at {ρ : List Nat} : ∀ (ls ls' : List L), leLs ρ ls ls' → ls.length = ls'.length ∧ ∀ (j : Nat) (l l' : L), ls[j]? = some l → ls'[j]? = some l' → leL ρ l l'
  | [], [], _ => ⟨rfl, fun j l l' h => by simp at h⟩
  | l :: ls, l' :: ls', h => by
    obtain ⟨h1, h2⟩ := leLs_at ls ls' h.2
    refine ⟨by simp [h1], fun j x x' hx hx' => ?_⟩
    rcases j with _ | j
    · simp at hx hx'; subst hx hx'; exact h.1
    · exact h2 j x x' (by simpa using hx) (by simpa using hx')
theorem leCs_at {ρ : List Nat} : ∀ (ls ls' : List T), leCs ρ ls ls' → ls.length = ls'.length ∧ ∀ (j : Nat) (l l' : T), ls[j]? = some l → ls'[j]? = some l' → leC ρ l l'
  | [], [], _ => ⟨rfl, fun j l l' h => by simp at h⟩
  | l :: ls, l' :: ls', h => by
    obtain ⟨h1, h2⟩ := leCs_at ls ls' h.2
    refine ⟨by simp [h1], fun j x x' hx hx' => ?_⟩
    rcases j with _ | j
    · simp at hx hx'; subst hx hx'; exact h.1
    · exact h2 j x x' (by simpa using hx) (by simpa using hx')
theorem leTs_at {ρ : List Nat} : ∀ (ls ls' : List T), leTs ρ ls ls' → ls.length = ls'.length ∧ ∀ (j : Nat) (l l' : T), ls[j]? = some l → ls'[j]? = some l' → leT ρ l l'
  | [], [], _ => ⟨rfl, fun j l l' h => by simp at h⟩
  | l :: ls, l' :: ls', h => by
    obtain ⟨h1, h2⟩ := leTs_at ls ls' h.2
    refine ⟨by simp [h1], fun j x x' hx hx' => ?_⟩
    rcases j with _ | j
    · simp at hx hx'; subst hx hx'; exact h.1
    · exact h2 j x x' (by simpa using hx) (by simpa using hx')

section
variable {σ σ' : St} {ρ : List Nat} {μ : Pos} {w : World}
/-- Where the new numbers lie. -/
def muR (ρ : List Nat) (μ : Pos) : Pos := fun k => (ρ[k]?).bind μ
theorem le_per (le : leBs ρ σ.bl 0 σ'.bl) {b : Nat} (hp : Per σ.h μ w b) : Per σ'.h (muR ρ μ) w b := ⟨hp.1, fun k ab' hk hg => by
  obtain ⟨id, ab, h1, h2, _⟩ := leBs_at _ 0 le k ab' hk
  rw [Nat.zero_add] at h1
  simp only [muR, h1, Option.bind_some] at hg
  exact hp.2 id ab h2 hg⟩
theorem le_RX (le : leBs ρ σ.bl 0 σ'.bl) {l l' : L} (hl : leL ρ l l') {u : Value} (r : RX Γ σ.h μ w l u) (hk : ∀ k ∈ idsL l', k < σ'.bl.length) : RX Γ σ'.h (muR ρ μ) w l' u := by
  have back : ∀ k id, ρ[k]? = some id → k < σ'.bl.length → σ'.h k = some none ∨ ∃ ab' ab, σ'.h k = some (some ab') ∧ σ.h id = some (some ab) ∧ ab.t = ab'.t ∧ ab.s = ab'.s ∧ ab.es.length = ab'.es.length ∧ muR ρ μ k = μ id := fun k id hr hlt => by
    have hb : σ'.bl[k]? = some σ'.bl[k] := List.getElem?_eq_getElem hlt
    cases hv : σ'.bl[k] with
    | none => exact .inl (by rw [← hv]; exact hb)
    | some ab' =>
      rw [hv] at hb
      obtain ⟨id', ab, h1, h2, h3, h4, h5⟩ := leBs_at _ 0 le k ab' hb
      rw [Nat.zero_add, hr] at h1
      injection h1 with h1
      subst h1
      refine .inr ⟨ab', ab, hb, h2, h3, h4, ?_, by simp [muR, hr]⟩
      rcases h5 with ⟨h5, _⟩ | ⟨h5, _⟩
      · rw [h5]
      · exact h5
  cases l' with
  | any => trivial
  | own k s n =>
    obtain ⟨id, rfl, hr⟩ := hl
    rcases back k id hr (hk k (by simp [idsL])) with hd | ⟨ab', ab, h1, h2, h3, h4, h5, h6⟩
    · exact .inl hd
    · rcases r with hd | ⟨ab2, k1, k2, k3, r⟩
      · rw [h2] at hd; cases hd
      · rw [h2] at k1; injection k1 with k1; injection k1 with k1; subst k1
        exact .inr ⟨ab', h1, by rw [← h4]; exact k2, by rw [← h5]; exact k3, by rw [h6, ← h3]; exact r⟩
  | row k lo n =>
    obtain ⟨id, rfl, hr⟩ := hl
    rcases back k id hr (hk k (by simp [idsL])) with hd | ⟨ab', ab, h1, h2, h3, h4, h5, h6⟩
    · exact .inl hd
    · rcases r with hd | ⟨ab2, k1, k2, r⟩
      · rw [h2] at hd; cases hd
      · rw [h2] at k1; injection k1 with k1; injection k1 with k1; subst k1
        exact .inr ⟨ab', h1, by rw [← h5]; exact k2, by rw [h6, ← h4]; exact r⟩
  | ptr k i j =>
    obtain ⟨id, rfl, hr⟩ := hl
    rcases back k id hr (hk k (by simp [idsL])) with hd | ⟨ab', ab, h1, h2, h3, h4, h5, h6⟩
    · exact .inl hd
    · rcases r with hd | ⟨ab2, k1, r⟩
      · rw [h2] at hd; cases hd
      · rw [h2] at k1; injection k1 with k1; injection k1 with k1; subst k1
        exact .inr ⟨ab', h1, by rw [h6, ← h4]; exact r⟩
  | arow k i j n =>
    obtain ⟨id, rfl, hr⟩ := hl
    rcases back k id hr (hk k (by simp [idsL])) with hd | ⟨ab', ab, h1, h2, h3, h4, h5, h6⟩
    · exact .inl hd
    · rcases r with hd | ⟨ab2, k1, k2, k3, r⟩
      · rw [h2] at hd; cases hd
      · rw [h2] at k1; injection k1 with k1; injection k1 with k1; subst k1
        exact .inr ⟨ab', h1, by rw [← h5]; exact k2, by rw [← h4]; exact k3, by rw [h6, ← h4]; exact r⟩
  | clo f ls' =>
    obtain ⟨ls, rfl, hl⟩ := hl
    obtain ⟨cs, hu, hs, hr⟩ := r
    obtain ⟨q1, q2⟩ := lePs_at ls ls' hl
    refine ⟨cs, hu, by rw [hs, q1], fun m l' hl' => ?_⟩
    have hm : m < ls.length := by rw [q1]; exact (List.getElem?_eq_some_iff.1 hl').1
    have r1 := hr m ls[m] (List.getElem?_eq_getElem hm)
    have l1 := q2 m _ l' (List.getElem?_eq_getElem hm) hl'
    cases l' with
    | ptr k i j =>
      obtain ⟨id, he, hr'⟩ := l1
      rw [he] at r1
      rcases back k id hr' (hk k (by simp only [idsL, List.mem_flatMap]; exact ⟨_, List.mem_of_getElem? hl', by simp [idsP]⟩)) with hd | ⟨ab', ab, h1, h2, h3, h4, h5, h6⟩
      · exact .inl hd
      · rcases r1 with hd | ⟨ab2, k1, r1⟩
        · rw [h2] at hd; cases hd
        · rw [h2] at k1; injection k1 with k1; injection k1 with k1; subst k1
          exact .inr ⟨ab', h1, by rw [h6, ← h4]; exact r1⟩
    | _ =>
      have l1' : ls[m] = _ := l1
      rw [l1'] at r1
      exact RL.keep (fun b hb => ⟨⟨le_per le hb.1, hb.2⟩, rfl⟩) r1
  | mp es => cases hl; exact RL.keep (fun b hb => ⟨⟨le_per le hb.1, hb.2⟩, rfl⟩) r
  | bb p => cases hl; exact r
  | sc v => cases hl; cases r; exact RL.sc _
  | sl es => cases hl; exact RL.keep (fun b hb => ⟨⟨le_per le hb.1, hb.2⟩, rfl⟩) r
  | pp cs => cases hl; exact RL.keep (fun b hb => ⟨⟨le_per le hb.1, hb.2⟩, rfl⟩) r
end
/-- No number is named that is not there. -/
def inP (n : Nat) : L → Prop
  | .ptr k _ _ => k < n
  | _ => True
def inPs (n : Nat) : List L → Prop
  | [] => True
  | l :: ls => inP n l ∧ inPs n ls
def inL (n : Nat) : L → Prop
  | .own k _ _ | .row k _ _ | .ptr k _ _ | .arow k _ _ _ => k < n
  | .clo _ ls => inPs n ls
  | _ => True
def inLs (n : Nat) : List L → Prop
  | [] => True
  | l :: ls => inL n l ∧ inLs n ls
def inC (n : Nat) : T → Prop
  | .leaf l => inL n l
  | .agg ls => inLs n ls
  | .tup _ => True
def inCs (n : Nat) : List T → Prop
  | [] => True
  | t :: ts => inC n t ∧ inCs n ts
def inT (n : Nat) : T → Prop
  | .leaf l => inL n l
  | .agg ls => inLs n ls
  | .tup ts => inCs n ts
def inTs (n : Nat) : List T → Prop
  | [] => True
  | t :: ts => inT n t ∧ inTs n ts
def inEs (n : Nat) (es : List (List L)) : Prop := allP es ∨ ∀ e ∈ es, inLs n e
def inBs (n : Nat) : List (Option AB) → Prop
  | [] => True
  | none :: bl => inBs n bl
  | some ab :: bl => inEs n ab.es ∧ inBs n bl
theorem inL_ids {n : Nat} {l : L} (h : inL n l) : ∀ k ∈ idsL l, k < n := by
  have hps : ∀ ls : List L, inPs n ls → ∀ k ∈ ls.flatMap idsP, k < n := by
    intro ls
    induction ls with
    | nil => intro _ k hk; simp at hk
    | cons x xs ih =>
      intro hx k hk
      simp only [List.flatMap_cons, List.mem_append] at hk
      rcases hk with hk | hk
      · cases x <;> simp [idsP] at hk
        subst hk; exact hx.1
      · exact ih hx.2 k hk
  cases l with
  | clo f ls => exact hps ls h
  | _ => simp [idsL, inL] at * <;> exact h
theorem inLs_at {n : Nat} : ∀ {ls : List L}, inLs n ls → ∀ l ∈ ls, inL n l
  | l :: ls, h, x, hx => by
    rcases List.mem_cons.1 hx with rfl | hx
    · exact h.1
    · exact inLs_at h.2 x hx
theorem inCs_at {n : Nat} : ∀ {ls : List T}, inCs n ls → ∀ l ∈ ls, inC n l
  | l :: ls, h, x, hx => by
    rcases List.mem_cons.1 hx with rfl | hx
    · exact h.1
    · exact inCs_at h.2 x hx
theorem inTs_at {n : Nat} : ∀ {ls : List T}, inTs n ls → ∀ l ∈ ls, inT n l
  | l :: ls, h, x, hx => by
    rcases List.mem_cons.1 hx with rfl | hx
    · exact h.1
    · exact inTs_at h.2 x hx
theorem inBs_at {n : Nat} : ∀ {bl : List (Option AB)}, inBs n bl → ∀ ab, some ab ∈ bl → inEs n ab.es
  | none :: bl, h, x, hx => by
    rcases List.mem_cons.1 hx with hx | hx
    · cases hx
    · exact inBs_at (bl := bl) h x hx
  | some a :: bl, h, x, hx => by
    rcases List.mem_cons.1 hx with hx | hx
    · cases hx; exact h.1
    · exact inBs_at (bl := bl) h.2 x hx
structure St.ok (σ : St) : Prop where
  tm : inTs σ.bl.length σ.tm
  bl : inBs σ.bl.length σ.bl

theorem le_RC {σ σ' : St} {ρ : List Nat} {μ : Pos} {w : World} (le : leBs ρ σ.bl 0 σ'.bl) {t t' : T} (hl : leC ρ t t') {u : Value} (r : RC Γ σ.h μ w t u) (hk : inC σ'.bl.length t') : RC Γ σ'.h (muR ρ μ) w t' u := by
  cases t' with
  | leaf l' =>
    rcases hl with rfl | ⟨l, rfl, hl⟩
    · trivial
    · exact le_RX le hl r (inL_ids hk)
  | agg ls' =>
    obtain ⟨ls, rfl, hl⟩ := hl
    obtain ⟨cs, hu, hs, hr⟩ := r
    obtain ⟨h1, h2⟩ := leLs_at ls ls' hl
    refine ⟨cs, hu, by rw [hs, h1], fun j l' hl' => ?_⟩
    have hj : j < ls.length := by rw [h1]; exact (List.getElem?_eq_some_iff.1 hl').1
    obtain ⟨v, k1, k2, k3⟩ := hr j ls[j] (List.getElem?_eq_getElem hj)
    exact ⟨v, k1, k2, le_RX le (h2 j _ l' (List.getElem?_eq_getElem hj) hl') k3 (inL_ids (inLs_at hk l' (List.mem_of_getElem? hl')))⟩
  | tup ts => exact hl.elim
theorem le_RT {σ σ' : St} {ρ : List Nat} {μ : Pos} {w : World} (le : leBs ρ σ.bl 0 σ'.bl) {t t' : T} (hl : leT ρ t t') {u : Value} (r : RT Γ σ.h μ w t u) (hk : inT σ'.bl.length t') : RT Γ σ'.h (muR ρ μ) w t' u := by
  cases t' with
  | leaf l' =>
    rcases hl with rfl | ⟨l, rfl, hl⟩
    · trivial
    · exact le_RX le hl r (inL_ids hk)
  | agg ls' =>
    obtain ⟨ls, rfl, hl⟩ := hl
    exact le_RC (t := .agg ls) (t' := .agg ls') le ⟨ls, rfl, hl⟩ r hk
  | tup ts' =>
    obtain ⟨ts, rfl, hl⟩ := hl
    obtain ⟨vs, hu, hs, hr⟩ := r
    obtain ⟨h1, h2⟩ := leCs_at ts ts' hl
    refine ⟨vs, hu, by rw [hs, h1], fun j l' hl' => ?_⟩
    have hj : j < ts.length := by rw [h1]; exact (List.getElem?_eq_some_iff.1 hl').1
    obtain ⟨v, k1, k2⟩ := hr j ts[j] (List.getElem?_eq_getElem hj)
    exact ⟨v, k1, le_RC le (h2 j _ l' (List.getElem?_eq_getElem hj) hl') k2 (inCs_at hk l' (List.mem_of_getElem? hl'))⟩
theorem allP_pers {es : List (List L)} (h : allP es) {i j : Nat} {e : List L} {l : L} (he : es[i]? = some e) (hl : e[j]? = some l) : persL l = true := h e (List.mem_of_getElem? he) l (List.mem_of_getElem? hl)
theorem leL_pers {ρ : List Nat} {l : L} (h : persL l = true) : leL ρ l l ∧ idsL l = [] := by
  cases l with
  | clo f ls =>
    have h' : ∀ x ∈ ls, persP x = true := by simpa [persL] using h
    clear h
    have : lePs ρ ls ls ∧ ls.flatMap idsP = [] := by
      induction ls with
      | nil => exact ⟨trivial, rfl⟩
      | cons x xs ih =>
        obtain ⟨i1, i2⟩ := ih fun y hy => h' y (by simp [hy])
        have hx := h' x (by simp)
        refine ⟨⟨?_, i1⟩, ?_⟩
        · cases x <;> simp [persP] at hx <;> rfl
        · rw [List.flatMap_cons, i2]
          cases x <;> simp [persP] at hx <;> rfl
    exact ⟨⟨ls, rfl, this.1⟩, this.2⟩
  | _ => first | exact ⟨rfl, rfl⟩ | (simp [persL] at h)
theorem HoldsAt.le {k : Nat} [kk : KK Γ k] {w0 : World} {a : Act} {w : World} {σ σ' : St} {ρ : List Nat} {μ : Pos} (E : Ev Γ w0 σ.h μ w) (I : Inv Γ σ.h μ w) (F : FrameR Γ σ.h μ w σ.tm a.tmps) (hd : Marks Γ.base w a.defers) (le : St.le k ρ σ σ') (ok : St.ok σ') :
    Ev Γ w0 σ'.h (muR ρ μ) w ∧ Inv Γ σ'.h (muR ρ μ) w ∧ FrameR Γ σ'.h (muR ρ μ) w σ'.tm a.tmps ∧ Marks Γ.base w a.defers := by
  have hat : ∀ k ab', σ'.h k = some (some ab') → ∃ id ab, ρ[k]? = some id ∧ σ.h id = some (some ab) ∧ ab.t = ab'.t ∧ ab.s = ab'.s ∧ leEs ρ ab.es ab'.es ∧ muR ρ μ k = μ id := fun k ab' hk => by
    obtain ⟨id, ab, h1, h2, h3, h4, h5⟩ := leBs_at _ 0 le.bl k ab' hk
    rw [Nat.zero_add] at h1
    exact ⟨id, ab, h1, h2, h3, h4, h5, by simp [muR, h1]⟩
  -- rows, both ways told
  have hrow : ∀ ab ab' : AB, leEs ρ ab.es ab'.es → inEs σ'.bl.length ab'.es → ab.es.length = ab'.es.length ∧ ∀ (i : Nat) (e' : List L) (j : Nat) (l' : L), ab'.es[i]? = some e' → e'[j]? = some l' → ∃ e l, ab.es[i]? = some e ∧ e[j]? = some l ∧ e.length = e'.length ∧ leL ρ l l' ∧ ∀ k ∈ idsL l', k < σ'.bl.length := fun ab ab' h5 hin => by
    rcases h5 with ⟨h5, hp⟩ | ⟨h5, h6⟩
    · refine ⟨by rw [h5], fun i e' j l' he hl => ?_⟩
      have hpl : persL l' = true := allP_pers (by rw [← h5]; exact hp) he hl
      obtain ⟨q1, q2⟩ := leL_pers (ρ := ρ) hpl
      exact ⟨e', l', by rw [h5]; exact he, hl, rfl, q1, by rw [q2]; simp⟩
    · refine ⟨h5, fun i e' j l' he hl => ?_⟩
      have hi : i < ab.es.length := by rw [h5]; exact (List.getElem?_eq_some_iff.1 he).1
      obtain ⟨q1, q2⟩ := leLs_at _ _ (h6 i _ e' (List.getElem?_eq_getElem hi) he)
      have hj : j < ab.es[i].length := by rw [q1]; exact (List.getElem?_eq_some_iff.1 hl).1
      refine ⟨_, _, List.getElem?_eq_getElem hi, List.getElem?_eq_getElem hj, q1, q2 j _ l' (List.getElem?_eq_getElem hj) hl, ?_⟩
      rcases hin with hin | hin
      · obtain ⟨_, q3⟩ := leL_pers (ρ := ρ) (allP_pers hin he hl)
        rw [q3]; simp
      · exact inL_ids (inLs_at (hin e' (List.mem_of_getElem? he)) l' (List.mem_of_getElem? hl))
  refine ⟨⟨E.os, E.tape, E.output, E.size, fun b hb hnI => ⟨(E.per b hb hnI).1, fun k ab' hk hg => ?_⟩, fun j ab0 hj => ?_⟩, ⟨fun k ab' hk e' he' => ?_, fun k ab' hk => ?_, fun k k' a b g h1 h2 g1 g2 => ?_, I.base, fun k ab' g hk hg => ?_⟩, ⟨⟨?_, ?_⟩, fun i t' ht' => ?_⟩, hd⟩
  · obtain ⟨id, ab, h1, h2, _, _, _, h6⟩ := hat k ab' hk
    rw [h6] at hg
    exact (E.per b hb hnI).2 id ab h2 hg
  · have hjk : j < k := by rw [← kk.len]; exact (List.getElem?_eq_some_iff.1 hj).1
    obtain ⟨f1, f2⟩ := fixOk_at le.nd.2 j hjk
    have hbj : σ'.bl[j]? = some σ'.bl[j] := List.getElem?_eq_getElem f1
    refine ⟨fun h => (by
      have : σ'.bl[j]? = none := h
      rw [hbj] at this; cases this), fun ab' hk => ?_⟩
    obtain ⟨id, ab, h1, h2, h3, h4, h5, h6⟩ := hat j ab' hk
    have := f2 ⟨ab', hk⟩
    rw [h1] at this; injection this with this; subst this
    obtain ⟨q1, q2, q3, q4, q5⟩ := (E.kp id ab0 hj).2 ab h2
    refine ⟨by rw [← h3]; exact q1, by rw [← h4]; exact q2, ?_, by rw [h6]; exact q4, q5⟩
    rcases h5 with ⟨h5, _⟩ | ⟨h5, _⟩
    · rw [← h5]; exact q3
    · rw [← h5]; exact q3
  · obtain ⟨id, ab, h1, h2, h3, h4, h5, h6⟩ := hat k ab' hk
    rcases h5 with ⟨h5, _⟩ | ⟨h5, h7⟩
    · rw [← h4]; rw [← h5] at he'; exact I.len id ab h2 e' he'
    · obtain ⟨i, hi⟩ := List.getElem?_of_mem he'
      have hil : i < ab.es.length := by rw [h5]; exact (List.getElem?_eq_some_iff.1 hi).1
      have := (leLs_at _ _ (h7 i _ e' (List.getElem?_eq_getElem hil) hi)).1
      rw [← this, ← h4]; exact I.len id ab h2 _ (List.getElem_mem hil)
  · obtain ⟨id, ab, h1, h2, h3, h4, h5, h6⟩ := hat k ab' hk
    have hin := inBs_at ok.bl ab' (List.mem_of_getElem? hk)
    obtain ⟨q1, q2⟩ := hrow ab ab' h5 hin
    rcases I.at_ id ab h2 with ⟨r1, r2⟩ | ⟨g, cur, hg, hw, hl, hr⟩
    · refine .inl ⟨?_, by rw [h6]; exact r2⟩
      rw [r1] at q1
      exact List.eq_nil_of_length_eq_zero q1.symm
    · refine .inr ⟨g, cur, by rw [h6]; exact hg, by rw [← h3]; exact hw, by rw [← q1, ← h4]; exact hl, fun i e' j l' he hl' => ?_⟩
      obtain ⟨e, l, k1, k2, _, k4, k5⟩ := q2 i e' j l' he hl'
      obtain ⟨u, hu, m1, m2⟩ := hr i e j l k1 k2
      exact ⟨u, by rw [← h4]; exact hu, m1, le_RX le.bl k4 m2 k5⟩
  · obtain ⟨i1, a1, e1, e2, _, _, _, e6⟩ := hat k a h1
    obtain ⟨i2, a2, f1, f2, _, _, _, f6⟩ := hat k' b h2
    rw [e6] at g1; rw [f6] at g2
    have := I.inj i1 i2 a1 a2 g e2 f2 g1 g2
    subst this
    have hk : k < ρ.length := (List.getElem?_eq_some_iff.1 e1).1
    have hk' : k' < ρ.length := (List.getElem?_eq_some_iff.1 f1).1
    exact (List.getElem_inj le.nd.1 (h₀ := hk) (h₁ := hk')).1 (by
      have q1 := (List.getElem?_eq_some_iff.1 e1).2
      have q2 := (List.getElem?_eq_some_iff.1 f1).2
      rw [q1, q2])
  · obtain ⟨id, ab, h1, h2, _, _, _, h6⟩ := hat k ab' hk
    rw [h6] at hg
    exact I.own id ab g h2 hg
  · rw [F.1.1]; exact (leTs_at _ _ le.tm).1
  · exact fun g vs hg => RL.keep (fun b hb => ⟨⟨le_per le.bl hb.1, hb.2⟩, rfl⟩) (F.1.2 g vs hg)
  · obtain ⟨q1, q2⟩ := leTs_at _ _ le.tm
    have hi : i < σ.tm.length := by rw [q1]; exact (List.getElem?_eq_some_iff.1 ht').1
    have hl := q2 i _ t' (List.getElem?_eq_getElem hi) ht'
    have hin : inT σ'.bl.length t' := inTs_at ok.tm t' (List.mem_of_getElem? ht')
    exact le_RT le.bl hl (F.2 i _ (List.getElem?_eq_getElem hi)) hin
theorem Holds.le {k : Nat} [kk : KK Γ k] {w0 : World} {a : Act} {w : World} {σ σ' : St} {ρ : List Nat} (H : Holds Γ w0 σ a w) (le : St.le k ρ σ σ') (ok : St.ok σ') : Holds Γ w0 σ' a w := by
  obtain ⟨μ, E, I, F, hd⟩ := H
  exact ⟨muR ρ μ, HoldsAt.le E I F hd le ok⟩
theorem AW.weak {k : Nat} [kk : KK Γ k] {P : Program} {c : Code} {Q : Exit → St → Prop} {σ σ' : St} (ρ : List Nat) (le : St.le k ρ σ σ') (ok : St.ok σ') (h : AW Γ P c Q σ') : AW Γ P c Q σ := fun w0 a w H => h w0 a w (H.le le ok)
end Go.Proofs.Ytfppilpaaoklaaa
