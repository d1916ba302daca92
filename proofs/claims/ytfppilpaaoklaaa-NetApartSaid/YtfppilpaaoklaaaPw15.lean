/- The walk over plain values: a function's contract out of its body. -/
import Derived.Test.YtfppilpaaoklaaaPw14
namespace Go.Proofs.Ytfppilpaaoklaaa
set_option linter.unusedSimpArgs false
set_option linter.unusedVariables false
open Go Go.RowKit
variable {Γ : Ctx}

/-- What is told in the end: ρ says of each of its own rows which one it was; none: a row without elements. -/
def finP (h : Heap) (ρ : List (Nat ⊕ Nat)) (l : L) : L → Prop
  | .ptr k i j => ∃ id, l = .ptr id i j ∧ ρ[k]? = some (.inl id)
  | .pp cs => (l = .pp cs) ∨ (behind h l = some cs ∧ (∀ x ∈ cs, persL x = true) ∧ ∀ id ∈ idsP l, .inl id ∉ ρ)
  | l' => l = l' ∧ persP l = true
def finPs (h : Heap) (ρ : List (Nat ⊕ Nat)) : List L → List L → Prop
  | [], [] => True
  | l :: ls, l' :: ls' => finP h ρ l l' ∧ finPs h ρ ls ls'
  | _, _ => False
def finL (h : Heap) (ρ : List (Nat ⊕ Nat)) (l : L) : L → Prop
  | .any => True
  | .arow k i j n => ∃ id, l = .arow id i j n ∧ ρ[k]? = some (.inl id)
  | .clo f ls' => ∃ ls, l = .clo f ls ∧ finPs h ρ ls ls'
  | .own k s n => (∃ id, l = .own id s n ∧ ρ[k]? = some (.inl id)) ∨ (n = 0 ∧ (∃ v, l = .sc v ∧ isNilSl v = true) ∧ ρ[k]? = some (.inr s))
  | .row k lo n => ∃ id, l = .row id lo n ∧ ρ[k]? = some (.inl id)
  | .ptr k i j => ∃ id, l = .ptr id i j ∧ ρ[k]? = some (.inl id)
  | l' => viewOk h l l' ∧ ∀ id ∈ idsL l, .inl id ∉ ρ
def finLs (h : Heap) (ρ : List (Nat ⊕ Nat)) : List L → List L → Prop
  | [], [] => True
  | l :: ls, l' :: ls' => finL h ρ l l' ∧ finLs h ρ ls ls'
  | _, _ => False
def finC (h : Heap) (ρ : List (Nat ⊕ Nat)) (t : T) : T → Prop
  | .leaf l' => ∃ l, t = .leaf l ∧ finL h ρ l l'
  | .agg ls' => ∃ ls, t = .agg ls ∧ finLs h ρ ls ls'
  | .tup _ => False
def finCs (h : Heap) (ρ : List (Nat ⊕ Nat)) : List T → List T → Prop
  | [], [] => True
  | t :: ts, t' :: ts' => finC h ρ t t' ∧ finCs h ρ ts ts'
  | _, _ => False
def finT (h : Heap) (ρ : List (Nat ⊕ Nat)) (t : T) : T → Prop
  | .tup ts' => ∃ ts, t = .tup ts ∧ finCs h ρ ts ts'
  | t' => finC h ρ t t'
def finBs (h : Heap) (ρ : List (Nat ⊕ Nat)) : Nat → List AB → Prop
  | _, [] => True
  | k, ab :: bl => (match ρ[k]? with
      | some (.inl id) => h id = some (some ab) ∧ allP ab.es
      | some (.inr s) => ab.es = [] ∧ ab.s = s
      | none => False) ∧ finBs h ρ (k + 1) bl
def ndB : List (Nat ⊕ Nat) → Bool
  | [] => true
  | .inr _ :: ρ => ndB ρ
  | .inl x :: ρ => !(ρ.any fun y => match y with | .inl z => z == x | .inr _ => false) && ndB ρ
structure FinOk (σ : St) (t : T) (bl : List AB) (r : T) (ρ : List (Nat ⊕ Nat)) : Prop where
  nd : ndB ρ = true
  res : finT σ.h ρ t r
  own : finBs σ.h ρ 0 bl
  ins : inT bl.length r

theorem ndB_inj : ∀ {ρ : List (Nat ⊕ Nat)}, ndB ρ = true → ∀ (i j : Nat) (x : Nat), ρ[i]? = some (.inl x) → ρ[j]? = some (.inl x) → i = j
  | [], _, i, j, x, h, _ => by simp at h
  | .inr _ :: ρ, hn, i, j, x, hi, hj => by
    rcases i with _ | i
    · simp at hi
    · rcases j with _ | j
      · simp at hj
      · have := ndB_inj (ρ := ρ) hn i j x (by simpa using hi) (by simpa using hj)
        omega
  | .inl y :: ρ, hn, i, j, x, hi, hj => by
    simp only [ndB, Bool.and_eq_true, Bool.not_eq_true'] at hn
    have hno : ∀ z, Sum.inl z ∈ ρ → z ≠ y := fun z hz e => by
      have := List.any_eq_false.1 hn.1 _ hz
      simp [e] at this
    rcases i with _ | i
    · rcases j with _ | j
      · rfl
      · simp at hi hj
        subst hi
        exact absurd rfl (hno _ (List.mem_of_getElem? hj))
    · rcases j with _ | j
      · simp at hi hj
        subst hj
        exact absurd rfl (hno _ (List.mem_of_getElem? hi))
      · have := ndB_inj (ρ := ρ) hn.2 i j x (by simpa using hi) (by simpa using hj)
        omega
theorem finBs_at {h : Heap} {ρ : List (Nat ⊕ Nat)} : ∀ (bl : List AB) (k : Nat), finBs h ρ k bl → ∀ (i : Nat) (ab : AB), bl[i]? = some ab → (∃ id, ρ[k + i]? = some (.inl id) ∧ h id = some (some ab) ∧ allP ab.es) ∨ (∃ s, ρ[k + i]? = some (.inr s) ∧ ab.es = [] ∧ ab.s = s)
  | [], _, _, i, ab, h => by simp at h
  | a :: bl, k, hf, i, ab, hi => by
    rcases i with _ | i
    · simp at hi; subst hi
      have := hf.1
      rw [Nat.add_zero]
      split at this
      · rename_i id hr; exact .inl ⟨id, hr, this⟩
      · rename_i s hr; exact .inr ⟨s, hr, this.1, this.2⟩
      · exact this.elim
    · have := finBs_at bl (k + 1) hf.2 i ab (by simpa using hi)
      rwa [show k + 1 + i = k + (i + 1) by omega] at this
theorem finLs_at {h : Heap} {ρ : List (Nat ⊕ Nat)} : ∀ (ls ls' : List L), finLs h ρ ls ls' → ls.length = ls'.length ∧ ∀ (j : Nat) (l l' : L), ls[j]? = some l → ls'[j]? = some l' → finL h ρ l l'
  | [], [], _ => ⟨rfl, fun j l l' h => by simp at h⟩
  | l :: ls, l' :: ls', hh => by
    obtain ⟨h1, h2⟩ := finLs_at ls ls' hh.2
    refine ⟨by simp [h1], fun j x x' hx hx' => ?_⟩
    rcases j with _ | j
    · simp at hx hx'; subst hx hx'; exact hh.1
    · exact h2 j x x' (by simpa using hx) (by simpa using hx')
theorem finCs_at {h : Heap} {ρ : List (Nat ⊕ Nat)} : ∀ (ls ls' : List T), finCs h ρ ls ls' → ls.length = ls'.length ∧ ∀ (j : Nat) (l l' : T), ls[j]? = some l → ls'[j]? = some l' → finC h ρ l l'
  | [], [], _ => ⟨rfl, fun j l l' h => by simp at h⟩
  | l :: ls, l' :: ls', hh => by
    obtain ⟨h1, h2⟩ := finCs_at ls ls' hh.2
    refine ⟨by simp [h1], fun j x x' hx hx' => ?_⟩
    rcases j with _ | j
    · simp at hx hx'; subst hx hx'; exact hh.1
    · exact h2 j x x' (by simpa using hx) (by simpa using hx')

section
variable {σ : St} {bl : List AB} {ρ : List (Nat ⊕ Nat)} {μ : Pos} {w : World}
def muF (ρ : List (Nat ⊕ Nat)) (μ : Pos) : Pos := fun k => match ρ[k]? with | some (.inl id) => μ id | _ => none
theorem fin_own (own : finBs σ.h ρ 0 bl) {k : Nat} {ab : AB} (hk : hOf (bl.map some) k = some (some ab)) : (∃ id, ρ[k]? = some (.inl id) ∧ σ.h id = some (some ab) ∧ allP ab.es ∧ muF ρ μ k = μ id) ∨ (∃ s, ρ[k]? = some (.inr s) ∧ ab.es = [] ∧ ab.s = s ∧ muF ρ μ k = none) := by
  have hb : bl[k]? = some ab := by
    simp only [hOf, List.getElem?_map] at hk
    obtain ⟨x, hx, he⟩ := Option.map_eq_some_iff.1 hk
    injection he with he; subst he; exact hx
  rcases finBs_at bl 0 own k ab hb with ⟨id, h1, h2, h3⟩ | ⟨s, h1, h2, h3⟩
  · rw [Nat.zero_add] at h1; exact .inl ⟨id, h1, h2, h3, by simp [muF, h1]⟩
  · rw [Nat.zero_add] at h1; exact .inr ⟨s, h1, h2, h3, by simp [muF, h1]⟩
theorem fin_per (own : finBs σ.h ρ 0 bl) {b : Nat} (hb : b < w.heap.size) (hn : ∀ id ab, .inl id ∈ ρ → σ.h id = some (some ab) → μ id ≠ some b) : Per (hOf (bl.map some)) (muF ρ μ) w b := ⟨hb, fun k ab hk hg => by
  rcases fin_own (μ := μ) own hk with ⟨id, h1, h2, _, h4⟩ | ⟨s, h1, h2, _, h4⟩
  · rw [h4] at hg; exact hn id ab (List.mem_of_getElem? h1) h2 hg
  · rw [h4] at hg; cases hg⟩
theorem fin_RX (I : Inv Γ σ.h μ w) (nd : ndB ρ = true) (own : finBs σ.h ρ 0 bl) {l l' : L} (hl : finL σ.h ρ l l') {u : Value} (r : RX Γ σ.h μ w l u) (hk : ∀ k ∈ idsL l', k < bl.length) : RX Γ (hOf (bl.map some)) (muF ρ μ) w l' u := by
  have hper : ∀ b, PerG Γ σ.h μ w b → PerG Γ (hOf (bl.map some)) (muF ρ μ) w b := fun b hb => ⟨fin_per own hb.1.1 fun id ab _ hi => hb.1.2 id ab hi, hb.2⟩
  have keep : ∀ b, PerG Γ σ.h μ w b → PerG Γ (hOf (bl.map some)) (muF ρ μ) w b ∧ w.heap[b]? = w.heap[b]? := fun b hb => ⟨hper b hb, rfl⟩
  -- a block of the call's own that is not told as such
  have hblk : ∀ id ab g, σ.h id = some (some ab) → Sum.inl id ∉ ρ → μ id = some g → PerG Γ (hOf (bl.map some)) (muF ρ μ) w g := fun id ab g hi hn hg => by
    have hlt : g < w.heap.size := by
      rcases I.at_ id ab hi with ⟨_, r⟩ | ⟨g', cur, hg', hw, _⟩
      · rw [hg] at r; cases r
      · rw [hg] at hg'; cases hg'; exact (Array.getElem?_eq_some_iff.1 hw).1
    refine ⟨fin_per own hlt fun id' ab' hm hi' hg' => ?_, .inr (I.own id ab g hi hg)⟩
    have := I.inj id' id ab' ab g hi' hi hg' hg
    subst this
    exact hn hm
  have hat : ∀ (k id : Nat), ρ[k]? = some (.inl id) → k < bl.length → ∃ ab, hOf (bl.map some) k = some (some ab) ∧ σ.h id = some (some ab) ∧ muF ρ μ k = μ id := fun k id hr hlt => by
    have hk : hOf (bl.map some) k = some (some bl[k]) := by simp [hOf, hlt]
    rcases fin_own (μ := μ) own hk with ⟨id', h1, h2, _, h4⟩ | ⟨s, h1, _⟩
    · rw [hr] at h1; injection h1 with h1; injection h1 with h1; subst h1
      exact ⟨_, hk, h2, h4⟩
    · rw [hr] at h1; cases h1
  have ppCase : ∀ (l : L) (u : Value) (cs : List L), RX Γ σ.h μ w l u → behind σ.h l = some cs → (∀ x ∈ cs, persL x = true) → (∀ id ∈ idsL l, Sum.inl id ∉ ρ) → RL (PerG Γ (hOf (bl.map some)) (muF ρ μ) w) w (.pp cs) u := by
    intro l u cs r hb hall hn
    cases l with
    | pp cs' => simp [behind] at hb; subst hb; exact RL.keep keep r
    | ptr id i j =>
      obtain ⟨p, hu, hc⟩ := behind_spec I r hb
      have hb' := hb
      simp only [behind] at hb
      split at hb
      · rename_i ab hi
        rcases r with hd | ⟨ab2, k1, g, hg, hu'⟩
        · rw [hi] at hd; cases hd
        · rw [hu] at hu'; injection hu' with hu'; injection hu' with hu'
          subst hu
          have this : ∀ j, ∃ v, ∀ x, cs[j]? = some x → w.cell? (p.add j) = some v ∧ RXc Γ σ.h μ w x v := fun j => by
            cases hx : cs[j]? with
            | none => exact ⟨undef, fun x h => (by cases h)⟩
            | some x =>
              obtain ⟨v, h1, h2⟩ := hc j x hx
              exact ⟨v, fun x' h => (by cases h; exact ⟨h1, h2⟩)⟩
          refine RL.pp cs p (fun j => Classical.choose (this j)) (fun j x hx => ?_) (fun j x hx => ?_) (fun j x hx => ?_) <;>
            obtain ⟨h1, h2⟩ := Classical.choose_spec (this j) x hx
          · refine ⟨?_, h1⟩
            rw [hu']
            exact hblk id ab g hi (hn id (by simp [idsL])) hg
          · exact RL.keep keep (h2.2.pers (hall x (List.mem_of_getElem? hx)))
          · exact h2.1
      · cases hb
    | _ => simp [behind] at hb
  cases l' with
  | any => trivial
  | arow k i j n =>
    obtain ⟨id, rfl, hr⟩ := hl
    obtain ⟨ab, h1, h2, h3⟩ := hat k id hr (hk k (by simp [idsL]))
    rcases r with hd | ⟨ab2, k1, k2, k3, k4⟩
    · rw [h2] at hd; cases hd
    · rw [h2] at k1; injection k1 with k1; injection k1 with k1; subst k1
      exact .inr ⟨ab, h1, k2, k3, by rw [h3]; exact k4⟩
  | mp es =>
    obtain ⟨⟨rfl, _⟩, _⟩ := hl
    exact RL.keep keep r
  | clo f ls' =>
    obtain ⟨ls, rfl, hl⟩ := hl
    obtain ⟨cs, hu, hs, hr⟩ := r
    have key : ∀ (ls ls' : List L), finPs σ.h ρ ls ls' → ls.length = ls'.length ∧ ∀ (j : Nat) (l l' : L), ls[j]? = some l → ls'[j]? = some l' → finP σ.h ρ l l' := by
      intro ls
      induction ls with
      | nil => intro ls' h2; cases ls' with
        | nil => exact ⟨rfl, fun j l l' h => by simp at h⟩
        | cons y ys => exact h2.elim
      | cons x xs ih => intro ls' h2; cases ls' with
        | nil => exact h2.elim
        | cons y ys =>
          obtain ⟨b1, b2⟩ := ih ys h2.2
          refine ⟨by simp [b1], fun j l l' hl hl' => ?_⟩
          rcases j with _ | j
          · simp at hl hl'; subst hl hl'; exact h2.1
          · exact b2 j l l' (by simpa using hl) (by simpa using hl')
    obtain ⟨q1, q2⟩ := key ls ls' hl
    refine ⟨cs, hu, by rw [hs, q1], fun m l' hl' => ?_⟩
    have hm : m < ls.length := by rw [q1]; exact (List.getElem?_eq_some_iff.1 hl').1
    have r1 := hr m ls[m] (List.getElem?_eq_getElem hm)
    have l1 := q2 m _ l' (List.getElem?_eq_getElem hm) hl'
    have hkm : ∀ k ∈ idsP l', k < bl.length := fun k hk' => hk k (by simp only [idsL, List.mem_flatMap]; exact ⟨_, List.mem_of_getElem? hl', hk'⟩)
    generalize ls[m] = l at r1 l1
    cases l' with
    | ptr k i j =>
      obtain ⟨id, rfl, hr'⟩ := l1
      obtain ⟨ab, h1, h2, h3⟩ := hat k id hr' (hkm k (by simp [idsP]))
      rcases r1 with hd | ⟨ab2, k1, k2⟩
      · rw [h2] at hd; cases hd
      · rw [h2] at k1; injection k1 with k1; injection k1 with k1; subst k1
        exact .inr ⟨ab, h1, by rw [h3]; exact k2⟩
    | pp cs' =>
      rcases l1 with rfl | ⟨hb, hall, hn⟩
      · exact RL.keep keep r1
      · refine ppCase l _ cs' r1.rx hb hall fun id hid => hn id ?_
        cases l with
        | ptr id' i j => simpa [idsL, idsP] using hid
        | pp cs => simp [idsL] at hid
        | _ => simp [behind] at hb
    | _ =>
      obtain ⟨rfl, hp⟩ := l1
      first | exact RL.keep keep r1 | (simp [persP] at hp)
  | bb p => obtain ⟨⟨rfl, hp⟩, _⟩ := hl; simp [persL] at hp
  | own k s n =>
    rcases hl with ⟨id, rfl, hr⟩ | ⟨rfl, ⟨v, rfl, hv⟩, hr⟩
    · obtain ⟨ab, h1, h2, h3⟩ := hat k id hr (hk k (by simp [idsL]))
      rcases r with hd | ⟨ab2, k1, k2, k3, r⟩
      · rw [h2] at hd; cases hd
      · rw [h2] at k1; injection k1 with k1; injection k1 with k1; subst k1
        exact .inr ⟨ab, h1, k2, k3, by rw [h3]; exact r⟩
    · have hlt : k < bl.length := hk k (by simp [idsL])
      have hk' : hOf (bl.map some) k = some (some bl[k]) := by simp [hOf, hlt]
      rcases fin_own (μ := μ) own hk' with ⟨id', h1, _⟩ | ⟨s', h1, h2, h3, h4⟩
      · rw [hr] at h1; cases h1
      · obtain rfl := isNilSl_spec hv
        cases r
        rw [hr] at h1; injection h1 with h1; injection h1 with h1
        exact .inr ⟨_, hk', by rw [h3, h1], by rw [h2]; rfl, .inl ⟨rfl, none, rfl⟩⟩
  | row k lo n =>
    obtain ⟨id, rfl, hr⟩ := hl
    obtain ⟨ab, h1, h2, h3⟩ := hat k id hr (hk k (by simp [idsL]))
    rcases r with hd | ⟨ab2, k1, k2⟩
    · rw [h2] at hd; cases hd
    · rw [h2] at k1; injection k1 with k1; injection k1 with k1; subst k1
      exact .inr ⟨ab, h1, by rw [h3]; exact k2⟩
  | ptr k i j =>
    obtain ⟨id, rfl, hr⟩ := hl
    obtain ⟨ab, h1, h2, h3⟩ := hat k id hr (hk k (by simp [idsL]))
    rcases r with hd | ⟨ab2, k1, k2⟩
    · rw [h2] at hd; cases hd
    · rw [h2] at k1; injection k1 with k1; injection k1 with k1; subst k1
      exact .inr ⟨ab, h1, by rw [h3]; exact k2⟩
  | sc v =>
    obtain ⟨⟨rfl, _⟩, _⟩ := hl
    cases r; exact RL.sc _
  | sl es =>
    obtain ⟨⟨hro, hor⟩, hn⟩ := hl
    cases l with
    | sl es' => simp [rowsOf] at hro; subst hro; exact RL.keep keep r
    | sc v =>
      simp only [rowsOf] at hro
      split at hro
      · rename_i hv
        injection hro with hro; subst hro
        obtain rfl := isNilSl_spec hv
        cases r
        exact RL.sl [] none 0 0 0 (fun _ _ => undef) rfl (Nat.zero_le _) (fun e he => (by cases he)) (fun i e j l he => (by simp at he)) (fun i e j l he => (by simp at he)) (fun i e j l he => (by simp at he)) (fun _ => rfl)
      · cases hro
    | pp cs => simp [rowsOf] at hro
    | ptr id i j => simp [rowsOf] at hro
    | any => simp [rowsOf] at hro
    | bb p => simp [rowsOf] at hro
    | mp es => simp [rowsOf] at hro
    | clo f ls => simp [rowsOf] at hro
    | arow id i j n =>
      have hall : allP es := hor.resolve_left (by simp [persL])
      have hro' := hro
      simp only [rowsOf] at hro
      split at hro
      · rename_i ab hi
        obtain ⟨A, c, s, hu, R⟩ := rows_spec I r hro'
        subst hu
        rcases r with hd | ⟨ab2, k1, k2, k3, A', c', hu', hc', hg'⟩
        · rw [hi] at hd; cases hd
        · rw [hi] at k1; injection k1 with k1; injection k1 with k1; subst k1
          injection hu' with q1 q2 q3
          subst q1
          have this : ∀ i j, ∃ v, ∀ e x, es[i]? = some e → e[j]? = some x → ∃ p, A = some p ∧ w.cell? (p.add (i * s + j)) = some v ∧ RXc Γ σ.h μ w x v := fun i j => by
            cases he : es[i]? with
            | none => exact ⟨undef, fun e x h => (by cases h)⟩
            | some e => cases hx : e[j]? with
              | none => exact ⟨undef, fun e' x h h' => (by cases h; rw [hx] at h'; cases h')⟩
              | some x =>
                obtain ⟨p, v, hp, hc, hr⟩ := R.at_ i e j x he hx
                exact ⟨v, fun e' x' h h' => (by cases h; rw [hx] at h'; cases h'; exact ⟨p, hp, hc, hr⟩)⟩
          refine RL.sl es A _ c s (fun i j => Classical.choose (this i j)) rfl R.cap R.len (fun i e j x he hx => ?_) (fun i e j x he hx => ?_) (fun i e j x he hx => ?_) R.nil <;>
            obtain ⟨p, hp, hc, hr⟩ := Classical.choose_spec (this i j) e x he hx
          · refine ⟨p, hp, ?_, hc⟩
            have hn0 : 0 < n := by
              have hle := (List.getElem?_eq_some_iff.1 he).1
              rw [q2] at hle; omega
            obtain ⟨g, hg1, hA⟩ := hg' hn0
            rw [hp] at hA; injection hA with hA
            rw [hA]
            exact hblk id ab g hi (hn id (by simp [idsL])) hg1
          · exact RL.keep keep (hr.2.pers (allP_pers hall he hx))
          · exact hr.1
      · cases hro
    | own id s n =>
      have hall : allP es := hor.resolve_left (by simp [persL])
      simp only [rowsOf] at hro
      split at hro
      · rename_i ab hi
        injection hro with hro; subst hro
        rcases r with hd | ⟨ab2, k1, k2, k3, r⟩
        · rw [hi] at hd; cases hd
        · rw [hi] at k1; injection k1 with k1; injection k1 with k1; subst k1
          rcases r with ⟨rfl, A, rfl⟩ | ⟨g, cap, cur, hg, rfl, hw, hcs, hc, hm⟩
          · have h0 : ab.es = [] := List.eq_nil_of_length_eq_zero k3
            rw [h0]
            exact RL.sl [] A 0 0 0 (fun _ _ => undef) rfl (Nat.zero_le _) (fun e he => (by cases he)) (fun i e j l he => (by simp at he)) (fun i e j l he => (by simp at he)) (fun i e j l he => (by simp at he)) (fun _ => rfl)
          · rcases I.at_ id ab hi with ⟨h0, r2⟩ | ⟨g', cur', hg', hw', hl', hr'⟩
            · rw [hg] at r2; cases r2
            · rw [hg] at hg'; cases hg'
              rw [hw] at hw'; cases hw'
              have hG := hblk id ab g hi (hn id (by simp [idsL])) hg
              refine RL.sl ab.es _ _ cap ab.s (fun i j => cur.getD (i * ab.s + j) undef) k3 hc (I.len id ab hi) (fun i e j x he hx => ?_) (fun i e j x he hx => ?_) (fun i e j x he hx => ?_) (fun h => by cases h) <;>
                obtain ⟨u, hu, m1, m2⟩ := hr' i e j x he hx
              · refine ⟨_, rfl, hG, ?_⟩
                rw [Addr_add_mid]
                have hlt := (Array.getElem?_eq_some_iff.1 hu).1
                simp [World.cell?, hw, hlt]
              · have hgd : cur.getD (i * ab.s + j) undef = u := by
                  have hlt := (Array.getElem?_eq_some_iff.1 hu).1
                  have := (Array.getElem?_eq_some_iff.1 hu).2
                  simp [hlt, this]
                rw [hgd]
                exact RL.keep keep (m2.pers (allP_pers hall he hx))
              · have hgd : cur.getD (i * ab.s + j) undef = u := by
                  have hlt := (Array.getElem?_eq_some_iff.1 hu).1
                  have := (Array.getElem?_eq_some_iff.1 hu).2
                  simp [hlt, this]
                rw [hgd]; exact m1
      · cases hro
    | row id lo n =>
      have hall : allP es := hor.resolve_left (by simp [persL])
      have hro' := hro
      simp only [rowsOf] at hro
      split at hro
      · rename_i ab hi
        obtain ⟨A, c, s, hu, R⟩ := rows_spec I r hro'
        subst hu
        rcases r with hd | ⟨ab2, k1, k2, A', c', hu', hc', hg'⟩
        · rw [hi] at hd; cases hd
        · rw [hi] at k1; injection k1 with k1; injection k1 with k1; subst k1
          injection hu' with q1 q2 q3
          subst q1
          have this : ∀ i j, ∃ v, ∀ e x, es[i]? = some e → e[j]? = some x → ∃ p, A = some p ∧ w.cell? (p.add (i * s + j)) = some v ∧ RXc Γ σ.h μ w x v := fun i j => by
            cases he : es[i]? with
            | none => exact ⟨undef, fun e x h => (by cases h)⟩
            | some e => cases hx : e[j]? with
              | none => exact ⟨undef, fun e' x h h' => (by cases h; rw [hx] at h'; cases h')⟩
              | some x =>
                obtain ⟨p, v, hp, hc, hr⟩ := R.at_ i e j x he hx
                exact ⟨v, fun e' x' h h' => (by cases h; rw [hx] at h'; cases h'; exact ⟨p, hp, hc, hr⟩)⟩
          refine RL.sl es A _ c s (fun i j => Classical.choose (this i j)) rfl R.cap R.len (fun i e j x he hx => ?_) (fun i e j x he hx => ?_) (fun i e j x he hx => ?_) R.nil <;>
            obtain ⟨p, hp, hc, hr⟩ := Classical.choose_spec (this i j) e x he hx
          · refine ⟨p, hp, ?_, hc⟩
            have hn0 : 0 < n := by
              have hle := (List.getElem?_eq_some_iff.1 he).1
              rw [q2] at hle; omega
            obtain ⟨g, hg1, hA⟩ := hg' hn0
            rw [hp] at hA; injection hA with hA
            rw [hA, addBlk]
            exact hblk id ab g hi (hn id (by simp [idsL])) hg1
          · exact RL.keep keep (hr.2.pers (allP_pers hall he hx))
          · exact hr.1
      · cases hro
  | pp cs =>
    obtain ⟨⟨hb, hor⟩, hn⟩ := hl
    rcases hor with hor | hor
    · cases l with
      | pp cs' => simp [behind] at hb; subst hb; exact RL.keep keep r
      | ptr id i j => simp [persL] at hor
      | _ => simp [behind] at hb
    · exact ppCase l u cs r hb hor hn

theorem fin_RC (I : Inv Γ σ.h μ w) (nd : ndB ρ = true) (own : finBs σ.h ρ 0 bl) {t t' : T} (hl : finC σ.h ρ t t') {u : Value} (r : RC Γ σ.h μ w t u) (hk : inC bl.length t') : RC Γ (hOf (bl.map some)) (muF ρ μ) w t' u := by
  cases t' with
  | leaf l' =>
    obtain ⟨l, rfl, hl⟩ := hl
    exact fin_RX I nd own hl r (inL_ids hk)
  | agg ls' =>
    obtain ⟨ls, rfl, hl⟩ := hl
    obtain ⟨cs, hu, hs, hr⟩ := r
    obtain ⟨h1, h2⟩ := finLs_at ls ls' hl
    refine ⟨cs, hu, by rw [hs, h1], fun j l' hl' => ?_⟩
    have hj : j < ls.length := by rw [h1]; exact (List.getElem?_eq_some_iff.1 hl').1
    obtain ⟨v, k1, k2, k3⟩ := hr j ls[j] (List.getElem?_eq_getElem hj)
    exact ⟨v, k1, k2, fin_RX I nd own (h2 j _ l' (List.getElem?_eq_getElem hj) hl') k3 (inL_ids (inLs_at hk l' (List.mem_of_getElem? hl')))⟩
  | tup ts => exact hl.elim
theorem fin_RT (I : Inv Γ σ.h μ w) (nd : ndB ρ = true) (own : finBs σ.h ρ 0 bl) {t t' : T} (hl : finT σ.h ρ t t') {u : Value} (r : RT Γ σ.h μ w t u) (hk : inT bl.length t') : RT Γ (hOf (bl.map some)) (muF ρ μ) w t' u := by
  cases t' with
  | leaf l' => obtain ⟨l, rfl, h⟩ := hl; exact fin_RC (t := .leaf l) (t' := .leaf l') I nd own ⟨l, rfl, h⟩ r hk
  | agg ls' => obtain ⟨l, rfl, h⟩ := hl; exact fin_RC (t := .agg l) (t' := .agg ls') I nd own ⟨l, rfl, h⟩ r hk
  | tup ts' =>
    obtain ⟨ts, rfl, hl⟩ := hl
    obtain ⟨vs, hu, hs, hr⟩ := r
    obtain ⟨h1, h2⟩ := finCs_at ts ts' hl
    refine ⟨vs, hu, by rw [hs, h1], fun j l' hl' => ?_⟩
    have hj : j < ts.length := by rw [h1]; exact (List.getElem?_eq_some_iff.1 hl').1
    obtain ⟨v, k1, k2⟩ := hr j ts[j] (List.getElem?_eq_getElem hj)
    exact ⟨v, k1, fin_RC I nd own (h2 j _ l' (List.getElem?_eq_getElem hj) hl') k2 (inCs_at hk l' (List.mem_of_getElem? hl'))⟩
theorem fin_Inv (I : Inv Γ σ.h μ w) (nd : ndB ρ = true) (own : finBs σ.h ρ 0 bl) : Inv Γ (hOf (bl.map some)) (muF ρ μ) w := by
  refine ⟨fun k ab hk e he => ?_, fun k ab hk => ?_, fun k k' a b g h1 h2 g1 g2 => ?_, I.base, fun k ab g hk hg => ?_⟩
  · rcases fin_own (μ := μ) own hk with ⟨id, h1, h2, h3, h4⟩ | ⟨s, h1, h2, h3, h4⟩
    · exact I.len id ab h2 e he
    · rw [h2] at he; cases he
  · rcases fin_own (μ := μ) own hk with ⟨id, h1, h2, h3, h4⟩ | ⟨s, h1, h2, h3, h4⟩
    · rw [h4]
      refine (I.at_ id ab h2).imp (fun h => h) fun ⟨g, cur, q1, q2, q3, q4⟩ => ⟨g, cur, q1, q2, q3, fun i e j l he hl => ?_⟩
      obtain ⟨u, hu, m1, m2⟩ := q4 i e j l he hl
      have hp := allP_pers h3 he hl
      refine ⟨u, hu, m1, fin_RX I nd own (l := l) (l' := l) ?_ m2 (by rw [(leL_pers (ρ := []) hp).2]; simp)⟩
      cases l with
      | sc v => exact ⟨⟨rfl, rfl⟩, by simp [idsL]⟩
      | sl es => exact ⟨⟨rfl, .inl rfl⟩, by simp [idsL]⟩
      | pp cs => exact ⟨⟨rfl, .inl rfl⟩, by simp [idsL]⟩
      | mp es => exact ⟨⟨rfl, rfl⟩, by simp [idsL]⟩
      | clo f ls =>
        have h' : ∀ x ∈ ls, persP x = true := by simpa [persL] using hp
        refine ⟨ls, rfl, ?_⟩
        clear hp m1 m2 hu hl
        induction ls with
        | nil => trivial
        | cons x xs ih =>
          refine ⟨?_, ih fun y hy => h' y (by simp [hy])⟩
          have hx := h' x (by simp)
          cases x with
          | pp cs => exact .inl rfl
          | ptr id i j => simp [persP] at hx
          | _ => exact ⟨rfl, hx⟩
      | _ => simp [persL] at hp
    · exact .inl ⟨h2, h4⟩
  · rcases fin_own (μ := μ) own h1 with ⟨id, k1, k2, _, k4⟩ | ⟨s, _, _, _, k4⟩
    · rcases fin_own (μ := μ) own h2 with ⟨id', q1, q2, _, q4⟩ | ⟨s, _, _, _, q4⟩
      · rw [k4] at g1; rw [q4] at g2
        have := I.inj id id' a b g k2 q2 g1 g2
        subst this
        exact ndB_inj nd k k' id k1 q1
      · rw [q4] at g2; cases g2
    · rw [k4] at g1; cases g1
  · rcases fin_own (μ := μ) own hk with ⟨id, k1, k2, _, k4⟩ | ⟨s, _, _, _, k4⟩
    · rw [k4] at hg; exact I.own id ab g k2 hg
    · rw [k4] at hg; cases hg
end

/-! ### A function's results -/
def resOne (P : Program) (σ : St) : ResultVar → Option T
  | .tmp t => σ.tm[t]?
  | .cell a t => match σ.ev (.tmp a) with
    | .leaf l => (behind σ.h l).bind (takeT P t)
    | _ => none
def resMany (P : Program) (σ : St) : List ResultVar → Option (List T)
  | [] => some []
  | x :: xs => match resOne P σ x, resMany P σ xs with
    | some t, some ts => if notTup t then some (t :: ts) else none
    | _, _ => none
def resT (P : Program) (σ : St) (rs : List ResultVar) : Option T :=
  match rs with
  | [x] => resOne P σ x
  | xs => (resMany P σ xs).map .tup

theorem resOne_spec {P : Program} {σ : St} {μ : Pos} {a : Array Value} {w : World} (I : Inv Γ σ.h μ w) (F : FrameR Γ σ.h μ w σ.tm a) {x : ResultVar} {t : T} (h : resOne P σ x = some t) :
    ∃ v, ((match x with | .tmp t => pure (a.getD t undef) | .cell b t => do loadVar t (← asAddr (a.getD b undef)) : Sem Value)).run P w = .ok v w ∧ RT Γ σ.h μ w t v := by
  cases x with
  | tmp i => exact ⟨a.getD i undef, rfl, F.2 i t h⟩
  | cell b ty =>
    simp only [resOne] at h
    split at h
    · rename_i l hl
      obtain ⟨cs, hb, ht⟩ := Option.bind_eq_some_iff.1 h
      have r := F.eval (a := ⟨a, []⟩) (.tmp b)
      rw [show evalT σ.tm (.tmp b) = .leaf l from hl] at r
      obtain ⟨p, hp, _⟩ := behind_spec I (l := l) r hb
      have hpv : a.getD b undef = .pointer (some p) := hp
      obtain ⟨v, h1, h2⟩ := load_run (P := P) (t := ty) I (l := l) r hb ht hp
      exact ⟨v, by simp [hpv, asAddr, h1], h2⟩
    · cases h
end Go.Proofs.Ytfppilpaaoklaaa
