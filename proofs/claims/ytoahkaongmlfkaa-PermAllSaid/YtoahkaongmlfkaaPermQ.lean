/- Shuffles as lists: which may be, their inverses, what they do to parts. -/
import Derived.Test.YtoahkaongmlfkaaPermS
namespace Go.Proofs.Ytoahkaongmlfkaa
set_option linter.unusedSimpArgs false
set_option linter.unusedVariables false

/-- P11.2. -/
def okP (l : List Int) : Bool := decide (l.length ≤ 1024 ∧ (∀ z ∈ l, 0 ≤ z ∧ z < l.length) ∧ l.Nodup)
def chkP (l : List Int) : Int := if okP l then 0 else 1
theorem chkP_cases (l : List Int) : (chkP l = 0 ∧ okP l = true) ∨ (chkP l = 1 ∧ okP l = false) := by
  unfold chkP
  cases h : okP l
  · exact .inr ⟨rfl, rfl⟩
  · exact .inl ⟨rfl, rfl⟩
theorem okP_spec {l : List Int} (h : okP l = true) : l.length ≤ 1024 ∧ (∀ z ∈ l, 0 ≤ z ∧ z < l.length) ∧ l.Nodup := of_decide_eq_true h
theorem chkP_bad {l : List Int} (h : ¬ ((∀ z ∈ l, 0 ≤ z ∧ z < l.length) ∧ l.Nodup)) : chkP l = 1 := by
  unfold chkP okP
  rw [decide_eq_false (fun hh => h hh.2)]
  rfl
theorem chkP_good {l : List Int} (h8 : l.length ≤ 1024) (h : (∀ z ∈ l, 0 ≤ z ∧ z < l.length) ∧ l.Nodup) : chkP l = 0 := by
  unfold chkP okP
  rw [decide_eq_true ⟨h8, h⟩]
  rfl

def at0 (l : List Int) (k : Nat) : Int := l.getD k 0
theorem at0_eq {l : List Int} {k : Nat} (h : k < l.length) : l[k]? = some (at0 l k) := by simp [at0, List.getD, h]
theorem at0_mem {l : List Int} {k : Nat} (h : k < l.length) : at0 l k ∈ l := List.mem_of_getElem? (at0_eq h)
theorem mem_at0 {l : List Int} {z : Int} (h : z ∈ l) : ∃ k, k < l.length ∧ at0 l k = z := by
  obtain ⟨k, hk⟩ := List.getElem?_of_mem h
  have hlt := (List.getElem?_eq_some_iff.1 hk).1
  refine ⟨k, hlt, ?_⟩
  have := at0_eq hlt
  rw [hk] at this
  exact (Option.some.inj this).symm
/-- No number stands twice. -/
def Inj (l : List Int) : Prop := ∀ a b, a < l.length → b < l.length → at0 l a = at0 l b → a = b
theorem nodup_inj {l : List Int} : l.Nodup ↔ Inj l := by
  constructor
  · intro h a b ha hb e
    rw [List.Nodup, List.pairwise_iff_getElem] at h
    have ea := at0_eq ha
    have eb := at0_eq hb
    rw [List.getElem?_eq_getElem ha] at ea
    rw [List.getElem?_eq_getElem hb] at eb
    rcases Nat.lt_trichotomy a b with hlt | he | hlt
    · exact absurd ((Option.some.inj ea).trans (e.trans (Option.some.inj eb).symm)) (h a b ha hb hlt)
    · exact he
    · exact absurd ((Option.some.inj eb).trans (e.symm.trans (Option.some.inj ea).symm)) (h b a hb ha hlt)
  · intro h
    rw [List.Nodup, List.pairwise_iff_getElem]
    intro a b ha hb hlt e
    have ea := at0_eq ha
    have eb := at0_eq hb
    rw [List.getElem?_eq_getElem ha] at ea
    rw [List.getElem?_eq_getElem hb] at eb
    have := h a b ha hb (by rw [← Option.some.inj ea, ← Option.some.inj eb]; exact e)
    omega
theorem ext_at0 {l m : List Int} (hl : l.length = m.length) (h : ∀ k, k < l.length → at0 l k = at0 m k) : l = m := by
  apply List.ext_getElem?
  intro k
  by_cases hk : k < l.length
  · rw [at0_eq hk, at0_eq (hl ▸ hk), h k hk]
  · rw [List.getElem?_eq_none (by omega), List.getElem?_eq_none (by omega)]

/-- Pigeons and holes. -/
theorem pigeons : ∀ (n : Nat) (l : List Nat), l.Nodup → (∀ z ∈ l, z < n) → l.length ≤ n ∧ (l.length = n → ∀ j, j < n → j ∈ l)
  | 0, l, _, h => by
    have : l = [] := by
      rcases l with _ | ⟨x, r⟩
      · rfl
      · exact absurd (h x List.mem_cons_self) (by omega)
    subst this
    exact ⟨by simp, fun _ j hj => by omega⟩
  | n + 1, l, hd, h => by
    by_cases hm : n ∈ l
    · have h1 := pigeons n (l.erase n) (hd.erase n) (fun z hz => by
        have h2 := (List.Nodup.mem_erase_iff hd).1 hz
        have := h z h2.2
        have := h2.1
        omega)
      have hl := List.length_erase_of_mem hm
      have hp := List.length_pos_of_mem hm
      refine ⟨by omega, fun e j hj => ?_⟩
      by_cases hjn : j = n
      · rw [hjn]; exact hm
      · exact List.mem_of_mem_erase (h1.2 (by omega) j (by omega))
    · have h1 := pigeons n l hd (fun z hz => by
        have := h z hz
        have : z ≠ n := fun e => hm (e ▸ hz)
        omega)
      exact ⟨by omega, fun e => by omega⟩
/-- Each number below n stands in a shuffle. -/
theorem okP_all {l : List Int} (h : okP l = true) (j : Nat) (hj : j < l.length) : ∃ v, v < l.length ∧ at0 l v = (j : Int) := by
  obtain ⟨_, hr, hd⟩ := okP_spec h
  have hd' : (l.map Int.toNat).Nodup := by
    rw [List.Nodup, List.pairwise_map]
    refine List.Pairwise.imp_of_mem ?_ hd
    intro a b ha hb hne e
    have := hr a ha
    have := hr b hb
    omega
  have := (pigeons l.length (l.map Int.toNat) hd' (fun z hz => by
    obtain ⟨y, hy, rfl⟩ := List.mem_map.1 hz
    have := hr y hy
    omega)).2 (by simp) j hj
  obtain ⟨y, hy, hyj⟩ := List.mem_map.1 this
  obtain ⟨v, hv, e⟩ := mem_at0 hy
  have := hr y hy
  exact ⟨v, hv, by omega⟩

/-! ### The inverse -/
def invA (l : List Int) (k : Nat) : List Int := (List.range k).foldl (fun o i => o.set (at0 l i).toNat (i : Int)) (List.replicate l.length 0)
theorem invA_next (l : List Int) (k : Nat) : invA l (k + 1) = (invA l k).set (at0 l k).toNat (k : Int) := by
  unfold invA; rw [List.range_succ, List.foldl_append]; rfl
theorem invA_len (l : List Int) (k : Nat) : (invA l k).length = l.length := by
  induction k with
  | zero => simp [invA]
  | succ k ih => rw [invA_next, List.length_set, ih]
def invL (l : List Int) : List Int := invA l l.length
theorem invL_len (l : List Int) : (invL l).length = l.length := invA_len _ _
theorem at0_set {l : List Int} {i k : Nat} {z : Int} (hi : i < l.length) : at0 (l.set i z) k = if k = i then z else at0 l k := by
  unfold at0 List.getD
  rw [List.getElem?_set]
  by_cases h : i = k
  · subst h; simp [hi]
  · rw [if_neg h, if_neg (fun e => h e.symm)]
theorem invA_at {l : List Int} (h : okP l = true) : ∀ k, k ≤ l.length → ∀ v, v < k → at0 (invA l k) (at0 l v).toNat = (v : Int) := by
  obtain ⟨_, hr, hd⟩ := okP_spec h
  have hinj := nodup_inj.1 hd
  intro k
  induction k with
  | zero => intro _ v hv; omega
  | succ k ih =>
    intro hk v hv
    have hrk := hr _ (at0_mem (l := l) (k := k) (by omega))
    have hrv := hr _ (at0_mem (l := l) (k := v) (by omega))
    rw [invA_next, at0_set (by rw [invA_len]; omega)]
    by_cases hvk : v = k
    · subst hvk; simp
    · rw [if_neg (fun e => hvk (hinj v k (by omega) (by omega) (by omega)))]
      exact ih (by omega) v (by omega)
theorem invL_at {l : List Int} (h : okP l = true) (v : Nat) (hv : v < l.length) : at0 (invL l) (at0 l v).toNat = (v : Int) := invA_at h _ (Nat.le_refl _) v hv
/-- Where each number stands. -/
theorem invL_where {l : List Int} (h : okP l = true) (i : Nat) (hi : i < l.length) : ∃ v : Nat, v < l.length ∧ at0 (invL l) i = (v : Int) ∧ at0 l v = (i : Int) := by
  obtain ⟨v, hv, e⟩ := okP_all h i hi
  have := invL_at h v hv
  rw [e, Int.toNat_natCast] at this
  exact ⟨v, hv, this, e⟩
theorem okP_inv {l : List Int} (h : okP l = true) : okP (invL l) = true := by
  have hw := fun i hi => invL_where h i hi
  unfold okP
  refine decide_eq_true ⟨by rw [invL_len]; exact (okP_spec h).1, ?_, nodup_inj.2 ?_⟩
  · intro z hz
    obtain ⟨k, hk, rfl⟩ := mem_at0 hz
    rw [invL_len] at hk ⊢
    obtain ⟨v, hv, e, _⟩ := hw k hk
    omega
  · intro a b ha hb e
    rw [invL_len] at ha hb
    obtain ⟨v, hv, e1, e2⟩ := hw a ha
    obtain ⟨u, hu, e3, e4⟩ := hw b hb
    have : v = u := by omega
    subst this
    omega
theorem inv_inv {l : List Int} (h : okP l = true) : invL (invL l) = l := by
  refine ext_at0 (by rw [invL_len, invL_len]) fun k hk => ?_
  rw [invL_len, invL_len] at hk
  obtain ⟨hlen, hr, hd⟩ := okP_spec h
  have hz := hr _ (at0_mem hk)
  obtain ⟨v, hv, e1, e2⟩ := invL_where h (at0 l k).toNat (by omega)
  have hvk : v = k := nodup_inj.1 hd v k hv hk (by omega)
  subst hvk
  have := invL_at (okP_inv h) (at0 l v).toNat (by rw [invL_len]; omega)
  rw [e1, Int.toNat_natCast] at this
  omega

/-! ### What a shuffle does to parts -/
def appL (l : List Int) (xs : List (List UInt8)) : List (List UInt8) := l.map fun z => xs.getD z.toNat []
theorem appL_len (l : List Int) (xs : List (List UInt8)) : (appL l xs).length = l.length := by simp [appL]
theorem appL_at (l : List Int) (xs : List (List UInt8)) (k : Nat) (hk : k < l.length) : (appL l xs)[k]? = some (xs.getD (at0 l k).toNat []) := by
  unfold appL
  rw [List.getElem?_map, at0_eq hk]
  rfl
theorem app_back {l : List Int} (h : okP l = true) (xs : List (List UInt8)) (hx : xs.length = l.length) : appL (invL l) (appL l xs) = xs := by
  apply List.ext_getElem?
  intro i
  by_cases hi : i < l.length
  · obtain ⟨v, hv, e1, e2⟩ := invL_where h i hi
    rw [appL_at _ _ i (by rw [invL_len]; exact hi), e1, Int.toNat_natCast]
    simp only [List.getD]
    rw [appL_at _ _ v hv, e2]
    simp [List.getD, hx, hi]
  · rw [List.getElem?_eq_none (by rw [appL_len, invL_len]; omega), List.getElem?_eq_none (by omega)]

/-! ### A shuffle by draws may be -/
theorem at0_swap {p : List Int} {i j k : Nat} (hi : i < p.length) (hj : j < p.length) : at0 (swapL p i j) k = if k = j then at0 p i else if k = i then at0 p j else at0 p k := by
  unfold swapL
  rw [at0_set (by rw [List.length_set]; exact hj), at0_set hi]
  rfl
theorem okP_swap {p : List Int} {i j : Nat} (h : okP p = true) (hi : i < p.length) (hj : j < p.length) : okP (swapL p i j) = true := by
  obtain ⟨hlen, hr, hd⟩ := okP_spec h
  have hinj := nodup_inj.1 hd
  unfold okP
  refine decide_eq_true ⟨by rw [swapL_len]; exact hlen, ?_, nodup_inj.2 ?_⟩
  · intro z hz
    obtain ⟨k, hk, rfl⟩ := mem_at0 hz
    rw [swapL_len] at hk ⊢
    rw [at0_swap hi hj]
    split
    · exact hr _ (at0_mem hi)
    · split
      · exact hr _ (at0_mem hj)
      · exact hr _ (at0_mem hk)
  · intro a b ha hb e
    rw [swapL_len] at ha hb
    rw [at0_swap hi hj, at0_swap hi hj] at e
    split at e
    · split at e
      · omega
      · split at e
        · have := hinj _ _ hi hj e; omega
        · have := hinj _ _ hi hb e; omega
    · split at e
      · split at e
        · have := hinj _ _ hj hi e; omega
        · split at e
          · omega
          · have := hinj _ _ hj hb e; omega
      · split at e
        · have := hinj _ _ ha hi e; omega
        · split at e
          · have := hinj _ _ ha hj e; omega
          · exact hinj _ _ ha hb e
theorem okP_id (n : Nat) (h : n ≤ 1024) : okP (idL n) = true := by
  have hat : ∀ k, k < n → at0 (idL n) k = (k : Int) := fun k hk => by simp [at0, idL, List.getD, hk]
  unfold okP
  refine decide_eq_true ⟨by rw [idL_len]; exact h, ?_, nodup_inj.2 ?_⟩
  · intro z hz
    obtain ⟨k, hk, rfl⟩ := mem_at0 hz
    rw [idL_len] at hk ⊢
    rw [hat k hk]
    omega
  · intro a b ha hb e
    rw [idL_len] at ha hb
    rw [hat a ha, hat b hb] at e
    omega
theorem okP_shuf (ds : List Int) (n : Nat) (h : n ≤ 1024) : ∀ pre : List Nat, (∀ i ∈ pre, i < n) → okP (shufA ds (idL n) pre).1 = true := by
  intro pre
  generalize hk : pre.length = k
  induction k generalizing pre with
  | zero => intro _; rw [List.eq_nil_of_length_eq_zero hk]; exact okP_id n h
  | succ k ih =>
    intro hp
    rcases snocN pre with rfl | ⟨r, x, rfl⟩
    · exact okP_id n h
    · have hr := ih r (by simpa using hk) (fun i hi => hp i (List.mem_append_left _ hi))
      have hx := hp x (List.mem_append_right _ List.mem_cons_self)
      have hl := (shufA_facts ds (idL n) r).1
      rw [idL_len] at hl
      rw [shufA_snoc]
      have hj := (leftS_val (ds.getD (shufA ds (idL n) r).2 0) (x + 1) (by omega)).2.1
      exact okP_swap hr (by omega) (by omega)
theorem okP_shufS (ds : List Int) (n : Nat) (h : n ≤ 1024) : okP (shufS ds n) = true := okP_shuf ds n h _ (fun i hi => by
  unfold downL at hi
  have := List.mem_range'.1 (List.mem_reverse.1 hi)
  omega)
end Go.Proofs.Ytoahkaongmlfkaa
