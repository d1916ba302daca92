/- A region, in whatever order it draws: what each operation does to plain values, and that the order says nothing. -/
import Derived.Test.YtfppilpaaoklaaaPw1
import Derived.Orders
import Derived.Tactics
namespace Go.Proofs.Ytfppilpaaoklaaa
set_option linter.unusedSimpArgs false
set_option linter.unusedVariables false
open Go Go.RowKit
variable {Γ : Ctx}

structure Eff where
  val : T
  reads : List Nat
  writes : List (Nat × Option AB)
def Eff.wids (e : Eff) : List Nat := e.writes.map (·.1)
def Eff.ids (e : Eff) : List Nat := e.reads ++ e.wids

def undefT : T := .leaf (.sc (.tuple #[]))
def OpT (Γ : Ctx) (P : Program) (o : Oper) (tm : List T) (h : Heap) (e : Eff) : Prop :=
  ∀ (tm' : List T) (h' : Heap) (μ : Pos) (a : Act) (w : World),
    (∀ x ∈ o.op.operands, evalT tm' x = evalT tm x) → (∀ id ∈ e.ids, h' id = h id) → Inv Γ h' μ w → FrameR Γ h' μ w tm' a.tmps →
    ∀ (K : Act → World → Prop) (Q : Exit → Act → World → Prop),
      (∀ v μ' w', Evo h' μ w (upd h' e.writes) μ' w' → Inv Γ (upd h' e.writes) μ' w' → RT Γ (upd h' e.writes) μ' w' e.val v → K (a.put o.dst v) w') → o.wp P a w K Q

/-- Whether the operation is wanted. -/
def GuardIs (ops : Array Oper) (o : Oper) (tm : List T) (b : Bool) : Prop :=
  match o.guard with
  | none => b = true
  | some (g, want) => match (ops[g]?).bind (·.dst) with
    | some d => (∃ x : Bool, tm[d]? = some (.leaf (.sc (.bool x))) ∧ b = (x == want)) ∨ (tm[d]? = some undefT ∧ b = false)
    | none => b = false

def OpR (Γ : Ctx) (P : Program) (ops : Array Oper) (o : Oper) (tm : List T) (h : Heap) (e : Eff) : Prop :=
  (GuardIs ops o tm true ∧ OpT Γ P o tm h e) ∨ (GuardIs ops o tm false ∧ e = ⟨undefT, [], []⟩)

theorem GuardIs.wanted {ops : Array Oper} {o : Oper} {tm : List T} {b : Bool} (hg : GuardIs ops o tm b) {h : Heap} {μ : Pos} {w : World} {a : Array Value} (r : FrameR Γ h μ w tm a) : Region.wanted o (yielded ops a) = b := by
  unfold GuardIs at hg
  unfold Region.wanted
  cases hgd : o.guard with
  | none => rw [hgd] at hg; simp at hg; simp [hg]
  | some gw =>
    obtain ⟨g, want⟩ := gw
    rw [hgd] at hg
    simp only at hg ⊢
    unfold yielded
    cases hd : (ops[g]?).bind (·.dst) with
    | none => rw [hd] at hg; simp at hg; subst hg; simp
    | some d =>
      rw [hd] at hg
      simp only at hg
      rcases hg with ⟨x, hx, rfl⟩ | ⟨hx, rfl⟩
      · have h1 := r.2 d _ hx
        have h2 : d < a.size := by rw [r.1.1]; exact (List.getElem?_eq_some_iff.1 hx).1
        have h3 : a.getD d undef = .bool x := by generalize a.getD d undef = z at h1; cases h1; rfl
        have h4 : a[d]? = some (.bool x) := by simp [h2] at h3 ⊢; exact h3
        simp [h4]
      · have h1 := r.2 d _ hx
        have h2 : d < a.size := by rw [r.1.1]; exact (List.getElem?_eq_some_iff.1 hx).1
        have h3 : a.getD d undef = .tuple #[] := by generalize a.getD d undef = z at h1; cases h1; rfl
        have h4 : a[d]? = some (.tuple #[]) := by simp [h2] at h3 ⊢; exact h3
        simp [h4]

theorem GuardIs.congr {ops : Array Oper} {o : Oper} {tm tm' : List T} {b : Bool} (hg : GuardIs ops o tm b) (hs : ∀ t ∈ o.looksAt ops, tm'[t]? = tm[t]?) : GuardIs ops o tm' b := by
  unfold GuardIs at *
  cases hgd : o.guard with
  | none => rw [hgd] at hg; exact hg
  | some gw =>
    obtain ⟨g, want⟩ := gw
    rw [hgd] at hg
    simp only at hg ⊢
    cases hd : (ops[g]?).bind (·.dst) with
    | none => rw [hd] at hg; exact hg
    | some d =>
      rw [hd] at hg
      simp only at hg ⊢
      have := hs d (by unfold Oper.looksAt; rw [hgd]; simp only; rw [hd]; simp)
      rw [this]; exact hg

theorem evalT_congr {o : Oper} {ops : Array Oper} {tm tm' : List T} (hs : ∀ t ∈ o.looksAt ops, tm'[t]? = tm[t]?) : ∀ x ∈ o.op.operands, evalT tm' x = evalT tm x := by
  intro x hx
  cases x with
  | tmp t =>
    have := hs t (by unfold Oper.looksAt; exact List.mem_append_left _ (List.mem_filterMap.2 ⟨.tmp t, by simpa using hx, rfl⟩))
    simp only [evalT, this]
  | const v => cases v <;> rfl
  | _ => rfl

/-! ### Those that are selected, in the order of the text -/
section
variable (ops : Array Oper) (effs : List Eff) (tm0 : List T) (h0 : Heap)
def TM (sel : Nat → Bool) : Nat → List T
  | 0 => tm0
  | n + 1 => match sel n, ops[n]?, effs[n]? with
    | true, some o, some e => putT (TM sel n) o.dst e.val
    | _, _, _ => TM sel n
def HM (sel : Nat → Bool) : Nat → Heap
  | 0 => h0
  | n + 1 => match sel n, effs[n]? with
    | true, some e => upd (HM sel n) e.writes
    | _, _ => HM sel n
end

theorem putT_get {tm : List T} {dst : Option Tmp} {v : T} {t : Nat} (h : dst ≠ some t) : (putT tm dst v)[t]? = tm[t]? := by
  cases dst with
  | none => rfl
  | some d =>
    have : d ≠ t := fun e => h (by rw [e])
    simp [putT, List.getElem?_set, this]
theorem putT_get_eq {tm tm' : List T} {dst : Option Tmp} {v : T} {t : Nat} (h : tm[t]? = tm'[t]?) : (putT tm dst v)[t]? = (putT tm' dst v)[t]? := by
  cases dst with
  | none => exact h
  | some d =>
    simp only [putT, List.getElem?_set]
    by_cases hd : d = t
    · subst hd
      have : d < tm.length ↔ d < tm'.length := by
        constructor
        · intro hl
          have h2 : tm'[d]? = some tm[d] := by rw [← h]; exact List.getElem?_eq_getElem hl
          exact (List.getElem?_eq_some_iff.1 h2).1
        · intro hl
          have h2 : tm[d]? = some tm'[d] := by rw [h]; exact List.getElem?_eq_getElem hl
          exact (List.getElem?_eq_some_iff.1 h2).1
      simp [this]
    · simp [hd, h]
theorem putT_comm {tm : List T} {x y : Option Tmp} {u v : T} (h : ∀ d, x = some d → y ≠ some d) : putT (putT tm x u) y v = putT (putT tm y v) x u := by
  cases x with
  | none => rfl
  | some d => cases y with
    | none => rfl
    | some e =>
      have hne : d ≠ e := fun he => h d rfl (by rw [he])
      simp only [putT]
      exact List.set_comm _ _ hne
theorem upd_at {h : Heap} {ws : List (Nat × Option AB)} {i : Nat} (hi : i ∉ ws.map (·.1)) : upd h ws i = h i := by
  have : ws.lookup i = none := by
    rw [List.lookup_eq_none_iff]
    intro p hp
    have : i ≠ p.1 := fun e => hi (List.mem_map.2 ⟨p, hp, e.symm⟩)
    simpa using this
  simp [upd, this]
theorem upd_at_eq {h h' : Heap} {ws : List (Nat × Option AB)} {i : Nat} (hi : h i = h' i) : upd h ws i = upd h' ws i := by simp [upd, hi]
theorem upd_comm {h : Heap} {ws vs : List (Nat × Option AB)} (hd : ∀ i ∈ ws.map (·.1), i ∉ vs.map (·.1)) : upd (upd h ws) vs = upd (upd h vs) ws := by
  funext i
  by_cases hi : i ∈ ws.map (·.1)
  · have hv := hd i hi
    rw [upd_at hv]
    exact upd_at_eq (upd_at hv).symm
  · rw [upd_at hi]
    exact upd_at_eq (upd_at hi)

section
variable {ops : Array Oper} {effs : List Eff} {tm0 : List T} {h0 : Heap}
theorem TM_agree {sel sel' : Nat → Bool} {t : Nat} : ∀ n, (∀ k o, k < n → ops[k]? = some o → o.dst = some t → sel k = sel' k) → (TM ops effs tm0 sel n)[t]? = (TM ops effs tm0 sel' n)[t]?
  | 0, _ => rfl
  | n + 1, h => by
    have ih := TM_agree n (fun k o hk => h k o (by omega))
    simp only [TM]
    cases ho : ops[n]? with
    | none => cases sel n <;> cases sel' n <;> exact ih
    | some o =>
      by_cases hd : o.dst = some t
      · rw [← h n o (by omega) ho hd]
        cases sel n <;> cases effs[n]? <;> first | exact ih | exact putT_get_eq ih
      · cases sel n <;> cases sel' n <;> cases effs[n]? <;> simp only [putT_get hd] <;> exact ih
theorem HM_agree {sel sel' : Nat → Bool} {i : Nat} : ∀ n, (∀ k e, k < n → effs[k]? = some e → i ∈ e.wids → sel k = sel' k) → HM effs h0 sel n i = HM effs h0 sel' n i
  | 0, _ => rfl
  | n + 1, h => by
    have ih := HM_agree n (fun k e hk => h k e (by omega))
    simp only [HM]
    cases he : effs[n]? with
    | none => cases sel n <;> cases sel' n <;> exact ih
    | some e =>
      by_cases hd : i ∈ e.wids
      · rw [← h n e (by omega) he hd]
        cases sel n
        · exact ih
        · exact upd_at_eq ih
      · cases sel n <;> cases sel' n <;> simp only [] <;> first | exact ih | (rw [upd_at hd]; exact ih) | (rw [upd_at hd]; exact ih) | skip
        · rw [upd_at hd, upd_at hd]; exact ih
theorem TM_ext {sel sel' : Nat → Bool} : ∀ n, (∀ k, k < n → sel k = sel' k) → TM ops effs tm0 sel n = TM ops effs tm0 sel' n
  | 0, _ => rfl
  | n + 1, h => by simp only [TM, h n (by omega), TM_ext n (fun k hk => h k (by omega))]
theorem HM_ext {sel sel' : Nat → Bool} : ∀ n, (∀ k, k < n → sel k = sel' k) → HM effs h0 sel n = HM effs h0 sel' n
  | 0, _ => rfl
  | n + 1, h => by simp only [HM, h n (by omega), HM_ext n (fun k hk => h k (by omega))]
/-- One more is selected. -/
theorem TM_more {sel : Nat → Bool} {i : Nat} {o : Oper} {e : Eff} (ho : ops[i]? = some o) (he : effs[i]? = some e) : ∀ n, i < n → (∀ k p d, i < k → k < n → sel k = true → ops[k]? = some p → o.dst = some d → p.dst ≠ some d) →
    sel i = false → TM ops effs tm0 (fun k => if k = i then true else sel k) n = putT (TM ops effs tm0 sel n) o.dst e.val
  | 0, h, _, _ => by omega
  | n + 1, h, hd, hi => by
    by_cases hn : n = i
    · subst hn
      simp only [TM, if_true, ho, he, hi]
      rw [TM_ext n (fun k hk => if_neg (by omega))]
    · have ih := TM_more ho he n (by omega) (fun k p d h1 h2 => hd k p d h1 (by omega)) hi
      simp only [TM, if_neg hn]
      cases hs : sel n with
      | false => simp only; exact ih
      | true =>
        cases hp : ops[n]? with
        | none => simp only; exact ih
        | some p => cases hq : effs[n]? with
          | none => simp only; exact ih
          | some q =>
            simp only
            rw [ih]
            exact putT_comm (fun d hd' => hd n p d (by omega) (by omega) hs hp hd')
theorem HM_more {sel : Nat → Bool} {i : Nat} {e : Eff} (he : effs[i]? = some e) : ∀ n, i < n → (∀ k q, i < k → k < n → sel k = true → effs[k]? = some q → ∀ x ∈ e.wids, x ∉ q.wids) →
    sel i = false → HM effs h0 (fun k => if k = i then true else sel k) n = upd (HM effs h0 sel n) e.writes
  | 0, h, _, _ => by omega
  | n + 1, h, hd, hi => by
    by_cases hn : n = i
    · subst hn
      simp only [HM, if_true, he, hi]
      rw [HM_ext n (fun k hk => if_neg (by omega))]
    · have ih := HM_more he n (by omega) (fun k q h1 h2 => hd k q h1 (by omega)) hi
      simp only [HM, if_neg hn]
      cases hs : sel n with
      | false => simp only; exact ih
      | true =>
        cases hq : effs[n]? with
        | none => simp only; exact ih
        | some q =>
          simp only
          rw [ih]
          exact upd_comm (hd n q (by omega) (by omega) hs hq)
end

/-! ### Who comes ahead of whom -/
def maskOf (o : Oper) (acc : List Nat) : Nat := o.after.toList.foldl (fun s e => if Region.binds .any e then s ||| 2 ^ e.on ||| acc.getD e.on 0 else s) 0
def masksFrom : List Oper → List Nat → List Nat
  | [], acc => acc
  | o :: r, acc => masksFrom r (acc ++ [maskOf o acc])
def masks (ops : Array Oper) : List Nat := masksFrom ops.toList []

theorem masksFrom_keep : ∀ (l : List Oper) (acc : List Nat) (k : Nat), k < acc.length → (masksFrom l acc)[k]? = acc[k]?
  | [], _, _, _ => rfl
  | o :: r, acc, k, h => by
    rw [masksFrom, masksFrom_keep r _ k (by simp; omega), List.getElem?_append_left h]
theorem masksFrom_at : ∀ (l : List Oper) (acc : List Nat) (k : Nat) (o : Oper), l[k]? = some o → (masksFrom l acc)[acc.length + k]? = some (maskOf o ((masksFrom l acc).take (acc.length + k)))
  | [], _, _, _, h => by simp at h
  | p :: r, acc, 0, o, h => by
    simp at h; subst h
    rw [masksFrom, Nat.add_zero, masksFrom_keep r _ acc.length (by simp)]
    have : (masksFrom r (acc ++ [maskOf p acc])).take acc.length = acc := by
      apply List.ext_getElem?
      intro j
      rw [List.getElem?_take]
      by_cases hj : j < acc.length
      · rw [if_pos hj, masksFrom_keep r _ j (by simp; omega), List.getElem?_append_left hj]
      · rw [if_neg hj, List.getElem?_eq_none (by omega)]
    rw [this]
    simp
  | p :: r, acc, k + 1, o, h => by
    have := masksFrom_at r (acc ++ [maskOf p acc]) k o (by simpa using h)
    simp only [List.length_append, List.length_cons, List.length_nil, Nat.zero_add] at this
    rw [masksFrom, show acc.length + (k + 1) = acc.length + 1 + k by omega]
    exact this

theorem foldl_bit (acc : List Nat) (i : Nat) : ∀ (l : List Edge) (s : Nat), (l.foldl (fun s e => if Region.binds .any e then s ||| 2 ^ e.on ||| acc.getD e.on 0 else s) s).testBit i = true →
    s.testBit i = true ∨ ∃ e ∈ l, Region.binds .any e = true ∧ (i = e.on ∨ (acc.getD e.on 0).testBit i = true)
  | [], s, h => .inl h
  | e :: l, s, h => by
    rw [List.foldl_cons] at h
    rcases foldl_bit acc i l _ h with h | ⟨x, hx, hb⟩
    · by_cases hb : Region.binds .any e = true
      · rw [if_pos hb] at h
        simp only [Nat.testBit_or, Bool.or_eq_true] at h
        rcases h with (h | h) | h
        · exact .inl h
        · refine .inr ⟨e, by simp, hb, .inl ?_⟩
          rw [Nat.testBit_two_pow] at h
          simpa using (of_decide_eq_true h).symm
        · exact .inr ⟨e, by simp, hb, .inr h⟩
      · rw [if_neg hb] at h; exact .inl h
    · exact .inr ⟨x, List.mem_cons_of_mem _ hx, hb⟩

/-- What comes ahead of it, by one edge or more. -/
theorem mask_step {ops : Array Oper} {k i : Nat} {o : Oper} (ho : ops[k]? = some o) (h : ((masks ops).getD k 0).testBit i = true) :
    ∃ e ∈ o.after.toList, Region.binds .any e = true ∧ (i = e.on ∨ (e.on < k ∧ ((masks ops).getD e.on 0).testBit i = true)) := by
  have hm := masksFrom_at ops.toList [] k o (by simpa using ho)
  simp only [List.length_nil, Nat.zero_add] at hm
  have hk : (masks ops).getD k 0 = maskOf o ((masks ops).take k) := by
    unfold masks
    rw [List.getD_eq_getElem?_getD, hm]; rfl
  rw [hk] at h
  rcases foldl_bit _ i o.after.toList 0 h with h | ⟨e, he, hb, hi⟩
  · simp at h
  · refine ⟨e, he, hb, hi.imp id fun h => ?_⟩
    rw [List.getD_eq_getElem?_getD, List.getElem?_take] at h
    by_cases hlt : e.on < k
    · rw [if_pos hlt] at h
      exact ⟨hlt, by rw [List.getD_eq_getElem?_getD]; exact h⟩
    · rw [if_neg hlt] at h; simp at h

/-! ### Which must stand in order -/
def clash (ops : Array Oper) (o p : Oper) (e q : Eff) : Bool :=
  (match o.dst with | some d => (p.looksAt ops).contains d || p.dst == some d | none => false) ||
  (match p.dst with | some d => (o.looksAt ops).contains d | none => false) ||
  e.wids.any (fun i => q.ids.contains i) || q.wids.any (fun i => e.ids.contains i)

def pairsOk (ops : Array Oper) (effs : List Eff) : Bool :=
  (List.range ops.size).all fun k => match ops[k]?, effs[k]? with
    | some p, some q => (p.after.all fun e => !(Region.binds .any e) || decide (e.on < k)) && (List.range k).all fun i => match ops[i]?, effs[i]? with
      | some o, some e => !(clash ops o p e q) || ((masks ops).getD k 0).testBit i
      | _, _ => false
    | _, _ => false

theorem clash_spec {ops : Array Oper} {o p : Oper} {e q : Eff} (h : clash ops o p e q = false) :
    (∀ d, o.dst = some d → d ∉ p.looksAt ops ∧ p.dst ≠ some d) ∧ (∀ d, p.dst = some d → d ∉ o.looksAt ops) ∧ (∀ i ∈ e.wids, i ∉ q.ids) ∧ (∀ i ∈ q.wids, i ∉ e.ids) := by
  simp only [clash, Bool.or_eq_false_iff] at h
  obtain ⟨⟨⟨h1, h2⟩, h3⟩, h4⟩ := h
  refine ⟨fun d hd => ?_, fun d hd => ?_, fun i hi hq => ?_, fun i hi hq => ?_⟩
  · rw [hd] at h1
    simp only [Bool.or_eq_false_iff] at h1
    refine ⟨fun hm => ?_, fun hm => ?_⟩
    · have := h1.1; simp [hm] at this
    · have := h1.2; simp [hm] at this
  · rw [hd] at h2
    intro hm; simp [hm] at h2
  · have := List.any_eq_false.1 h3 i hi
    simp [hq] at this
  · have := List.any_eq_false.1 h4 i hi
    simp [hq] at this
end Go.Proofs.Ytfppilpaaoklaaa
