/- A region in whatever order it draws: the theorem. -/
import Derived.Test.YtfppilpaaoklaaaPw2
namespace Go.Proofs.Ytfppilpaaoklaaa
set_option linter.unusedSimpArgs false
set_option linter.unusedVariables false
open Go Go.RowKit
variable {Γ : Ctx}

theorem countFalse_set : ∀ (l : List Bool) (i : Nat), l[i]? = some false → (l.set i true).countP (fun b => !b) + 1 = l.countP (fun b => !b)
  | [], i, h => by simp at h
  | b :: l, 0, h => by
    simp at h; subst h; simp [List.countP_cons]
  | b :: l, i + 1, h => by
    have := countFalse_set l i (by simpa using h)
    simp only [List.set_cons_succ, List.countP_cons]
    omega

structure RunAll (Γ : Ctx) (P : Program) (ops : Array Oper) (effs : List Eff) (tm0 : List T) (h0 : Heap) : Prop where
  len : effs.length = ops.size
  each : ∀ i o e, ops[i]? = some o → effs[i]? = some e → OpR Γ P ops o (TM ops effs tm0 (fun _ => true) i) (HM effs h0 (fun _ => true) i) e
  pairs : pairsOk ops effs = true

section
variable {P : Program} {ops : Array Oper} {effs : List Eff} {tm0 : List T} {h0 : Heap}

theorem RunAll.pair (R : RunAll Γ P ops effs tm0 h0) {i k : Nat} {o p : Oper} {e q : Eff} (hik : i < k) (ho : ops[i]? = some o) (hp : ops[k]? = some p) (he : effs[i]? = some e) (hq : effs[k]? = some q) :
    clash ops o p e q = false ∨ ((masks ops).getD k 0).testBit i = true := by
  have h := R.pairs
  unfold pairsOk at h
  have hk : k < ops.size := (Array.getElem?_eq_some_iff.1 hp).1
  have h1 := List.all_eq_true.1 h k (List.mem_range.2 hk)
  rw [hp, hq] at h1
  simp only [Bool.and_eq_true] at h1
  have h2 := List.all_eq_true.1 h1.2 i (List.mem_range.2 hik)
  rw [ho, he] at h2
  simp only [Bool.or_eq_true, Bool.not_eq_true'] at h2
  exact h2
theorem RunAll.edge (R : RunAll Γ P ops effs tm0 h0) {k : Nat} {p : Oper} (hp : ops[k]? = some p) : ∀ e ∈ p.after, Region.binds .any e = true → e.on < k := by
  have h := R.pairs
  unfold pairsOk at h
  have hk : k < ops.size := (Array.getElem?_eq_some_iff.1 hp).1
  have h1 := List.all_eq_true.1 h k (List.mem_range.2 hk)
  obtain ⟨q, hq⟩ : ∃ q, effs[k]? = some q := ⟨effs[k]'(by rw [R.len]; exact hk), List.getElem?_eq_getElem _⟩
  rw [hp, hq] at h1
  simp only [Bool.and_eq_true] at h1
  intro e he hb
  have h2 := Array.all_eq_true_iff_forall_mem.1 h1.1 e he
  simpa [hb] using h2

/-- Those listed have all listed that must come ahead of them. -/
def Closed (ops : Array Oper) (sel : Nat → Bool) : Prop := ∀ j, j < ops.size → sel j = true → ∀ i, ((masks ops).getD j 0).testBit i = true → sel i = true

theorem closed_step {sel : Nat → Bool} (R : RunAll Γ P ops effs tm0 h0) (hc : Closed ops sel) {i : Nat} {o : Oper} (ho : ops[i]? = some o) (hr : ∀ e ∈ o.after, Region.binds .any e = true → sel e.on = true) :
    (∀ j, ((masks ops).getD i 0).testBit j = true → sel j = true) ∧ Closed ops (fun k => if k = i then true else sel k) := by
  have hi : i < ops.size := (Array.getElem?_eq_some_iff.1 ho).1
  have key : ∀ j, ((masks ops).getD i 0).testBit j = true → sel j = true := fun j hj => by
    obtain ⟨e, he, hb, hor⟩ := mask_step ho hj
    have hs := hr e (by simpa using he) hb
    rcases hor with rfl | ⟨hlt, hm⟩
    · exact hs
    · exact hc e.on (by omega) hs j hm
  refine ⟨key, fun j hj hs k hk => ?_⟩
  by_cases hki : k = i
  · simp [hki]
  · simp only [hki, if_false]
    by_cases hji : j = i
    · subst hji; exact key k hk
    · simp only [hji, if_false] at hs
      exact hc j hj hs k hk

/-- What holds on the way. -/
structure Way (Γ : Ctx) (ops : Array Oper) (effs : List Eff) (tm0 : List T) (h0 : Heap) (μ0 : Pos) (w0 : World) (ds : List Deferred) (sel : Nat → Bool) (a : Act) (w : World) : Prop where
  closed : Closed ops sel
  at_ : ∃ μ, Evo h0 μ0 w0 (HM effs h0 sel ops.size) μ w ∧ Inv Γ (HM effs h0 sel ops.size) μ w ∧ FrameR Γ (HM effs h0 sel ops.size) μ w (TM ops effs tm0 sel ops.size) a.tmps
  defers : a.defers = ds

theorem way_step (R : RunAll Γ P ops effs tm0 h0) {μ0 : Pos} {w0 : World} {ds : List Deferred} {sel : Nat → Bool} {a : Act} {w : World} (W : Way Γ ops effs tm0 h0 μ0 w0 ds sel a w) {i : Nat} {o : Oper} (ho : ops[i]? = some o)
    (hi : sel i = false) (hr : ∀ e ∈ o.after, Region.binds .any e = true → sel e.on = true) {Q : Exit → Act → World → Prop} {K : Act → World → Prop}
    (hK : ∀ a' w', Way Γ ops effs tm0 h0 μ0 w0 ds (fun k => if k = i then true else sel k) a' w' → K a' w') : wpOp P ops Q i K a w := by
  obtain ⟨hc, ⟨μ, E, I, F⟩, hd⟩ := W
  have hin : i < ops.size := (Array.getElem?_eq_some_iff.1 ho).1
  obtain ⟨e, he⟩ : ∃ e, effs[i]? = some e := ⟨effs[i]'(by rw [R.len]; exact hin), List.getElem?_eq_getElem _⟩
  obtain ⟨hahead, hc'⟩ := closed_step R hc ho hr
  -- whoever clashes and stands ahead is listed; whoever clashes and stands behind is not
  have hfront : ∀ j p q, j < i → ops[j]? = some p → effs[j]? = some q → clash ops p o q e = true → sel j = true := fun j p q hj hp hq hcl => by
    rcases R.pair hj hp ho hq he with h | h
    · rw [hcl] at h; cases h
    · exact hahead j h
  have hback : ∀ j p q, i < j → ops[j]? = some p → effs[j]? = some q → clash ops o p e q = true → sel j = false := fun j p q hj hp hq hcl => by
    rcases R.pair hj ho hp he hq with h | h
    · rw [hcl] at h; cases h
    · cases hs : sel j with
      | false => rfl
      | true =>
        have := hc j (Array.getElem?_eq_some_iff.1 hp).1 hs i h
        rw [hi] at this; cases this
  have heff : ∀ k p, ops[k]? = some p → ∃ q, effs[k]? = some q := fun k p hp => ⟨effs[k]'(by rw [R.len]; exact (Array.getElem?_eq_some_iff.1 hp).1), List.getElem?_eq_getElem _⟩
  -- the slots that it looks at
  have htm : ∀ t ∈ o.looksAt ops, (TM ops effs tm0 sel ops.size)[t]? = (TM ops effs tm0 (fun _ => true) i)[t]? := fun t ht => by
    have h1 : (TM ops effs tm0 sel ops.size)[t]? = (TM ops effs tm0 (fun k => decide (k < i)) ops.size)[t]? := by
      refine TM_agree ops.size fun k p hk hp hpd => ?_
      obtain ⟨q, hq⟩ := heff k p hp
      by_cases hki : k < i
      · simp only [hki, decide_true]
        refine hfront k p q hki hp hq ?_
        unfold clash
        rw [hpd]
        simp [ht]
      · simp only [hki, decide_false]
        by_cases hke : k = i
        · rw [hke]; exact hi
        · refine hback k p q (by omega) hp hq ?_
          unfold clash
          rw [hpd]
          simp [ht]
    rw [h1]
    have h2 : ∀ n, i ≤ n → TM ops effs tm0 (fun k => decide (k < i)) n = TM ops effs tm0 (fun _ => true) i := by
      intro n hn
      induction n with
      | zero => obtain rfl : i = 0 := by omega
                rfl
      | succ n ih =>
        by_cases hni : i = n + 1
        · subst hni; exact TM_ext _ fun k hk => by simp [hk]
        · have : decide (n < i) = false := by simp; omega
          simp only [TM, this]
          exact ih (by omega)
    rw [h2 _ (by omega)]
  have hhm : ∀ x ∈ e.ids, HM effs h0 sel ops.size x = HM effs h0 (fun _ => true) i x := fun x hx => by
    have h1 : HM effs h0 sel ops.size x = HM effs h0 (fun k => decide (k < i)) ops.size x := by
      refine HM_agree ops.size fun k q hk hq hxq => ?_
      obtain ⟨p, hp⟩ : ∃ p, ops[k]? = some p := ⟨ops[k], Array.getElem?_eq_getElem hk⟩
      by_cases hki : k < i
      · simp only [hki, decide_true]
        refine hfront k p q hki hp hq ?_
        unfold clash
        have : q.wids.any (fun j => e.ids.contains j) = true := List.any_eq_true.2 ⟨x, hxq, by simpa using hx⟩
        simp only [this, Bool.or_true, Bool.true_or]
      · simp only [hki, decide_false]
        by_cases hke : k = i
        · rw [hke]; exact hi
        · refine hback k p q (by omega) hp hq ?_
          unfold clash
          have : q.wids.any (fun j => e.ids.contains j) = true := List.any_eq_true.2 ⟨x, hxq, by simpa using hx⟩
          simp only [this, Bool.or_true, Bool.true_or]
    rw [h1]
    have h2 : ∀ n, i ≤ n → HM effs h0 (fun k => decide (k < i)) n = HM effs h0 (fun _ => true) i := by
      intro n hn
      induction n with
      | zero => obtain rfl : i = 0 := by omega
                rfl
      | succ n ih =>
        by_cases hni : i = n + 1
        · subst hni; exact HM_ext _ fun k hk => by simp [hk]
        · have : decide (n < i) = false := by simp; omega
          simp only [HM, this]
          exact ih (by omega)
    rw [h2 _ (by omega)]
  -- one more
  have htm' : TM ops effs tm0 (fun k => if k = i then true else sel k) ops.size = putT (TM ops effs tm0 sel ops.size) o.dst e.val := by
    refine TM_more ho he ops.size hin (fun k p d h1 h2 hs hp hd' hpd => ?_) hi
    obtain ⟨q, hq⟩ := heff k p hp
    have : sel k = false := hback k p q h1 hp hq (by unfold clash; rw [hd', hpd]; simp)
    rw [hs] at this; cases this
  have hhm' : HM effs h0 (fun k => if k = i then true else sel k) ops.size = upd (HM effs h0 sel ops.size) e.writes := by
    refine HM_more he ops.size hin (fun k q h1 h2 hs hq x hx hxq => ?_) hi
    obtain ⟨p, hp⟩ : ∃ p, ops[k]? = some p := ⟨ops[k], Array.getElem?_eq_getElem h2⟩
    have : sel k = false := hback k p q h1 hp hq (by
      unfold clash
      have : e.wids.any (fun j => q.ids.contains j) = true := List.any_eq_true.2 ⟨x, hx, by simp [Eff.ids, hxq]⟩
      simp only [this, Bool.or_true, Bool.true_or])
    rw [hs] at this; cases this
  unfold wpOp
  rw [ho]
  simp only
  rcases R.each i o e ho he with ⟨hg, hop⟩ | ⟨hg, rfl⟩
  · have hw := (hg.congr htm).wanted F
    rw [if_pos hw]
    refine .inl (hop _ _ μ a w (evalT_congr htm) hhm I F K Q fun v μ' w' E' I' r => hK _ _ ⟨hc', ⟨μ', ?_, ?_, ?_⟩, ?_⟩)
    · rw [hhm']; exact E.trans E'
    · rw [hhm']; exact I'
    · rw [hhm', htm']; exact (F.evo E').put r o.dst
    · cases hod : o.dst <;> simp [Act.put, hd]
  · have hw := (hg.congr htm).wanted F
    rw [hw]
    simp only [Bool.false_eq_true, if_false]
    refine hK _ _ ⟨hc', ⟨μ, ?_, ?_, ?_⟩, ?_⟩
    · rw [hhm']; exact E
    · rw [hhm']; exact I
    · rw [hhm', htm']; exact F.put (RT.sc _) o.dst
    · cases hod : o.dst <;> simp [Act.put, hd]

theorem way_all (R : RunAll Γ P ops effs tm0 h0) {μ0 : Pos} {w0 : World} {ds : List Deferred} {Q : Exit → Act → World → Prop}
    (hQ : ∀ a w, Way Γ ops effs tm0 h0 μ0 w0 ds (fun _ => true) a w → Q .normal a w) :
    ∀ (fuel : Nat) (listed : Array Bool) (a : Act) (w : World), listed.size = ops.size → listed.toList.countP (fun b => !b) ≤ fuel → Way Γ ops effs tm0 h0 μ0 w0 ds (fun k => listed.getD k true) a w → wpAny P .any ops Q fuel listed a w := by
  -- if nothing is ready, all is listed
  have hall : ∀ (listed : Array Bool), listed.size = ops.size → Region.ready .any ops listed = [] → ∀ k, listed.getD k true = true := by
    intro listed hsz hr k
    induction k using Nat.strongRecOn with
    | _ k ih =>
      cases hk : listed.getD k true with
      | true => rfl
      | false =>
        exfalso
        have hlt : k < listed.size := by
          rcases Nat.lt_or_ge k listed.size with h | h
          · exact h
          · simp [Array.getElem?_eq_none h] at hk
        have ho : ops[k]? = some ops[k] := Array.getElem?_eq_getElem (by omega)
        have : k ∈ Region.ready .any ops listed := mem_ready.2 ⟨hk, ops[k], ho, fun e he hb => by
          have hlt' := R.edge ho e he hb
          have h1 := ih e.on hlt'
          have h2 : e.on < listed.size := by omega
          simp [h2] at h1 ⊢; exact h1⟩
        rw [hr] at this; cases this
  have hdone : ∀ (listed : Array Bool) (a : Act) (w : World), (∀ k, listed.getD k true = true) → Way Γ ops effs tm0 h0 μ0 w0 ds (fun k => listed.getD k true) a w → Q .normal a w := fun listed a w hl W => by
    have : (fun k => listed.getD k true) = fun _ => true := funext hl
    rw [this] at W
    exact hQ a w W
  intro fuel
  induction fuel with
  | zero =>
    intro listed a w hsz hcnt W
    have hl : ∀ k, listed.getD k true = true := fun k => by
      cases hk : listed[k]? with
      | none =>
        rcases Nat.lt_or_ge k listed.size with h | h
        · simp [h] at hk
        · simp [Array.getElem?_eq_none h]
      | some b =>
        have hm : b ∈ listed.toList := by
          have := Array.mem_of_getElem? hk
          simpa using this
        have h0 : listed.toList.countP (fun b => !b) = 0 := Nat.le_zero.1 hcnt
        have : ¬ (!b) = true := List.countP_eq_zero.1 h0 b hm
        have hb : b = true := by simpa using this
        subst hb
        have hlt := (Array.getElem?_eq_some_iff.1 hk).1
        have := (Array.getElem?_eq_some_iff.1 hk).2
        simp [hlt, this]
    refine ⟨?_, hdone listed a w hl W⟩
    apply List.eq_nil_iff_forall_not_mem.2
    intro j hj
    have := (mem_ready.1 hj).1
    rw [hl j] at this; cases this
  | succ fuel ih =>
    intro listed a w hsz hcnt W
    refine ⟨fun hr => hdone listed a w (hall listed hsz hr) W, fun i hi => ?_⟩
    obtain ⟨hun, o, ho, hed⟩ := mem_ready.1 hi
    have hlt : i < listed.size := by
      rw [hsz]; exact (Array.getElem?_eq_some_iff.1 ho).1
    refine way_step R W ho hun (fun e he hb => ?_) fun a' w' W' => ih _ a' w' (by simp [hsz]) ?_ ?_
    · have h := hed e he hb
      have hlt' : e.on < listed.size := by have := R.edge ho e he hb; omega
      simp [hlt'] at h ⊢; exact h
    · have : listed.toList[i]? = some false := by
        simp [hlt] at hun ⊢; exact hun
      have := countFalse_set listed.toList i this
      rw [Array.toList_setIfInBounds]
      omega
    · have : (fun k => (listed.setIfInBounds i true).getD k true) = fun k => if k = i then true else listed.getD k true := by
        funext k
        by_cases hk : k = i
        · subst hk; simp [hlt]
        · rw [if_neg hk, getD_set_ne true (Ne.symm hk)]
      rw [this]
      exact W'
end

/-- **A region that draws.** -/
theorem region_drawnA {P : Program} {ops : Array Oper} {effs : List Eff} {tm0 : List T} {h0 : Heap} (R : RunAll Γ P ops effs tm0 h0) {μ : Pos} {a : Act} {w : World}
    (I : Inv Γ h0 μ w) (F : FrameR Γ h0 μ w tm0 a.tmps) {Q : Exit → Act → World → Prop}
    (hQ : ∀ a' w' μ', Evo h0 μ w (HM effs h0 (fun _ => true) ops.size) μ' w' → Inv Γ (HM effs h0 (fun _ => true) ops.size) μ' w' → FrameR Γ (HM effs h0 (fun _ => true) ops.size) μ' w' (TM ops effs tm0 (fun _ => true) ops.size) a'.tmps → a'.defers = a.defers → Q .normal a' w') :
    wpAny P .any ops Q ops.size (Array.replicate ops.size false) a { w with drawn := w.drawn + 1 } := by
  have E : Evo h0 μ w h0 μ { w with drawn := w.drawn + 1 } := ⟨rfl, rfl, rfl, Nat.le_refl _, fun b hb => ⟨rfl, hb.2⟩, fun id ab hi => .inr ⟨ab, hi, rfl, rfl, rfl, rfl, fun g cur _ hg => ⟨cur, hg, rfl⟩⟩, fun id hi => hi⟩
  refine (way_all R (μ0 := μ) (w0 := w) (ds := a.defers) (fun a' w' W => ?_) _ _ _ _ (by simp) (by simp [List.countP_replicate]) ?_)
  · obtain ⟨_, ⟨μ', E', I', F'⟩, hd⟩ := W
    exact hQ a' w' μ' E' I' F' hd
  · have hsel : ∀ k, k < ops.size → (Array.replicate ops.size false).getD k true = false := fun k hk => by simp [hk]
    have h1 : ∀ n, n ≤ ops.size → TM ops effs tm0 (fun k => (Array.replicate ops.size false).getD k true) n = tm0 := by
      intro n
      induction n with
      | zero => intro _; rfl
      | succ n ih => intro hn; simp only [TM, hsel n (by omega)]; exact ih (by omega)
    have h2 : ∀ n, n ≤ ops.size → HM effs h0 (fun k => (Array.replicate ops.size false).getD k true) n = h0 := by
      intro n
      induction n with
      | zero => intro _; rfl
      | succ n ih => intro hn; simp only [HM, hsel n (by omega)]; exact ih (by omega)
    refine ⟨fun j hj hs => ?_, ⟨μ, ?_, ?_, ?_⟩, rfl⟩
    · rw [hsel j hj] at hs; cases hs
    · rw [h2 _ (Nat.le_refl _)]; exact E
    · rw [h2 _ (Nat.le_refl _)]
      exact ⟨I.len, fun id ab hi => (I.at_ id ab hi).imp (fun h => h) fun ⟨g, cur, h1, h2, h3, h4⟩ => ⟨g, cur, h1, h2, h3, fun i e j l he hl => by obtain ⟨u, hu, hx⟩ := h4 i e j l he hl; exact ⟨u, hu, hx.evo E⟩⟩, I.inj, I.base, I.own⟩
    · rw [h2 _ (Nat.le_refl _), h1 _ (Nat.le_refl _)]
      exact F.evo E
end Go.Proofs.Ytfppilpaaoklaaa
