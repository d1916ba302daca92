/- PwYd, PwMs, PwMh, PwMt, PwMu. -/
import Derived.Test.YtbcclcbmbejnmaaDoorPwRf
import Derived.Test.YtbcclcbmbejnmaaDoorPwMa
import Derived.Test.YtbcclcbmbejnmaaDoorPwN
import Derived.Test.YtbcclcbmbejnmaaDoorPwX
/- A region whose last operation calls what was handed in. -/
namespace Go.Proofs.YtbcclcbmbejnmaaDoor
set_option linter.unusedSimpArgs false
set_option linter.unusedVariables false
open Go Go.RowKit

section
variable {P : Program} {ops : Array Oper} {Q : Exit → Act → World → Prop} {n : Nat}

theorem opIn_of_wpF {o : Oper} {a : Act} {w : World} {K K' : Act → World → Prop} (hd : ∀ c, o.op ≠ .defer c) (hk : ∀ (a' : Act) v w, a'.tmps = a.tmps → K (a'.put o.dst v) w → K' (a'.put o.dst v) w) (h : o.wp P a w K (NormalOnly Q)) {Q' : Exit → Act → World → Prop} : o.wpIn Fence.wide n P a w K' Q' := by
  refine ⟨fun f _ => trivial, ?_⟩
  rw [Oper.semAt_plain _ _ _ hd]
  unfold Oper.wp at h
  generalize (execOp a.eval o).run P w = r at *
  cases r with
  | ok x w' =>
    cases x with
    | value v => exact hk a _ _ rfl h
    | skip => exact hk a _ _ rfl h
    | defer d => exact hk { a with defers := d :: a.defers } _ _ rfl h
    | enter f args => exact ⟨fun hh => (by cases hh), callsIn_wide.2 (Calls.mono h (fun e w'' he => by
        cases e with
        | returned v => exact hk a _ _ rfl he
        | panicked c => cases he.1
        | outgrown => exact absurd he (not_letsOut Q)))⟩
    | row r args => exact ⟨fun hh => (by cases hh), fun c cs _ => let ⟨v, w'', hr, s⟩ := h c cs; ⟨v, w'', hk a _ _ rfl hr, stepsIn_wide.2 s⟩⟩
    | _ => exact h.elim
  | halt x w' =>
    cases x with
    | panic v => cases h.1
    | _ => exact h.elim

/-- What an operation waits for. -/
def edgesOf (o : Oper) : List Nat := (o.after.toList.filter (Region.binds .any)).map (·.on)
/-- The last one waits for all. -/
def reachS (pre : Array Oper) (S : List Nat) : List Nat := (List.range pre.size).reverse.foldl (fun S k => if S.contains k then S ++ ((pre[k]?).map edgesOf).getD [] else S) S
def lastOk (pre : Array Oper) (o : Oper) : Bool :=
  (List.range pre.size).all (fun k => (reachS pre (edgesOf o)).contains k) && (edgesOf o).all (· < pre.size) && (List.range pre.size).all (fun k => (((pre[k]?).map edgesOf).getD []).all (· < k)) &&
  pre.toList.all (fun o => o.guard.isNone) && o.guard.isNone

theorem mem_edgesOf {o : Oper} {e : Edge} (h : e ∈ o.after) (hb : Region.binds .any e = true) : e.on ∈ edgesOf o := by
  unfold edgesOf
  exact List.mem_map.2 ⟨e, List.mem_filter.2 ⟨by simpa using h, hb⟩, rfl⟩
theorem of_edgesOf {o : Oper} {k : Nat} (h : k ∈ edgesOf o) : ∃ e, e ∈ o.after ∧ Region.binds .any e = true ∧ e.on = k := by
  unfold edgesOf at h
  obtain ⟨e, he, rfl⟩ := List.mem_map.1 h
  obtain ⟨h1, h2⟩ := List.mem_filter.1 he
  exact ⟨e, by simpa using h1, h2, rfl⟩

theorem reach_all {pre : Array Oper} {f : Nat → Bool} (hf : ∀ k o, f k = true → pre[k]? = some o → ∀ x ∈ edgesOf o, f x = true) : ∀ (ks : List Nat) (S : List Nat), (∀ x ∈ S, f x = true) →
    ∀ x ∈ ks.foldl (fun S k => if S.contains k then S ++ ((pre[k]?).map edgesOf).getD [] else S) S, f x = true
  | [], S, h => h
  | k :: ks, S, h => by
    simp only [List.foldl_cons]
    refine reach_all hf ks _ fun x hx => ?_
    split at hx
    · rename_i hc
      rcases List.mem_append.1 hx with hx | hx
      · exact h x hx
      · cases ho : pre[k]? with
        | none => rw [ho] at hx; cases hx
        | some o =>
          rw [ho] at hx
          exact hf k o (h k (by simpa using hc)) ho x hx
    · exact h x hx

def closedL (pre : Array Oper) (listed : Array Bool) : Prop := ∀ k o, listed.getD k false = true → pre[k]? = some o → ∀ x ∈ edgesOf o, listed.getD x false = true

theorem yieldAny (pre : Array Oper) (o : Oper) (hl : lastOk pre o = true) (hnd : noDefer pre = true) (Kp : Array Value → Prop) (hKp : ∀ (i : Nat) (o : Oper) (a : Act) (v : Value), pre[i]? = some o → Kp a.tmps → Kp (a.put o.dst v).tmps)
    {K' : Act → World → Prop} (hK' : ∀ a w, Kp a.tmps → K' a w → o.wpIn Fence.wide n P a w (fun a w => Q .normal a w) Q) :
    ∀ (fuel : Nat) (listed : Array Bool) (a : Act) (w : World), listed.size = pre.size → closedL pre listed → Kp a.tmps → wpAny P .any pre (NormalOnly fun _ a w => K' a w) fuel listed a w → wpAnyIn Fence.wide n P .any (pre.push o) Q (fuel + 1) (listed.push false) a w := by
  simp only [lastOk, Bool.and_eq_true, List.all_eq_true, List.mem_range, decide_eq_true_eq] at hl
  obtain ⟨⟨⟨⟨l1, l2⟩, l3⟩, l4⟩, l5⟩ := hl
  have g1 : ∀ (L : Array Bool) (k : Nat), L.size = pre.size → k < pre.size → ∀ b, (L.push b).getD k true = L.getD k true := fun L k hs hk b => by
    simp [Array.getElem?_push, hs, Nat.ne_of_lt hk]
  have g2 : ∀ (L : Array Bool) (k : Nat), L.size = pre.size → k < pre.size → ∀ b, (L.push b).getD k false = L.getD k false := fun L k hs hk b => by
    simp [Array.getElem?_push, hs, Nat.ne_of_lt hk]
  have tf : ∀ (L : Array Bool) (k : Nat), k < L.size → L.getD k true = L.getD k false := fun L k hk => by simp [hk]
  have po : ∀ k o', (pre.push o)[k]? = some o' → (k < pre.size ∧ pre[k]? = some o') ∨ (k = pre.size ∧ o' = o) := fun k o' h => by
    rw [Array.getElem?_push] at h
    split at h
    · rename_i e; injection h with h; exact .inr ⟨e, h.symm⟩
    · exact .inl ⟨(Array.getElem?_eq_some_iff.1 h).1, h⟩
  have e3 : ∀ k o', pre[k]? = some o' → ∀ x ∈ edgesOf o', x < k := fun k o' ho x hx => by
    have := l3 k (Array.getElem?_eq_some_iff.1 ho).1 x (by rw [ho]; exact hx)
    simpa using this
  -- what is ready of the front is ready
  have up : ∀ (L : Array Bool), L.size = pre.size → ∀ i ∈ Region.ready .any pre L, i ∈ Region.ready .any (pre.push o) (L.push false) := fun L hs i hi => by
    obtain ⟨h1, o', h2, h3⟩ := mem_ready.1 hi
    have hlt := (Array.getElem?_eq_some_iff.1 h2).1
    refine mem_ready.2 ⟨by rw [g1 L i hs hlt]; exact h1, o', by rw [Array.getElem?_push, if_neg (Nat.ne_of_lt hlt)]; exact h2, fun e he hb => ?_⟩
    have := e3 i o' h2 _ (mem_edgesOf he hb)
    rw [g2 L e.on hs (by omega)]; exact h3 e he hb
  -- if nothing of the front is ready, all of it is listed
  have hall : ∀ (L : Array Bool), L.size = pre.size → Region.ready .any pre L = [] → ∀ k, k < pre.size → L.getD k false = true := by
    intro L hs hr k
    induction k using Nat.strongRecOn with
    | _ k ih =>
      intro hk
      cases hv : L.getD k false with
      | true => rfl
      | false =>
        exfalso
        have ho : pre[k]? = some pre[k] := Array.getElem?_eq_getElem hk
        have : k ∈ Region.ready .any pre L := mem_ready.2 ⟨by rw [tf L k (by omega)]; exact hv, pre[k], ho, fun e he hb => by
          have hx := e3 k _ ho _ (mem_edgesOf he hb)
          exact ih e.on hx (by omega)⟩
        rw [hr] at this; cases this
  have hready : ∀ (L : Array Bool), L.size = pre.size → (∀ k, k < pre.size → L.getD k false = true) → pre.size ∈ Region.ready .any (pre.push o) (L.push false) := fun L hs h => by
    refine mem_ready.2 ⟨by simp [hs.symm], o, by simp, fun e he hb => ?_⟩
    have := l2 e.on (mem_edgesOf he hb)
    have hlt : e.on < pre.size := by simpa using this
    rw [g2 L e.on hs hlt]; exact h _ hlt
  have hnone : ∀ (L : Array Bool), L.size = pre.size → (∀ k, k < pre.size → L.getD k false = true) → Region.ready .any (pre.push o) (L.push true) = [] := fun L hs h => by
    apply List.eq_nil_iff_forall_not_mem.2
    intro j hj
    obtain ⟨h1, o', h2, _⟩ := mem_ready.1 hj
    rcases po j o' h2 with ⟨hlt, _⟩ | ⟨rfl, _⟩
    · rw [g1 L j hs hlt, tf L j (by omega), h j hlt] at h1; cases h1
    · simp [hs.symm] at h1
  -- the last one's turn
  have final : ∀ (fuel : Nat) (L : Array Bool) (a : Act) (w : World), L.size = pre.size → closedL pre L → Kp a.tmps → wpAny P .any pre (NormalOnly fun _ a w => K' a w) fuel L a w → pre.size ∈ Region.ready .any (pre.push o) (L.push false) →
      wpOpIn Fence.wide n P (pre.push o) Q pre.size (wpAnyIn Fence.wide n P .any (pre.push o) Q fuel ((L.push false).setIfInBounds pre.size true)) a w := by
    intro fuel L a w hs hc hkp h hi
    obtain ⟨_, o', h2, h3⟩ := mem_ready.1 hi
    obtain rfl : o' = o := by simpa using h2.symm
    have hS : ∀ x ∈ edgesOf o', L.getD x false = true := fun x hx => by
      obtain ⟨e, he, hb, rfl⟩ := of_edgesOf hx
      have hlt : e.on < pre.size := by have := l2 e.on hx; simpa using this
      have := h3 e he hb
      rw [g2 L e.on hs hlt] at this; exact this
    have hA : ∀ k, k < pre.size → L.getD k false = true := fun k hk => by
      have hm : k ∈ reachS pre (edgesOf o') := List.contains_iff_mem.1 (l1 k hk)
      exact reach_all (pre := pre) (f := fun k => L.getD k false) hc _ _ hS k hm
    have hr : Region.ready .any pre L = [] := by
      apply List.eq_nil_iff_forall_not_mem.2
      intro j hj
      obtain ⟨h1, o2, h2, _⟩ := mem_ready.1 hj
      have hlt := (Array.getElem?_eq_some_iff.1 h2).1
      rw [tf L j (by omega), hA j hlt] at h1; cases h1
    have hk : K' a w := by
      cases fuel with
      | zero => exact h.2.2
      | succ fuel => exact (h.1 hr).2
    have hset : (L.push false).setIfInBounds pre.size true = L.push true := by
      apply Array.ext
      · simp
      · intro i h1 h2
        simp only [Array.size_push] at h2
        rw [Array.getElem_setIfInBounds]
        by_cases e : pre.size = i
        · subst e; simp [hs.symm]
        · rw [if_neg e]
          have hlt : i < L.size := by omega
          rw [Array.getElem_push_lt hlt, Array.getElem_push_lt hlt]
        · simp; omega
    have hn := hnone L hs hA
    have hw : Region.wanted o' (yielded (pre.push o') a.tmps) = true := by
      unfold Region.wanted
      cases hg : o'.guard with
      | none => rfl
      | some g => rw [hg] at l5; cases l5
    unfold wpOpIn
    simp only [Array.getElem?_push_size, hw, if_true]
    refine Oper.wpIn_mono (fun a w hq => ?_) (hK' a w hkp hk)
    rw [hset]
    cases fuel with
    | zero => exact ⟨hn, hq⟩
    | succ fuel => exact ⟨fun _ => hq, fun i hi => by rw [hn] at hi; cases hi⟩
  intro fuel
  induction fuel with
  | zero =>
    intro L a w hs hc hkp h
    refine ⟨fun hr => ?_, fun i hi => ?_⟩
    · have := hready L hs (hall L hs h.1)
      rw [hr] at this; cases this
    · obtain ⟨h1, o', h2, h3⟩ := mem_ready.1 hi
      rcases po i o' h2 with ⟨hlt, ho⟩ | ⟨rfl, rfl⟩
      · rw [g1 L i hs hlt, tf L i (by omega), hall L hs h.1 i hlt] at h1; cases h1
      · exact final 0 L a w hs hc hkp h hi
  | succ fuel ih =>
    intro L a w hs hc hkp h
    refine ⟨fun hr => ?_, fun i hi => ?_⟩
    · have hr' : Region.ready .any pre L = [] := by
        apply List.eq_nil_iff_forall_not_mem.2
        intro j hj
        have := up L hs j hj
        rw [hr] at this; cases this
      have := hready L hs (hall L hs hr')
      rw [hr] at this; cases this
    · obtain ⟨h1, o', h2, h3⟩ := mem_ready.1 hi
      rcases po i o' h2 with ⟨hlt, ho⟩ | ⟨rfl, rfl⟩
      · have hi' : i ∈ Region.ready .any pre L := mem_ready.2 ⟨by rw [← g1 L i hs hlt false]; exact h1, o', ho, fun e he hb => by
          have hx := e3 i o' ho _ (mem_edgesOf he hb)
          rw [← g2 L e.on hs (by omega) false]; exact h3 e he hb⟩
        have hh := h.2 i hi'
        unfold wpOp at hh
        unfold wpOpIn
        rw [h2]
        rw [ho] at hh
        have hm : o' ∈ pre.toList := by rw [← Array.getElem?_toList] at ho; exact List.mem_of_getElem? ho
        have hgn : o'.guard = none := by simpa using l4 o' hm
        have hw1 : Region.wanted o' (yielded pre a.tmps) = true := by unfold Region.wanted; rw [hgn]
        have hw2 : Region.wanted o' (yielded (pre.push o) a.tmps) = true := by unfold Region.wanted; rw [hgn]
        simp only [hw1, hw2, if_true] at hh ⊢
        have hset : (L.push false).setIfInBounds i true = (L.setIfInBounds i true).push false := by
          apply Array.ext
          · simp
          · intro j h1 h2
            rw [Array.getElem_setIfInBounds, Array.getElem_push, Array.getElem_push]
            by_cases hij : i = j
            · subst hij; simp [hs, hlt]
            · rw [if_neg hij]
              simp only [Array.size_setIfInBounds]
              split
              · rw [Array.getElem_setIfInBounds, if_neg hij]
              · rfl
            · simp at h2 ⊢; omega
        rw [hset]
        rcases hh with hh | hh
        · refine opIn_of_wpF (noDefer_spec hnd i o' ho) (fun a' v w' he h' => ih _ _ w' (by simp [hs]) (fun k o2 hk ho2 x hx => ?_) (hKp i o' a' v ho (by rw [he]; exact hkp)) h') hh
          have hlt2 := (Array.getElem?_eq_some_iff.1 ho2).1
          have hxk := e3 k o2 ho2 x hx
          have hval : ∀ y, y < pre.size → (L.setIfInBounds i true).getD y false = if i = y then true else L.getD y false := fun y hy => by
            have hy2 : y < L.size := by omega
            simp only [Array.getD_eq_getD_getElem?, Array.getElem?_setIfInBounds]
            split
            · rename_i e; subst e; simp [hy2]
            · rfl
          rw [hval k hlt2] at hk
          rw [hval x (by omega)]
          split
          · rfl
          · by_cases hik : i = k
            · subst hik
              obtain ⟨e, he, hb, rfl⟩ := of_edgesOf hx
              rw [ho] at ho2; injection ho2 with ho2; subst ho2
              have := h3 e he hb
              rw [g2 L e.on hs (by omega)] at this; exact this
            · rw [if_neg hik] at hk
              exact hc k o2 hk ho2 x hx
        · exact absurd hh.2 (not_letsOut _)
      · exact final (fuel + 1) L a w hs hc hkp h hi
end

/-- .. by the walk of what stands in front of it. -/
theorem region_yield {Γ : Ctx} {P : Program} {Q : Exit → Act → World → Prop} {n : Nat} {id : Nat} {pre : Array Oper} {o : Oper} {σ : St} {K : St → Prop} (hm : P.follows .mixedOrders = true) (hl : lastOk pre o = true) (hnd : noDefer pre = true)
    (h : AO P pre true pre.toList [] K σ) {w0 : World} {a : Act} {w : World} (H : Holds Γ w0 σ a w)
    (hK : ∀ σ' a' w', K σ' → Holds Γ w0 σ' a' w' → a'.defers = a.defers → (∀ t, (∀ o ∈ pre.toList, o.dst ≠ some t) → a'.tmps.getD t undef = a.tmps.getD t undef) → o.wpIn Fence.wide n P a' w' (fun a w => Q .normal a w) Q) :
    (Code.region id (pre.push o) true).wpIn Fence.wide n P Q a w := by
  obtain ⟨μ, E, I, F, hd⟩ := H
  obtain ⟨effs, σ', hlen, R, hp, hK2⟩ := AO.run (Γ := Γ) (σ0 := σ) pre.toList [] σ (fun k => by simp) ⟨fun i o e _ he => (by simp at he), rfl, rfl⟩ h
  have hlen' : effs.length = pre.size := by simpa using hlen
  have hW : wpAny P .any pre (NormalOnly fun _ a' w' => Holds Γ w0 σ' a' w' ∧ a'.defers = a.defers) pre.size (Array.replicate pre.size false) a { w with drawn := w.drawn + 1 } :=
    region_drawnA ⟨hlen', R.each, hp rfl⟩ I F fun a' w' μ' E' I' F' hd' => ⟨rfl, ⟨μ', by rw [← hlen', R.hm] at E'; exact E.trans E', by rw [← hlen', R.hm] at I'; exact I', by rw [← hlen', R.hm, R.tm] at F'; exact F', by rw [hd']; exact hd.evo I E'⟩, hd'⟩
  refine wpIn_region_any hm ?_
  have hrep : Array.replicate (pre.push o).size false = (Array.replicate pre.size false).push false := by
    apply Array.ext
    · simp
    · intro i h1 h2
      simp [Array.getElem_push]
  rw [hrep, Array.size_push]
  refine yieldAny pre o hl hnd (fun tm => ∀ t, (∀ o ∈ pre.toList, o.dst ≠ some t) → tm.getD t undef = a.tmps.getD t undef) (fun i o' a' v ho hk t ht => ?_) (fun a' w' hk hh => hK σ' a' w' hK2 hh.1 hh.2 hk) _ _ _ _ (by simp) (fun k o' hk _ => ?_) (fun t _ => rfl) hW
  · rw [← hk t ht]
    have hne := ht o' (by rw [← Array.getElem?_toList] at ho; exact List.mem_of_getElem? ho)
    cases hdst : o'.dst with
    | none => rfl
    | some d =>
      have : d ≠ t := fun e => hne (by rw [hdst, e])
      simp [Act.put, Array.getD_eq_getD_getElem?, Array.getElem?_setIfInBounds_ne this]
  · exfalso
    rcases Nat.lt_or_ge k pre.size with hk2 | hk2
    · simp [hk2] at hk
    · simp [Nat.not_lt.2 hk2] at hk

/-- The call of what was handed in. -/
theorem op_yield {P : Program} {Q : Exit → Act → World → Prop} {m l : Nat} {o : Oper} {fx x : Operand} {ats : Array TypeId} {a : Act} {w : World} {next : Act → World → Prop} {post : Ending → World → Prop} (ho : o.op = .call { callee := .value fx, args := #[x], argTypes := ats })
    (hf : a.eval fx = .func (.yield l) #[] #[]) (h : YieldAt Fence.wide m P l #[a.eval x] w post) (hp : ∀ e W', post e W' → ∃ v, e = .returned v ∧ next (a.put o.dst v) W') : o.wpIn Fence.wide (m + 1) P a w next Q := by
  obtain ⟨fn, tmps, assign, body, hy, hR⟩ := h
  refine ⟨fun f _ => trivial, ?_⟩
  rw [Oper.semAt_plain _ _ _ (fun c hc => by rw [ho] at hc; cases hc)]
  have hrun : (execOp a.eval o).run P w = .ok (.round l fn tmps assign body) w := by
    obtain ⟨vx, hvx⟩ : ∃ vx, vx = a.eval x := ⟨_, rfl⟩
    rw [← hvx] at hy
    have hr : (resolve a.eval { callee := .value fx, args := #[x], argTypes := ats } o.type).run P w = .ok { target := .fn (.yield l) #[], args := #[vx] } w := by
      unfold resolve
      simp only [hf, hvx]
      simp [go_sem]
    simp only [execOp, ho, Sem.run_bind, hr, Result.andThen_ok]
    simp [invoke, go_sem, hy]
  rw [hrun]
  refine ⟨fun hh => (by cases hh), ?_⟩
  refine hR.mono ?_
  intro e W' he
  obtain ⟨v, rfl, hn⟩ := hp e W' he
  exact hn
/-- .. the last one taken off the text. -/
theorem region_yieldK {Γ : Ctx} {P : Program} {Q : Exit → Act → World → Prop} {n : Nat} {id : Nat} {ops : Array Oper} {o : Oper} {σ : St} (K0 : St → Prop) (hm : P.follows .mixedOrders = true) (ho : ops.toList.getLast? = some o) (hl : lastOk ops.toList.dropLast.toArray o = true) (hnd : noDefer ops.toList.dropLast.toArray = true)
    (h : ∀ K : St → Prop, (∀ σ', K0 σ' → K σ') → AOs P ops.toList.dropLast.toArray true ops.toList.dropLast.toArray.toList [] K σ) {w0 : World} {a : Act} {w : World} (H : Holds Γ w0 σ a w)
    (hK : ∀ σ' a' w', K0 σ' → Holds Γ w0 σ' a' w' → a'.defers = a.defers → (∀ t, (∀ o ∈ ops.toList.dropLast, o.dst ≠ some t) → a'.tmps.getD t undef = a.tmps.getD t undef) → o.wpIn Fence.wide n P a' w' (fun a w => Q .normal a w) Q) :
    (Code.region id ops true).wpIn Fence.wide n P Q a w := by
  have he : ops = ops.toList.dropLast.toArray.push o := by
    obtain ⟨ys, hys⟩ := List.getLast?_eq_some_iff.1 ho
    apply Array.toList_inj.1
    rw [Array.toList_push, hys]
    simp
  have h1 := h K0 fun _ q => q
  rw [AOs_eq] at h1
  generalize hp : ops.toList.dropLast.toArray = pre at *
  rw [he]
  exact region_yield hm hl hnd h1 H (fun σ' a' w' k1 k2 k3 k4 => hK σ' a' w' k1 k2 k3 fun t ht => k4 t (by
    intro o' ho'
    refine ht o' ?_
    rw [← hp] at ho'; simpa using ho'))
theorem Holds.start {B : Nat → Prop} {n : Nat} {tm : List T} {a : Act} {w : World} (hn : n ≤ w.heap.size) (F : FrameR (Cx B n) (hOf []) μ0 w tm a.tmps) (hd : a.defers = []) : Holds (Cx B n) w ⟨tm, []⟩ a w :=
  ⟨μ0, ⟨rfl, rfl, rfl, Nat.le_refl _, fun b hb _ => ⟨rfl, fun id ab hh => by simp [hOf] at hh⟩, fun j ab0 hj => by simp at hj⟩, ⟨fun id ab hh => by simp [hOf] at hh, fun id ab hh => by simp [hOf] at hh, fun i j a b g h1 => by simp [hOf] at h1, hn, fun id ab g hh => by simp [hOf] at hh⟩, F, by rw [hd]; exact Marks.nil _ _⟩
theorem Globs.kept {B : Nat → Prop} {W w : World} (h : Globs (Cx B W.heap.size) h0 μ0 W) (hBW : ∀ b, B b → b < W.heap.size) (hk : KpB B W w) (n : Nat) (hn : n ≤ w.heap.size) : Globs (Cx B n) (hOf []) μ0 w := fun q vs hq => RL.keep (fun b hb => by
  have hBb : B b := by
    rcases hb.2 with h | h
    · exact h
    · exact absurd (Cx_O h) (Nat.not_le.2 hb.1.1)
  exact ⟨⟨⟨Nat.lt_of_lt_of_le hb.1.1 hk.1, fun id ab h => by cases h⟩, .inl hBb⟩, hk.2 b hBb⟩) (h q vs hq)
/-- A row of the call's own, handed to the caller. -/
theorem Holds.ownRead {B : Nat → Prop} {n : Nat} {w0 w : World} {σ : St} {a : Act} (H : Holds (Cx B n) w0 σ a w) {x : Operand} {id s m : Nat} {ab : AB} (hx : evalT σ.tm x = .leaf (.own id s m)) (hab : σ.h id = some (some ab)) (hall : allP ab.es) : RL (fun b => B b ∨ n ≤ b) w (.sl ab.es) (a.eval x) := by
  obtain ⟨μ, E, I, F, M⟩ := H
  have r := F.eval x
  rw [hx] at r
  have hfin : finL σ.h [] (.own id s m) (.sl ab.es) := ⟨⟨by simp [rowsOf, hab], .inr hall⟩, fun id _ => by simp⟩
  have r3 : RX (Cx B n) σ.h μ w (.own id s m) (a.eval x) := r
  have r2 := fin_RX (ρ := []) (bl := []) I rfl trivial hfin r3 (by intro k hk; simp [idsL] at hk)
  refine RL.keep (fun b hb => ⟨?_, rfl⟩) r2
  rcases hb.2 with h | h
  · exact .inl h
  · exact .inr (Cx_O h)
end Go.Proofs.YtbcclcbmbejnmaaDoor

/- mac: a stream's numbers. -/
namespace Go.Proofs.YtbcclcbmbejnmaaDoor
set_option linter.unusedSimpArgs false
set_option linter.unusedVariables false
open Go Go.RowKit
attribute [local congr] AW_congr AOs_congr aCall_congr aCall1_congr aSem_congr aSliceO_congr aBuildO_congr aStoreO_congr
attribute [local go_sem] uC_own uC_ids uC_shift uC_frz uC_length tabK_uC ub_v bytes_set bytesE_one1 bytesE_consr bytesE_append bytesE_drop bytesE_take rowsE_length rowsE_get Option.map_map bytesE_length bytesE_get shiftE_bytes shiftE_rows exBytesE str_beq bytesE_take_self List.take_length
set_option maxRecDepth 100000

attribute [local simp] leEs_bytes
def cntP (n i : Nat) : List UInt8 := List.replicate (8 - i) 0 ++ (cntB n).drop (8 - i)
theorem cntP_len (n : Nat) {i : Nat} (h : i ≤ 8) : (cntP n i).length = 8 := by (simp [cntP, cntB_len]; try omega)
theorem cntP_zero (n : Nat) : cntP n 0 = List.replicate 8 0 := by
  unfold cntP
  rw [Nat.sub_zero, List.drop_of_length_le (by rw [cntB_len]; exact Nat.le_refl _), List.append_nil]
theorem cntP_last (n : Nat) : cntP n 8 = cntB n := by simp [cntP]
theorem cntP_next (n : Nat) {i : Nat} (h : i < 8) : (cntP n i).set (7 - i) (ub (shrI .u64 (n : Int) (8 * i))) = cntP n (i + 1) := by
  unfold cntP
  rw [show 8 - i = (7 - i) + 1 by omega, show 8 - (i + 1) = 7 - i by omega, List.replicate_succ', List.append_assoc, List.set_append_right _ _ (by simp), List.length_replicate, Nat.sub_self]
  have hd : (cntB n).drop (7 - i) = ub (shrI .u64 (n : Int) (8 * i)) :: (cntB n).drop (7 - i + 1) := by
    have hl := cntB_len n
    rw [List.drop_eq_getElem_cons (by omega)]
    have := cntB_get n (7 - i) (by omega)
    rw [List.getElem?_eq_getElem (by omega)] at this
    injection this with this
    rw [this, show 56 - 8 * (7 - i) = 8 * i by omega]
  rw [hd]; simp
theorem counted_pc (n : Nat) : PC Tryd.prog 73 [numT n] [⟨5, 1, bytesE (cntB n)⟩] (.leaf (.own 0 1 8)) := by
  have hz : bytesE (cntP n 0) = [[L.sc (.int .u8 0)], [L.sc (.int .u8 0)], [L.sc (.int .u8 0)], [L.sc (.int .u8 0)], [L.sc (.int .u8 0)], [L.sc (.int .u8 0)], [L.sc (.int .u8 0)], [L.sc (.int .u8 0)]] := by rw [cntP_zero]; rfl
  refine PC.of_body Tryd.func73 rfl ?_
  intro Γ _ _
  simp only [Tryd.ntmps73, List.length_cons, List.length_nil, Nat.reduceAdd, Nat.reduceSub, List.replicate_succ, List.replicate_zero, List.cons_append, List.nil_append]
  repeat' (first
    | (with_reducible first | refine AW.seq ?_ | refine AW.block ?_ | refine AW.ret ?_ | refine AW.skip ?_ | refine AW.exit ?_)
    | ((refine AW.cond (by rfl) (fun hc => ?_) (fun hc => ?_)) <;> (try simp only [hcS] at hc) <;> (try first | contradiction | (exfalso; omega)))
    | ((refine AW.condB (by rfl) (fun hc => ?_) (fun hc => ?_)))
    | ((first | (with_reducible refine AW.regionK mo (by kernel_rfl) ?_; intro K hK) | (with_reducible refine aSliceO.l ?_) | (with_reducible refine aBuildO.l ?_) | (with_reducible refine aStoreO.l ?_)); simp (maxSteps := 2000000) only [↓askG_tt, ↓askG_ff, ↓askG_tf, ↓askG_ft, ↓AOp, ↓aBin, ↓aUn, ↓aConv, ↓aAlloc, ↓aBox, ↓aBuild, ↓aLoad, ↓aStore, ↓aNil, ↓aFieldAddr, ↓aField, ↓aExtract, ↓aIndexAddr, ↓aIndex, ↓aSlice, ↓aMake, ↓aBuildSlice, ↓aFrz, ↓aLen, ↓aAppend, ↓aCopy, Nat.reduceAdd, Nat.reduceSub, Nat.reduceMul, Nat.reduceLT, Nat.reduceLeDiff, Nat.reduceEqDiff, Int.reduceToNat, Int.reduceBEq, Int.reduceBNe, Int.reduceEq, Int.reduceNe, Int.reduceNeg, Int.reduceLE, Int.reduceLT, reduceIte, reduceCtorEq, go_sem, Nat.add_sub_cancel, Nat.add_one_sub_one, Nat.sub_zero, Nat.mul_one, shiftP, shiftT, shiftC, shiftL, shiftB, newIds, idsOfT, List.zipIdx_cons, List.zipIdx_nil, bytes_zero])
    | (with_reducible refine hK _ ?_; clear hK K)
    | (with_reducible refine askG.mk (fun hg => ?_) (fun hg => ?_) <;> (try simp only [hcS] at hg) <;> (try first | contradiction | (exfalso; omega)))
    | ((with_reducible refine And.intro ?_ ?_); focus (first | (with_reducible show pairsOk _ _ = true; kernel_rfl) | omega | (with_reducible assumption) | kernel_rfl | (exact bytesE_len _) | (exact bytesE_allP _) | (exact rowsE_len _) | (exact rowsE_allP _) | ((simp [allP_nil, allP_cons, persL]; done)) | ((simp [byV]; done)) | (simp; done) | (simp; omega)))
    | ((with_reducible first | show inBlockS _ _ _ _ | show thenS _ _ _ _); simp only [inBlockS, thenS, reduceIte, Nat.reduceEqDiff]))
  refine AW.loopG (fun i : Nat => (8, intT i) :: (anys 4 1 (anys 9 15 []))) (fun i => [some ⟨5, 1, bytesE (cntP n i)⟩]) (fun i => 8 - i) (fun i => i ≤ 8) 0 [0] (by omega) ⟨by simp, by simp [leEs_one, leP, lePs, inP, inPs, inEs, leTs, leT, leC, leCs, leL, leLs, leBs, overT, anys, inTs, inT, inCs, inC, inLs, inL, inBs, hOf, undefT], by simp [leEs_one, leP, lePs, inP, inPs, inEs, leTs, leT, leC, leCs, leL, leLs, leBs, overT, anys, inTs, inT, inCs, inC, inLs, inL, inBs, hOf, undefT, leEs_bytes, cntP_zero]⟩ (fun i _ => ⟨by simp [leEs_one, leP, lePs, inP, inPs, inEs, leTs, leT, leC, leCs, leL, leLs, leBs, overT, anys, inTs, inT, inCs, inC, inLs, inL, inBs, hOf, undefT], by simp [leEs_one, leP, lePs, inP, inPs, inEs, leTs, leT, leC, leCs, leL, leLs, leBs, overT, anys, inTs, inT, inCs, inC, inLs, inL, inBs, hOf, undefT]⟩) ?_
  intro i hi
  simp only [overT, anys, ↓askG_tt, ↓askG_ff, ↓askG_tf, ↓askG_ft, ↓AOp, ↓aBin, ↓aUn, ↓aConv, ↓aAlloc, ↓aBox, ↓aBuild, ↓aLoad, ↓aStore, ↓aNil, ↓aFieldAddr, ↓aField, ↓aExtract, ↓aIndexAddr, ↓aIndex, ↓aSlice, ↓aMake, ↓aBuildSlice, ↓aFrz, ↓aLen, ↓aAppend, ↓aCopy, Nat.reduceAdd, Nat.reduceSub, Nat.reduceMul, Nat.reduceLT, Nat.reduceLeDiff, Nat.reduceEqDiff, Int.reduceToNat, Int.reduceBEq, Int.reduceBNe, Int.reduceEq, Int.reduceNe, Int.reduceNeg, Int.reduceLE, Int.reduceLT, reduceIte, reduceCtorEq, go_sem, Nat.add_sub_cancel, Nat.add_one_sub_one, Nat.sub_zero, Nat.mul_one]
  have hl := cntP_len n hi
  by_cases hlt : i < 8
  · have g0 : decide ((i : Int) < 8) = true := by simp; omega
    have f0 : IntKind.i64.wrap (((8 : Nat) : Int) - 1) = 7 := wrap_i64 7 (by omega)
    have f2 : IntKind.i64.wrap (7 - (i : Int)) = ((7 - i : Nat) : Int) := by rw [wrap_i64 _ (by omega)]; omega
    have f3 : IntKind.i64.wrap (8 * (i : Int)) = ((8 * i : Nat) : Int) := by rw [wrap_i64 _ (by omega)]; omega
    have m4 := byte_get (b := cntP n i) (k := 7 - i) (by omega)
    have m5 := cntP_next n hlt
    repeat' (first
    | (with_reducible first | refine AW.seq ?_ | refine AW.block ?_ | refine AW.ret ?_ | refine AW.skip ?_ | refine AW.exit ?_)
    | ((refine AW.cond (by rfl) (fun hc => ?_) (fun hc => ?_)) <;> (try simp only [hcS] at hc) <;> (try first | contradiction | (exfalso; omega)))
    | ((refine AW.condB (by rfl) (fun hc => ?_) (fun hc => ?_)))
    | ((first | (with_reducible refine AW.regionK mo (by kernel_rfl) ?_; intro K hK) | (with_reducible refine aSliceO.l ?_) | (with_reducible refine aBuildO.l ?_) | (with_reducible refine aStoreO.l ?_)); simp (maxSteps := 2000000) only [↓askG_tt, ↓askG_ff, ↓askG_tf, ↓askG_ft, ↓AOp, ↓aBin, ↓aUn, ↓aConv, ↓aAlloc, ↓aBox, ↓aBuild, ↓aLoad, ↓aStore, ↓aNil, ↓aFieldAddr, ↓aField, ↓aExtract, ↓aIndexAddr, ↓aIndex, ↓aSlice, ↓aMake, ↓aBuildSlice, ↓aFrz, ↓aLen, ↓aAppend, ↓aCopy, Nat.reduceAdd, Nat.reduceSub, Nat.reduceMul, Nat.reduceLT, Nat.reduceLeDiff, Nat.reduceEqDiff, Int.reduceToNat, Int.reduceBEq, Int.reduceBNe, Int.reduceEq, Int.reduceNe, Int.reduceNeg, Int.reduceLE, Int.reduceLT, reduceIte, reduceCtorEq, go_sem, Nat.add_sub_cancel, Nat.add_one_sub_one, Nat.sub_zero, Nat.mul_one, shiftP, shiftT, shiftC, shiftL, shiftB, newIds, idsOfT, List.zipIdx_cons, List.zipIdx_nil, g0, f0, f2, f3, hl, m4, m5])
    | (with_reducible refine hK _ ?_; clear hK K)
    | (with_reducible refine askG.mk (fun hg => ?_) (fun hg => ?_) <;> (try simp only [hcS] at hg) <;> (try first | contradiction | (exfalso; omega)))
    | ((with_reducible refine And.intro ?_ ?_); focus (first | (with_reducible show pairsOk _ _ = true; kernel_rfl) | omega | (with_reducible assumption) | kernel_rfl | (exact bytesE_len _) | (exact bytesE_allP _) | (exact rowsE_len _) | (exact rowsE_allP _) | ((simp [allP_nil, allP_cons, persL]; done)) | ((simp [byV]; done)) | (simp; done) | (simp; omega)))
    | ((with_reducible first | show inBlockS _ _ _ _ | show thenS _ _ _ _); simp only [inBlockS, thenS, reduceIte, Nat.reduceEqDiff]))
    rw [wrap_i64 _ (by omega)]
    exact ⟨[0], i + 1, by omega, by omega, ⟨by simp, by simp [leEs_one, leP, lePs, inP, inPs, inEs, leTs, leT, leC, leCs, leL, leLs, leBs, overT, anys, inTs, inT, inCs, inC, inLs, inL, inBs, hOf, undefT], by simp [leEs_one, leP, lePs, inP, inPs, inEs, leTs, leT, leC, leCs, leL, leLs, leBs, overT, anys, inTs, inT, inCs, inC, inLs, inL, inBs, hOf, undefT, leEs_bytes]⟩⟩
  · obtain rfl : i = 8 := by omega
    have g0 : decide (((8 : Nat) : Int) < 8) = false := by decide
    rw [cntP_last]
    repeat' (first
    | (with_reducible first | refine AW.seq ?_ | refine AW.block ?_ | refine AW.ret ?_ | refine AW.skip ?_ | refine AW.exit ?_)
    | ((refine AW.cond (by rfl) (fun hc => ?_) (fun hc => ?_)) <;> (try simp only [hcS] at hc) <;> (try first | contradiction | (exfalso; omega)))
    | ((refine AW.condB (by rfl) (fun hc => ?_) (fun hc => ?_)))
    | ((first | (with_reducible refine AW.regionK mo (by kernel_rfl) ?_; intro K hK) | (with_reducible refine aSliceO.l ?_) | (with_reducible refine aBuildO.l ?_) | (with_reducible refine aStoreO.l ?_)); simp (maxSteps := 2000000) only [↓askG_tt, ↓askG_ff, ↓askG_tf, ↓askG_ft, ↓AOp, ↓aBin, ↓aUn, ↓aConv, ↓aAlloc, ↓aBox, ↓aBuild, ↓aLoad, ↓aStore, ↓aNil, ↓aFieldAddr, ↓aField, ↓aExtract, ↓aIndexAddr, ↓aIndex, ↓aSlice, ↓aMake, ↓aBuildSlice, ↓aFrz, ↓aLen, ↓aAppend, ↓aCopy, Nat.reduceAdd, Nat.reduceSub, Nat.reduceMul, Nat.reduceLT, Nat.reduceLeDiff, Nat.reduceEqDiff, Int.reduceToNat, Int.reduceBEq, Int.reduceBNe, Int.reduceEq, Int.reduceNe, Int.reduceNeg, Int.reduceLE, Int.reduceLT, reduceIte, reduceCtorEq, go_sem, Nat.add_sub_cancel, Nat.add_one_sub_one, Nat.sub_zero, Nat.mul_one, shiftP, shiftT, shiftC, shiftL, shiftB, newIds, idsOfT, List.zipIdx_cons, List.zipIdx_nil, g0])
    | (with_reducible refine hK _ ?_; clear hK K)
    | (with_reducible refine askG.mk (fun hg => ?_) (fun hg => ?_) <;> (try simp only [hcS] at hg) <;> (try first | contradiction | (exfalso; omega)))
    | ((with_reducible refine And.intro ?_ ?_); focus (first | (with_reducible show pairsOk _ _ = true; kernel_rfl) | omega | (with_reducible assumption) | kernel_rfl | (exact bytesE_len _) | (exact bytesE_allP _) | (exact rowsE_len _) | (exact rowsE_allP _) | ((simp [allP_nil, allP_cons, persL]; done)) | ((simp [byV]; done)) | (simp; done) | (simp; omega)))
    | ((with_reducible first | show inBlockS _ _ _ _ | show thenS _ _ _ _); simp only [inBlockS, thenS, reduceIte, Nat.reduceEqDiff]))
    refine ⟨_, [.inl 0], rfl, ⟨rfl, ?_, ?_, ?_⟩⟩ <;> simp [go_sem, Nat.add_sub_cancel, Nat.add_one_sub_one, Nat.sub_zero, Nat.mul_one, finP, finPs, viewP, viewPs, finT, finC, finCs, finL, finLs, finBs, viewOk, viewsOk, persL, inT, inC, inCs, inL, inLs, ndB, allP_nil, allP_cons, allP_append]
theorem hashes_pc (b : List UInt8) : PC Tryd.prog 64 [bytesT b] [] (.leaf (.clo 72 [.pp [bytesL b]])) := by
  refine PC.of_body Tryd.func64 rfl ?_
  intro Γ _ _
  simp only [Tryd.ntmps64, List.length_cons, List.length_nil, Nat.reduceAdd, Nat.reduceSub, List.replicate_succ, List.replicate_zero, List.cons_append, List.nil_append]
  repeat' (first
    | (with_reducible first | refine AW.seq ?_ | refine AW.block ?_ | refine AW.ret ?_ | refine AW.skip ?_ | refine AW.exit ?_)
    | ((refine AW.cond (by rfl) (fun hc => ?_) (fun hc => ?_)) <;> (try simp only [hcS] at hc) <;> (try first | contradiction | (exfalso; omega)))
    | ((refine AW.condB (by rfl) (fun hc => ?_) (fun hc => ?_)))
    | ((first | (refine aSem.mkClo (ls := [.ptr 0 0 0]) rfl rfl ?_ ?_; (focus simp)) | (with_reducible refine AW.regionK mo (by kernel_rfl) ?_; intro K hK) | (with_reducible refine aSliceO.l ?_) | (with_reducible refine aBuildO.l ?_) | (with_reducible refine aStoreO.l ?_)); simp (maxSteps := 2000000) only [↓askG_tt, ↓askG_ff, ↓askG_tf, ↓askG_ft, ↓AOp, ↓aBin, ↓aUn, ↓aConv, ↓aAlloc, ↓aBox, ↓aBuild, ↓aLoad, ↓aStore, ↓aNil, ↓aFieldAddr, ↓aField, ↓aExtract, ↓aIndexAddr, ↓aIndex, ↓aSlice, ↓aMake, ↓aBuildSlice, ↓aFrz, ↓aLen, ↓aAppend, ↓aCopy, Nat.reduceAdd, Nat.reduceSub, Nat.reduceMul, Nat.reduceLT, Nat.reduceLeDiff, Nat.reduceEqDiff, Int.reduceToNat, Int.reduceBEq, Int.reduceBNe, Int.reduceEq, Int.reduceNe, Int.reduceNeg, Int.reduceLE, Int.reduceLT, reduceIte, reduceCtorEq, go_sem, Nat.add_sub_cancel, Nat.add_one_sub_one, Nat.sub_zero, Nat.mul_one, shiftP, shiftT, shiftC, shiftL, shiftB, newIds, idsOfT, List.zipIdx_cons, List.zipIdx_nil])
    | (with_reducible refine hK _ ?_; clear hK K)
    | (with_reducible refine askG.mk (fun hg => ?_) (fun hg => ?_) <;> (try simp only [hcS] at hg) <;> (try first | contradiction | (exfalso; omega)))
    | ((with_reducible refine And.intro ?_ ?_); focus (first | (with_reducible show pairsOk _ _ = true; kernel_rfl) | omega | (with_reducible assumption) | kernel_rfl | (exact bytesE_len _) | (exact bytesE_allP _) | (exact rowsE_len _) | (exact rowsE_allP _) | ((simp [allP_nil, allP_cons, persL]; done)) | ((simp [byV]; done)) | (simp; done) | (simp; omega)))
    | ((with_reducible first | show inBlockS _ _ _ _ | show thenS _ _ _ _); simp only [inBlockS, thenS, reduceIte, Nat.reduceEqDiff]))
  refine ⟨_, [], rfl, ⟨rfl, ?_, ?_, ?_⟩⟩ <;> simp [go_sem, Nat.add_sub_cancel, Nat.add_one_sub_one, Nat.sub_zero, Nat.mul_one, finP, finPs, viewP, viewPs, finT, finC, finCs, finL, finLs, finBs, viewOk, viewsOk, persL, inT, inC, inCs, inL, inLs, ndB, allP_nil, allP_cons, allP_append, inPs, inP]
end Go.Proofs.YtbcclcbmbejnmaaDoor

/- mac: a stream's hashes, for ever. -/
namespace Go.Proofs.YtbcclcbmbejnmaaDoor
set_option linter.unusedSimpArgs false
set_option linter.unusedVariables false
open Go Go.RowKit
attribute [local congr] AW_congr AOs_congr aCall_congr aCall1_congr aSem_congr aSliceO_congr aBuildO_congr aStoreO_congr
attribute [local go_sem] uC_own uC_ids uC_shift uC_frz uC_length tabK_uC ub_v bytes_set bytesE_one1 bytesE_consr bytesE_append bytesE_drop bytesE_take rowsE_length rowsE_get Option.map_map bytesE_length bytesE_get shiftE_bytes shiftE_rows exBytesE str_beq bytesE_take_self List.take_length
set_option maxRecDepth 100000

attribute [local simp] leEs_bytes
theorem arr13 {a : Array Value} (h : a.size = 13) : ∃ x0 x1 x2 x3 x4 x5 x6 x7 x8 x9 x10 x11 x12, a = #[x0, x1, x2, x3, x4, x5, x6, x7, x8, x9, x10, x11, x12] := by
  rcases a with ⟨ls⟩
  simp only [List.size_toArray] at h
  rcases ls with _ | ⟨x0, _ | ⟨x1, _ | ⟨x2, _ | ⟨x3, _ | ⟨x4, _ | ⟨x5, _ | ⟨x6, _ | ⟨x7, _ | ⟨x8, _ | ⟨x9, _ | ⟨x10, _ | ⟨x11, _ | ⟨x12, _ | ⟨x13, ls⟩⟩⟩⟩⟩⟩⟩⟩⟩⟩⟩⟩⟩⟩
  all_goals first | exact ⟨_, _, _, _, _, _, _, _, _, _, _, _, _, rfl⟩ | (simp at h)
def hashS (key : List UInt8) (k : Nat) : List UInt8 := shaSum (key ++ cntB k)
theorem hashS_len (key : List UInt8) (k : Nat) : (hashS key k).length = 32 := shaSum_len _
theorem hashes_it (key : List UInt8) (hk : key.length ≤ 900000) (N : Nat) (hN : N ≤ 4611686018427387904) : PIt Tryd.prog 72 [.pp [bytesL key]] (fun k => [bytesL (hashS key k)]) N true := by
  intro B cs W hBW hcs hcap hgl m l J Jx hY hinf hJ0
  have hc0 := hcap 0 _ rfl
  obtain ⟨v0, rfl⟩ : ∃ v0, cs = #[v0] := ⟨cs[0]'(by simp at hcs; omega), by
    apply Array.ext
    · simpa using hcs
    · intro i h1 h2; simp at h2; subst h2; rfl⟩
  have hv0 : (#[v0] : Array Value).getD 0 undef = v0 := rfl
  rw [hv0] at hc0
  refine callsIn_of_wp Tryd.func72 rfl trivial (wpIn_wide.2 ?_) rfl
  simp only [Tryd.ntmps72, List.size_toArray, List.length_cons, List.length_nil, Nat.reduceAdd, Nat.reduceSub, Array.replicate_succ, Array.replicate_zero, List.push_toArray, List.append_toArray, List.nil_append, List.cons_append]
  obtain ⟨Fr, hFr⟩ : ∃ Fr : Nat → Act → World → Prop, Fr = fun k a wr => a.tmps.size = 13 ∧ a.tmps.getD 0 undef = .func (.yield l) #[] #[] ∧ a.tmps.getD 1 undef = v0 ∧ a.tmps.getD 3 undef = .int .u64 (k : Int) ∧ a.defers = [] ∧ ∃ W0, J k W0 ∧ Below W0.heap.size W0 wr ∧ KpB B W wr ∧ KpB B W W0 := ⟨_, rfl⟩
  go_wp2
  refine wp_loop (fun a w => ∃ k, k ≤ N ∧ Fr k a w) (fun a _ => N - (intOf (a.tmps.getD 3 undef)).toNat) ⟨0, Nat.zero_le _, by rw [hFr]; exact ⟨rfl, rfl, rfl, rfl, rfl, W, hJ0, Below.refl _ _, ⟨Nat.le_refl _, fun _ _ => rfl⟩, ⟨Nat.le_refl _, fun _ _ => rfl⟩⟩⟩ ?_
  rintro a wr ⟨k, hkN, hF⟩
  rw [hFr] at hF
  obtain ⟨hsz, h0, h1, h3, hdf, W0, hJ, hbel, hkp, hkp0⟩ := hF
  have hlt : k < N := by
    rcases Nat.lt_or_ge k N with h | h
    · exact h
    · exact absurd (by rw [show N = k by omega]; exact hJ) (hinf (by first | rfl | trivial) W0)
  have H : Holds (Cx B wr.heap.size) wr ⟨[.leaf (.sc (.func (.yield l) #[] #[])), .leaf (.pp [bytesL key]), .leaf .any, numT k, .leaf .any, .leaf .any, .leaf .any, .leaf .any, .leaf .any, .leaf .any, .leaf .any, .leaf .any, .leaf .any], []⟩ a wr := by
    refine Holds.start (Nat.le_refl _) ⟨⟨by simpa using hsz, hgl.kept hBW hkp _ (Nat.le_refl _)⟩, fun i t ht => ?_⟩ hdf
    rcases i with _ | _ | _ | _ | i
    · simp at ht; subst ht; rw [h0]; exact RL.sc _
    · simp at ht; subst ht; rw [h1]
      exact RL.keep (fun b hb => ⟨⟨⟨Nat.lt_of_lt_of_le (hBW b hb) hkp.1, fun id ab h => by simp [hOf] at h⟩, .inl hb⟩, hkp.2 b hb⟩) hc0
    · simp at ht; subst ht; exact trivial
    · simp at ht; subst ht; rw [h3]; exact RL.sc _
    · have : t = .leaf .any := by
        rcases i with _ | _ | _ | _ | _ | _ | _ | _ | _ | i
        all_goals simp at ht
        all_goals exact ht.symm
      subst this; exact trivial
  refine wp_seq ?_
  refine wp_seq ?_
  refine (wpIn_wide (n := m + 1)).1 ?_
  refine region_yieldK (fun σ' => ∃ id ab, σ'.tm.length = 13 ∧ evalT σ'.tm (.tmp 4) = .leaf (.sc (.func (.yield l) #[] #[])) ∧ evalT σ'.tm (.tmp 9) = .leaf (.own id 1 32) ∧ σ'.h id = some (some ab) ∧ ab.es = bytesE (hashS key k)) mo (by rfl) (by kernel_rfl) (by kernel_rfl) ?_ H ?_
  · intro K hK
    have C1 := counted_pc k
    have C2 := hash_pc [key, cntB k] (by simp) (by simp [cntB_len]; omega)
    have e1 : ([key, cntB k] : List Txt').flatten = key ++ cntB k := by simp
    rw [e1] at C2
    have hcl := cntB_len k
    unfold hashS at hK
    generalize shaSum (key ++ cntB k) = s at *
    generalize cntB k = cb at *
    simp (maxSteps := 2000000) only [List.dropLast, ↓askG_tt, ↓askG_ff, ↓askG_tf, ↓askG_ft, ↓AOp, ↓aBin, ↓aUn, ↓aConv, ↓aAlloc, ↓aBox, ↓aBuild, ↓aLoad, ↓aStore, ↓aNil, ↓aFieldAddr, ↓aField, ↓aExtract, ↓aIndexAddr, ↓aIndex, ↓aSlice, ↓aMake, ↓aBuildSlice, ↓aFrz, ↓aLen, ↓aAppend, ↓aCopy, Nat.reduceAdd, Nat.reduceSub, Nat.reduceMul, Nat.reduceLT, Nat.reduceLeDiff, Nat.reduceEqDiff, Int.reduceToNat, Int.reduceBEq, Int.reduceBNe, Int.reduceEq, Int.reduceNe, Int.reduceNeg, Int.reduceLE, Int.reduceLT, reduceIte, reduceCtorEq, go_sem, Nat.add_sub_cancel, Nat.add_one_sub_one, Nat.sub_zero, Nat.mul_one]
    repeat' (first
    | (with_reducible first | refine AW.seq ?_ | refine AW.block ?_ | refine AW.ret ?_ | refine AW.skip ?_ | refine AW.exit ?_)
    | ((refine AW.cond (by rfl) (fun hc => ?_) (fun hc => ?_)) <;> (try simp only [hcS] at hc) <;> (try first | contradiction | (exfalso; omega)))
    | ((refine AW.condB (by rfl) (fun hc => ?_) (fun hc => ?_)))
    | ((first | (refine aCall.pers (C1) fnOk73 ?_ ?_ ?_ ?_; (focus rfl); (focus rfl); (focus (simp [persT, persL, rowsE_cons, rowsE_nil, textC]; done))) | (refine aCall.frzAll ?_) | (refine aCall1.wk (C2) fnOk40 ?_ ?_ ?_ ?_; (focus rfl); (focus (simp [wkTs, wkT, wkLs, wkL, isNilSl, St.ev, evalT, rowsE_cons, rowsE_nil, textC]; done)); (focus (simp [persT, persL, St.ev, evalT, rowsE_cons, rowsE_nil, textC]; done))) | (with_reducible refine AW.regionK mo (by kernel_rfl) ?_; intro K hK) | (with_reducible refine aSliceO.l ?_) | (with_reducible refine aBuildO.l ?_) | (with_reducible refine aStoreO.l ?_)); simp (maxSteps := 2000000) only [↓askG_tt, ↓askG_ff, ↓askG_tf, ↓askG_ft, ↓AOp, ↓aBin, ↓aUn, ↓aConv, ↓aAlloc, ↓aBox, ↓aBuild, ↓aLoad, ↓aStore, ↓aNil, ↓aFieldAddr, ↓aField, ↓aExtract, ↓aIndexAddr, ↓aIndex, ↓aSlice, ↓aMake, ↓aBuildSlice, ↓aFrz, ↓aLen, ↓aAppend, ↓aCopy, Nat.reduceAdd, Nat.reduceSub, Nat.reduceMul, Nat.reduceLT, Nat.reduceLeDiff, Nat.reduceEqDiff, Int.reduceToNat, Int.reduceBEq, Int.reduceBNe, Int.reduceEq, Int.reduceNe, Int.reduceNeg, Int.reduceLE, Int.reduceLT, reduceIte, reduceCtorEq, go_sem, Nat.add_sub_cancel, Nat.add_one_sub_one, Nat.sub_zero, Nat.mul_one, shiftP, shiftT, shiftC, shiftL, shiftB, newIds, idsOfT, List.zipIdx_cons, List.zipIdx_nil, rowsE_cons, rowsE_nil, textC])
    | (with_reducible refine hK _ ?_; clear hK K)
    | (with_reducible refine askG.mk (fun hg => ?_) (fun hg => ?_) <;> (try simp only [hcS] at hg) <;> (try first | contradiction | (exfalso; omega)))
    | ((with_reducible refine And.intro ?_ ?_); focus (first | (with_reducible show pairsOk _ _ = true; kernel_rfl) | omega | (with_reducible assumption) | kernel_rfl | (exact bytesE_len _) | (exact bytesE_allP _) | (exact rowsE_len _) | (exact rowsE_allP _) | ((simp [allP_nil, allP_cons, persL]; done)) | ((simp [byV]; done)) | (simp; done) | (simp; omega)))
    | ((with_reducible first | show inBlockS _ _ _ _ | show thenS _ _ _ _); simp only [inBlockS, thenS, reduceIte, Nat.reduceEqDiff]))
    exact ⟨_, _, rfl, rfl, rfl, rfl, rfl⟩
  · rintro σ' a' w' ⟨id, ab, k1, k2, k3, k4, k5⟩ H2 hdf2 hkeep
    have hall : allP ab.es := by rw [k5]; exact bytesE_allP _
    have hread := H2.ownRead k3 k4 hall
    rw [k5] at hread
    have hd0 : a'.eval (.tmp 4) = .func (.yield l) #[] #[] := by
      obtain ⟨μ, E, I, F, M⟩ := H2
      have := F.eval (.tmp 4)
      rw [k2] at this
      exact RT.sc_inv this
    have hsz2 : a'.tmps.size = 13 := by
      obtain ⟨μ, E, I, F, M⟩ := H2
      rw [F.1.1, k1]
    have hbel2 : Below wr.heap.size wr w' := by
      obtain ⟨μ, E, I, F, M⟩ := H2
      exact ⟨E.os, E.tape, E.output, E.size, fun b hb => (E.per b hb Cx_I).1⟩
    have q0 := (hkeep 0 (by simp [List.dropLast])).trans h0
    have q1 := (hkeep 1 (by simp [List.dropLast])).trans h1
    have q3 := (hkeep 3 (by simp [List.dropLast])).trans h3
    have hyield := hY k #[a'.eval (.tmp 9)] W0 w' hJ (hbel.trans (hbel2.mono hbel.size)) ⟨rfl, fun j x hx => by
      rcases j with _ | j
      · simp at hx; subst hx
        exact ⟨rfl, RL.keep (fun q hq => ⟨hq.imp (fun h => h) (fun h => Nat.le_trans hbel.size h), rfl⟩) hread⟩
      · simp at hx⟩ hlt
    refine op_yield rfl hd0 hyield ?_
    obtain ⟨x0, x1, x2, x3, x4, x5, x6, x7, x8, x9, x10, x11, x12, hx⟩ := arr13 hsz2
    obtain ⟨tm', df'⟩ := a'
    simp only at hx
    subst hx
    obtain rfl : x0 = _ := q0
    have q1' : x1 = v0 := q1
    obtain rfl : x3 = _ := q3
    obtain rfl : df' = [] := hdf2.trans hdf
    rintro e W3 (⟨rfl, hJ3, hk3⟩ | ⟨rfl, hJx3⟩)
    · refine ⟨_, rfl, ?_⟩
      have hkW3 : KpB B W W3 := ⟨Nat.le_trans hkp0.1 hk3.1, fun q hq => (hk3.2 q hq).trans (hkp0.2 q hq)⟩
      have hwr : IntKind.u64.wrap ((k : Int) + 1) = ((k + 1 : Nat) : Int) := by
        show ((k : Int) + 1) % 18446744073709551616 = _
        omega
      clear hyield hread H2 H hkeep
      go_wp2
      refine ⟨⟨k + 1, hlt, ?_⟩, ?_⟩
      · rw [hFr]
        exact ⟨rfl, rfl, (by first | rfl | exact q1'), rfl, rfl, W3, hJ3, Below.refl _ _, hkW3, hkW3⟩
      · rw [h3]
        show N - ((k : Int) + 1).toNat < N - (k : Int).toNat
        omega
    · refine ⟨_, rfl, ?_⟩
      clear hyield hread H2 H hkeep
      go_wp2
      go_end0
      exact ⟨⟨_, rfl⟩, .inr ⟨_, W3, hJx3, Below.refl _ _⟩⟩
end Go.Proofs.YtbcclcbmbejnmaaDoor

/- mac: a stream. -/
namespace Go.Proofs.YtbcclcbmbejnmaaDoor
set_option linter.unusedSimpArgs false
set_option linter.unusedVariables false
open Go Go.RowKit
attribute [local congr] AW_congr AOs_congr aCall_congr aCall1_congr aSem_congr aSliceO_congr aBuildO_congr aStoreO_congr
attribute [local go_sem] uC_own uC_ids uC_shift uC_frz uC_length tabK_uC ub_v bytes_set bytesE_one1 bytesE_consr bytesE_append bytesE_drop bytesE_take rowsE_length rowsE_get Option.map_map bytesE_length bytesE_get shiftE_bytes shiftE_rows exBytesE str_beq bytesE_take_self List.take_length
set_option maxRecDepth 100000

attribute [local simp] leEs_bytes
def strB (key : List UInt8) : Nat → List UInt8
  | 0 => []
  | k + 1 => strB key k ++ hashS key k
theorem strB_len (key : List UInt8) : ∀ k, (strB key k).length = 32 * k
  | 0 => rfl
  | k + 1 => by simp [strB, strB_len key k, hashS_len]; omega
theorem strB_more (key : List UInt8) (k : Nat) : ∀ j, ∃ r, strB key (k + j) = strB key k ++ r
  | 0 => ⟨[], by simp⟩
  | j + 1 => by
    obtain ⟨r, hr⟩ := strB_more key k j
    exact ⟨r ++ hashS key (k + j), by show strB key (k + j) ++ hashS key (k + j) = _; rw [hr, List.append_assoc]⟩
/-- A stream's first n bytes. -/
def streamS (key : List UInt8) (n : Nat) : List UInt8 := (strB key (n / 32 + 1)).take n
theorem streamS_len (key : List UInt8) (n : Nat) : (streamS key n).length = n := by simp [streamS, strB_len]; omega
theorem strB_take (key : List UInt8) {n k : Nat} (h : n ≤ 32 * k) : (strB key k).take n = streamS key n := by
  unfold streamS
  have hl1 := strB_len key k
  have hl2 := strB_len key (n / 32 + 1)
  rcases Nat.le_total k (n / 32 + 1) with hk | hk
  · obtain ⟨r, hr⟩ := strB_more key k (n / 32 + 1 - k)
    rw [show k + (n / 32 + 1 - k) = n / 32 + 1 by omega] at hr
    rw [hr, List.take_append_of_le_length (by omega)]
  · obtain ⟨r, hr⟩ := strB_more key (n / 32 + 1) (k - (n / 32 + 1))
    rw [show n / 32 + 1 + (k - (n / 32 + 1)) = k by omega] at hr
    rw [hr, List.take_append_of_le_length (by omega)]
theorem streamS_take (key : List UInt8) {n m : Nat} (h : n ≤ m) : (streamS key m).take n = streamS key n := by
  unfold streamS
  rw [List.take_take, Nat.min_eq_left h]
  exact strB_take key (by omega)
theorem streamBad_pc (key : List UInt8) (n : Int) (hn : n < 0 ∨ 1048576 < n) : PC Tryd.prog 52 [bytesT key, .leaf (.sc (.int .i64 n))] [] (.tup [.leaf (.sl []), intT 1]) := by
  by_cases h : n < 0
  · have g0 : decide (n < 0) = true := by simp; omega
    refine PC.of_body Tryd.func52 rfl ?_
    intro Γ _ _
    simp only [Tryd.ntmps52, List.length_cons, List.length_nil, Nat.reduceAdd, Nat.reduceSub, List.replicate_succ, List.replicate_zero, List.cons_append, List.nil_append]
    repeat' (first
    | (with_reducible first | refine AW.seq ?_ | refine AW.block ?_ | refine AW.ret ?_ | refine AW.skip ?_ | refine AW.exit ?_)
    | ((refine AW.cond (by rfl) (fun hc => ?_) (fun hc => ?_)) <;> (try simp only [hcS] at hc) <;> (try first | contradiction | (exfalso; omega)))
    | ((refine AW.condB (by rfl) (fun hc => ?_) (fun hc => ?_)))
    | ((first | (with_reducible refine AW.regionK mo (by kernel_rfl) ?_; intro K hK) | (with_reducible refine aSliceO.l ?_) | (with_reducible refine aBuildO.l ?_) | (with_reducible refine aStoreO.l ?_)); simp (maxSteps := 2000000) only [↓askG_tt, ↓askG_ff, ↓askG_tf, ↓askG_ft, ↓AOp, ↓aBin, ↓aUn, ↓aConv, ↓aAlloc, ↓aBox, ↓aBuild, ↓aLoad, ↓aStore, ↓aNil, ↓aFieldAddr, ↓aField, ↓aExtract, ↓aIndexAddr, ↓aIndex, ↓aSlice, ↓aMake, ↓aBuildSlice, ↓aFrz, ↓aLen, ↓aAppend, ↓aCopy, Nat.reduceAdd, Nat.reduceSub, Nat.reduceMul, Nat.reduceLT, Nat.reduceLeDiff, Nat.reduceEqDiff, Int.reduceToNat, Int.reduceBEq, Int.reduceBNe, Int.reduceEq, Int.reduceNe, Int.reduceNeg, Int.reduceLE, Int.reduceLT, reduceIte, reduceCtorEq, go_sem, Nat.add_sub_cancel, Nat.add_one_sub_one, Nat.sub_zero, Nat.mul_one, shiftP, shiftT, shiftC, shiftL, shiftB, newIds, idsOfT, List.zipIdx_cons, List.zipIdx_nil, g0])
    | (with_reducible refine hK _ ?_; clear hK K)
    | (with_reducible refine askG.mk (fun hg => ?_) (fun hg => ?_) <;> (try simp only [hcS] at hg) <;> (try first | contradiction | (exfalso; omega)))
    | ((with_reducible refine And.intro ?_ ?_); focus (first | (with_reducible show pairsOk _ _ = true; kernel_rfl) | omega | (with_reducible assumption) | kernel_rfl | (exact bytesE_len _) | (exact bytesE_allP _) | (exact rowsE_len _) | (exact rowsE_allP _) | ((simp [allP_nil, allP_cons, persL]; done)) | ((simp [byV]; done)) | (simp; done) | (simp; omega)))
    | ((with_reducible first | show inBlockS _ _ _ _ | show thenS _ _ _ _); simp only [inBlockS, thenS, reduceIte, Nat.reduceEqDiff]))
    all_goals (refine ⟨_, [], rfl, ⟨rfl, ?_, ?_, ?_⟩⟩ <;> simp [go_sem, Nat.add_sub_cancel, Nat.add_one_sub_one, Nat.sub_zero, Nat.mul_one, finP, finPs, viewP, viewPs, finT, finC, finCs, finL, finLs, finBs, viewOk, viewsOk, persL, inT, inC, inCs, inL, inLs, ndB, allP_nil, allP_cons, allP_append])
  · have g0 : decide (n < 0) = false := by simp; omega
    have g1 : decide (1048576 < n) = true := by simp; omega
    refine PC.of_body Tryd.func52 rfl ?_
    intro Γ _ _
    simp only [Tryd.ntmps52, List.length_cons, List.length_nil, Nat.reduceAdd, Nat.reduceSub, List.replicate_succ, List.replicate_zero, List.cons_append, List.nil_append]
    repeat' (first
    | (with_reducible first | refine AW.seq ?_ | refine AW.block ?_ | refine AW.ret ?_ | refine AW.skip ?_ | refine AW.exit ?_)
    | ((refine AW.cond (by rfl) (fun hc => ?_) (fun hc => ?_)) <;> (try simp only [hcS] at hc) <;> (try first | contradiction | (exfalso; omega)))
    | ((refine AW.condB (by rfl) (fun hc => ?_) (fun hc => ?_)))
    | ((first | (with_reducible refine AW.regionK mo (by kernel_rfl) ?_; intro K hK) | (with_reducible refine aSliceO.l ?_) | (with_reducible refine aBuildO.l ?_) | (with_reducible refine aStoreO.l ?_)); simp (maxSteps := 2000000) only [↓askG_tt, ↓askG_ff, ↓askG_tf, ↓askG_ft, ↓AOp, ↓aBin, ↓aUn, ↓aConv, ↓aAlloc, ↓aBox, ↓aBuild, ↓aLoad, ↓aStore, ↓aNil, ↓aFieldAddr, ↓aField, ↓aExtract, ↓aIndexAddr, ↓aIndex, ↓aSlice, ↓aMake, ↓aBuildSlice, ↓aFrz, ↓aLen, ↓aAppend, ↓aCopy, Nat.reduceAdd, Nat.reduceSub, Nat.reduceMul, Nat.reduceLT, Nat.reduceLeDiff, Nat.reduceEqDiff, Int.reduceToNat, Int.reduceBEq, Int.reduceBNe, Int.reduceEq, Int.reduceNe, Int.reduceNeg, Int.reduceLE, Int.reduceLT, reduceIte, reduceCtorEq, go_sem, Nat.add_sub_cancel, Nat.add_one_sub_one, Nat.sub_zero, Nat.mul_one, shiftP, shiftT, shiftC, shiftL, shiftB, newIds, idsOfT, List.zipIdx_cons, List.zipIdx_nil, g0, g1])
    | (with_reducible refine hK _ ?_; clear hK K)
    | (with_reducible refine askG.mk (fun hg => ?_) (fun hg => ?_) <;> (try simp only [hcS] at hg) <;> (try first | contradiction | (exfalso; omega)))
    | ((with_reducible refine And.intro ?_ ?_); focus (first | (with_reducible show pairsOk _ _ = true; kernel_rfl) | omega | (with_reducible assumption) | kernel_rfl | (exact bytesE_len _) | (exact bytesE_allP _) | (exact rowsE_len _) | (exact rowsE_allP _) | ((simp [allP_nil, allP_cons, persL]; done)) | ((simp [byV]; done)) | (simp; done) | (simp; omega)))
    | ((with_reducible first | show inBlockS _ _ _ _ | show thenS _ _ _ _); simp only [inBlockS, thenS, reduceIte, Nat.reduceEqDiff]))
    all_goals (refine ⟨_, [], rfl, ⟨rfl, ?_, ?_, ?_⟩⟩ <;> simp [go_sem, Nat.add_sub_cancel, Nat.add_one_sub_one, Nat.sub_zero, Nat.mul_one, finP, finPs, viewP, viewPs, finT, finC, finCs, finL, finLs, finBs, viewOk, viewsOk, persL, inT, inC, inCs, inL, inLs, ndB, allP_nil, allP_cons, allP_append])
set_option maxHeartbeats 2000000 in
theorem stream_pc (key : List UInt8) (n : Nat) (hk : key.length ≤ 900000) (hn : n ≤ 1048576) : PC Tryd.prog 52 [bytesT key, intT n] [] (.tup [.leaf (bytesL (streamS key n)), intT 0]) := by
  have g0 : decide ((n : Int) < 0) = false := by simp
  have g1 : decide (1048576 < (n : Int)) = false := by simp; omega
  have CI := hashes_it key hk (n / 32 + 2) (by omega)
  have C1 := hashes_pc key
  refine PC.of_body Tryd.func52 rfl ?_
  intro Γ _ _
  simp only [Tryd.ntmps52, List.length_cons, List.length_nil, Nat.reduceAdd, Nat.reduceSub, List.replicate_succ, List.replicate_zero, List.cons_append, List.nil_append]
  repeat' (first
    | (with_reducible first | refine AW.seq ?_ | refine AW.block ?_ | refine AW.ret ?_ | refine AW.skip ?_ | refine AW.exit ?_)
    | ((refine AW.cond (by rfl) (fun hc => ?_) (fun hc => ?_)) <;> (try simp only [hcS] at hc) <;> (try first | contradiction | (exfalso; omega)))
    | ((refine AW.condB (by rfl) (fun hc => ?_) (fun hc => ?_)))
    | ((first | (refine aCall.pers (C1) fnOk64 ?_ ?_ ?_ ?_; (focus rfl); (focus rfl); (focus (simp [persT, persL, g0, g1]; done))) | (with_reducible refine AW.regionK mo (by kernel_rfl) ?_; intro K hK) | (with_reducible refine aSliceO.l ?_) | (with_reducible refine aBuildO.l ?_) | (with_reducible refine aStoreO.l ?_)); simp (maxSteps := 2000000) only [↓askG_tt, ↓askG_ff, ↓askG_tf, ↓askG_ft, ↓AOp, ↓aBin, ↓aUn, ↓aConv, ↓aAlloc, ↓aBox, ↓aBuild, ↓aLoad, ↓aStore, ↓aNil, ↓aFieldAddr, ↓aField, ↓aExtract, ↓aIndexAddr, ↓aIndex, ↓aSlice, ↓aMake, ↓aBuildSlice, ↓aFrz, ↓aLen, ↓aAppend, ↓aCopy, Nat.reduceAdd, Nat.reduceSub, Nat.reduceMul, Nat.reduceLT, Nat.reduceLeDiff, Nat.reduceEqDiff, Int.reduceToNat, Int.reduceBEq, Int.reduceBNe, Int.reduceEq, Int.reduceNe, Int.reduceNeg, Int.reduceLE, Int.reduceLT, reduceIte, reduceCtorEq, go_sem, Nat.add_sub_cancel, Nat.add_one_sub_one, Nat.sub_zero, Nat.mul_one, shiftP, shiftT, shiftC, shiftL, shiftB, newIds, idsOfT, List.zipIdx_cons, List.zipIdx_nil, g0, g1])
    | (with_reducible refine hK _ ?_; clear hK K)
    | (with_reducible refine askG.mk (fun hg => ?_) (fun hg => ?_) <;> (try simp only [hcS] at hg) <;> (try first | contradiction | (exfalso; omega)))
    | ((with_reducible refine And.intro ?_ ?_); focus (first | (with_reducible show pairsOk _ _ = true; kernel_rfl) | omega | (with_reducible assumption) | kernel_rfl | (exact bytesE_len _) | (exact bytesE_allP _) | (exact rowsE_len _) | (exact rowsE_allP _) | ((simp [allP_nil, allP_cons, persL]; done)) | ((simp [byV]; done)) | (simp; done) | (simp; omega)))
    | ((with_reducible first | show inBlockS _ _ _ _ | show thenS _ _ _ _); simp only [inBlockS, thenS, reduceIte, Nat.reduceEqDiff]))
  refine AW.nilCell 1 0 0 _ _ _ 5 1 rfl rfl rfl rfl ?_
  refine AW.rangeFuncO CI fnOk72 [] (fun k => (7, bytesT (hashS key k)) :: (16, bytesT (hashS key k)) :: []) (fun k : Nat => [⟨3, 1, [[.sc (.int .i64 (n : Int))]]⟩, ⟨23, 1, [[.own 2 1 (32 * k)]]⟩, ⟨5, 1, bytesE (strB key k)⟩]) (fun k x => x = k ∧ (k = 0 ∨ 32 * k < n)) (fun e k x => e = .exit 0 ∧ x = k ∧ n ≤ 32 * k) 0 [0, 1, 2] ⟨rfl, .inl rfl⟩ ⟨by simp, by simp [leEs_one, leP, lePs, inP, inPs, inEs, leTs, leT, leC, leCs, leL, leLs, leBs, overT, anys, inTs, inT, inCs, inC, inLs, inL, inBs, hOf, undefT], by simp [leEs_one, leP, lePs, inP, inPs, inEs, leTs, leT, leC, leCs, leL, leLs, leBs, overT, anys, inTs, inT, inCs, inC, inLs, inL, inBs, hOf, undefT, leEs_bytes, strB]⟩ (fun k x _ => ⟨by simp [leEs_one, leP, lePs, inP, inPs, inEs, leTs, leT, leC, leCs, leL, leLs, leBs, overT, anys, inTs, inT, inCs, inC, inLs, inL, inBs, hOf, undefT], by simp [leEs_one, leP, lePs, inP, inPs, inEs, leTs, leT, leC, leCs, leL, leLs, leBs, overT, anys, inTs, inT, inCs, inC, inLs, inL, inBs, hOf, undefT]⟩) (fun _ k x _ => ⟨by simp [leEs_one, leP, lePs, inP, inPs, inEs, leTs, leT, leC, leCs, leL, leLs, leBs, overT, anys, inTs, inT, inCs, inC, inLs, inL, inBs, hOf, undefT], by simp [leEs_one, leP, lePs, inP, inPs, inEs, leTs, leT, leC, leCs, leL, leLs, leBs, overT, anys, inTs, inT, inCs, inC, inLs, inL, inBs, hOf, undefT]⟩) rfl rfl (fun _ => rfl) (fun _ x hx => by omega) ?_ ?_ (fun h => by cases h) ?_
  · intro Γ' k x _ hinv hk
    simp only [overT, anys, setTs, List.map_cons, List.map_nil, ↓askG_tt, ↓askG_ff, ↓askG_tf, ↓askG_ft, ↓AOp, ↓aBin, ↓aUn, ↓aConv, ↓aAlloc, ↓aBox, ↓aBuild, ↓aLoad, ↓aStore, ↓aNil, ↓aFieldAddr, ↓aField, ↓aExtract, ↓aIndexAddr, ↓aIndex, ↓aSlice, ↓aMake, ↓aBuildSlice, ↓aFrz, ↓aLen, ↓aAppend, ↓aCopy, Nat.reduceAdd, Nat.reduceSub, Nat.reduceMul, Nat.reduceLT, Nat.reduceLeDiff, Nat.reduceEqDiff, Int.reduceToNat, Int.reduceBEq, Int.reduceBNe, Int.reduceEq, Int.reduceNe, Int.reduceNeg, Int.reduceLE, Int.reduceLT, reduceIte, reduceCtorEq, go_sem, Nat.add_sub_cancel, Nat.add_one_sub_one, Nat.sub_zero, Nat.mul_one]
    repeat' (first
    | (with_reducible first | refine AW.seq ?_ | refine AW.block ?_ | refine AW.ret ?_ | refine AW.skip ?_ | refine AW.exit ?_)
    | ((refine AW.cond (by rfl) (fun hc => ?_) (fun hc => ?_)) <;> (try simp only [hcS] at hc) <;> (try first | contradiction | (exfalso; omega)))
    | ((refine AW.condB (by rfl) (fun hc => ?_) (fun hc => ?_)))
    | ((first | (with_reducible refine AW.regionK mo (by kernel_rfl) ?_; intro K hK) | (with_reducible refine aSliceO.l ?_) | (with_reducible refine aBuildO.l ?_) | (with_reducible refine aStoreO.l ?_)); simp (maxSteps := 2000000) only [↓askG_tt, ↓askG_ff, ↓askG_tf, ↓askG_ft, ↓AOp, ↓aBin, ↓aUn, ↓aConv, ↓aAlloc, ↓aBox, ↓aBuild, ↓aLoad, ↓aStore, ↓aNil, ↓aFieldAddr, ↓aField, ↓aExtract, ↓aIndexAddr, ↓aIndex, ↓aSlice, ↓aMake, ↓aBuildSlice, ↓aFrz, ↓aLen, ↓aAppend, ↓aCopy, Nat.reduceAdd, Nat.reduceSub, Nat.reduceMul, Nat.reduceLT, Nat.reduceLeDiff, Nat.reduceEqDiff, Int.reduceToNat, Int.reduceBEq, Int.reduceBNe, Int.reduceEq, Int.reduceNe, Int.reduceNeg, Int.reduceLE, Int.reduceLT, reduceIte, reduceCtorEq, go_sem, Nat.add_sub_cancel, Nat.add_one_sub_one, Nat.sub_zero, Nat.mul_one, shiftP, shiftT, shiftC, shiftL, shiftB, newIds, idsOfT, List.zipIdx_cons, List.zipIdx_nil])
    | (with_reducible refine hK _ ?_; clear hK K)
    | (with_reducible refine askG.mk (fun hg => ?_) (fun hg => ?_) <;> (try simp only [hcS] at hg) <;> (try first | contradiction | (exfalso; omega)))
    | ((with_reducible refine And.intro ?_ ?_); focus (first | (with_reducible show pairsOk _ _ = true; kernel_rfl) | omega | (with_reducible assumption) | kernel_rfl | (exact bytesE_len _) | (exact bytesE_allP _) | (exact rowsE_len _) | (exact rowsE_allP _) | ((simp [allP_nil, allP_cons, persL]; done)) | ((simp [byV]; done)) | (simp; done) | (simp; omega)))
    | ((with_reducible first | show inBlockS _ _ _ _ | show thenS _ _ _ _); simp only [inBlockS, thenS, reduceIte, Nat.reduceEqDiff]))
    first | exact ⟨rfl, rfl⟩ | rfl
  · intro Γ' k x _ hinv hk
    obtain ⟨hxk, hb⟩ := hinv
    subst hxk
    simp only [overT, anys, List.map_cons, List.map_nil, ↓askG_tt, ↓askG_ff, ↓askG_tf, ↓askG_ft, ↓AOp, ↓aBin, ↓aUn, ↓aConv, ↓aAlloc, ↓aBox, ↓aBuild, ↓aLoad, ↓aStore, ↓aNil, ↓aFieldAddr, ↓aField, ↓aExtract, ↓aIndexAddr, ↓aIndex, ↓aSlice, ↓aMake, ↓aBuildSlice, ↓aFrz, ↓aLen, ↓aAppend, ↓aCopy, Nat.reduceAdd, Nat.reduceSub, Nat.reduceMul, Nat.reduceLT, Nat.reduceLeDiff, Nat.reduceEqDiff, Int.reduceToNat, Int.reduceBEq, Int.reduceBNe, Int.reduceEq, Int.reduceNe, Int.reduceNeg, Int.reduceLE, Int.reduceLT, reduceIte, reduceCtorEq, go_sem, Nat.add_sub_cancel, Nat.add_one_sub_one, Nat.sub_zero, Nat.mul_one]
    have hs := hashS_len key x
    have hz := strB_len key x
    have hz1 := strB_len key (x + 1)
    have hzn : strB key x ++ hashS key x = strB key (x + 1) := rfl
    by_cases hlast : n ≤ 32 * x + 32
    · have g2 : decide ((n : Int) ≤ ((32 * (x + 1) : Nat) : Int)) = true := by simp; omega
      repeat' (first
    | (with_reducible first | refine AW.seq ?_ | refine AW.block ?_ | refine AW.ret ?_ | refine AW.skip ?_ | refine AW.exit ?_)
    | ((refine AW.cond (by rfl) (fun hc => ?_) (fun hc => ?_)) <;> (try simp only [hcS] at hc) <;> (try first | contradiction | (exfalso; omega)))
    | ((refine AW.condB (by rfl) (fun hc => ?_) (fun hc => ?_)))
    | ((first | (with_reducible refine AW.regionK mo (by kernel_rfl) ?_; intro K hK) | (with_reducible refine aSliceO.l ?_) | (with_reducible refine aBuildO.l ?_) | (with_reducible refine aStoreO.l ?_)); simp (maxSteps := 2000000) only [↓askG_tt, ↓askG_ff, ↓askG_tf, ↓askG_ft, ↓AOp, ↓aBin, ↓aUn, ↓aConv, ↓aAlloc, ↓aBox, ↓aBuild, ↓aLoad, ↓aStore, ↓aNil, ↓aFieldAddr, ↓aField, ↓aExtract, ↓aIndexAddr, ↓aIndex, ↓aSlice, ↓aMake, ↓aBuildSlice, ↓aFrz, ↓aLen, ↓aAppend, ↓aCopy, Nat.reduceAdd, Nat.reduceSub, Nat.reduceMul, Nat.reduceLT, Nat.reduceLeDiff, Nat.reduceEqDiff, Int.reduceToNat, Int.reduceBEq, Int.reduceBNe, Int.reduceEq, Int.reduceNe, Int.reduceNeg, Int.reduceLE, Int.reduceLT, reduceIte, reduceCtorEq, go_sem, Nat.add_sub_cancel, Nat.add_one_sub_one, Nat.sub_zero, Nat.mul_one, shiftP, shiftT, shiftC, shiftL, shiftB, newIds, idsOfT, List.zipIdx_cons, List.zipIdx_nil, hs, hz, hz1, hzn, g2])
    | (with_reducible refine hK _ ?_; clear hK K)
    | (with_reducible refine askG.mk (fun hg => ?_) (fun hg => ?_) <;> (try simp only [hcS] at hg) <;> (try first | contradiction | (exfalso; omega)))
    | ((with_reducible refine And.intro ?_ ?_); focus (first | (with_reducible show pairsOk _ _ = true; kernel_rfl) | omega | (with_reducible assumption) | kernel_rfl | (exact bytesE_len _) | (exact bytesE_allP _) | (exact rowsE_len _) | (exact rowsE_allP _) | ((simp [allP_nil, allP_cons, persL]; done)) | ((simp [byV]; done)) | (simp; done) | (simp; omega)))
    | ((with_reducible first | show inBlockS _ _ _ _ | show thenS _ _ _ _); simp only [inBlockS, thenS, reduceIte, Nat.reduceEqDiff]))
      exact ⟨[0, 1, 3], x + 1, .inr (by simp [leaves]; omega), ⟨by simp, by simp [leEs_one, leP, lePs, inP, inPs, inEs, leTs, leT, leC, leCs, leL, leLs, leBs, overT, anys, inTs, inT, inCs, inC, inLs, inL, inBs, hOf, undefT], by (simp [leEs_one, leP, lePs, inP, inPs, inEs, leTs, leT, leC, leCs, leL, leLs, leBs, overT, anys, inTs, inT, inCs, inC, inLs, inL, inBs, hOf, undefT, leEs_bytes]; try omega)⟩⟩
    · have g2 : decide ((n : Int) ≤ ((32 * (x + 1) : Nat) : Int)) = false := by simp; omega
      repeat' (first
    | (with_reducible first | refine AW.seq ?_ | refine AW.block ?_ | refine AW.ret ?_ | refine AW.skip ?_ | refine AW.exit ?_)
    | ((refine AW.cond (by rfl) (fun hc => ?_) (fun hc => ?_)) <;> (try simp only [hcS] at hc) <;> (try first | contradiction | (exfalso; omega)))
    | ((refine AW.condB (by rfl) (fun hc => ?_) (fun hc => ?_)))
    | ((first | (with_reducible refine AW.regionK mo (by kernel_rfl) ?_; intro K hK) | (with_reducible refine aSliceO.l ?_) | (with_reducible refine aBuildO.l ?_) | (with_reducible refine aStoreO.l ?_)); simp (maxSteps := 2000000) only [↓askG_tt, ↓askG_ff, ↓askG_tf, ↓askG_ft, ↓AOp, ↓aBin, ↓aUn, ↓aConv, ↓aAlloc, ↓aBox, ↓aBuild, ↓aLoad, ↓aStore, ↓aNil, ↓aFieldAddr, ↓aField, ↓aExtract, ↓aIndexAddr, ↓aIndex, ↓aSlice, ↓aMake, ↓aBuildSlice, ↓aFrz, ↓aLen, ↓aAppend, ↓aCopy, Nat.reduceAdd, Nat.reduceSub, Nat.reduceMul, Nat.reduceLT, Nat.reduceLeDiff, Nat.reduceEqDiff, Int.reduceToNat, Int.reduceBEq, Int.reduceBNe, Int.reduceEq, Int.reduceNe, Int.reduceNeg, Int.reduceLE, Int.reduceLT, reduceIte, reduceCtorEq, go_sem, Nat.add_sub_cancel, Nat.add_one_sub_one, Nat.sub_zero, Nat.mul_one, shiftP, shiftT, shiftC, shiftL, shiftB, newIds, idsOfT, List.zipIdx_cons, List.zipIdx_nil, hs, hz, hz1, hzn, g2])
    | (with_reducible refine hK _ ?_; clear hK K)
    | (with_reducible refine askG.mk (fun hg => ?_) (fun hg => ?_) <;> (try simp only [hcS] at hg) <;> (try first | contradiction | (exfalso; omega)))
    | ((with_reducible refine And.intro ?_ ?_); focus (first | (with_reducible show pairsOk _ _ = true; kernel_rfl) | omega | (with_reducible assumption) | kernel_rfl | (exact bytesE_len _) | (exact bytesE_allP _) | (exact rowsE_len _) | (exact rowsE_allP _) | ((simp [allP_nil, allP_cons, persL]; done)) | ((simp [byV]; done)) | (simp; done) | (simp; omega)))
    | ((with_reducible first | show inBlockS _ _ _ _ | show thenS _ _ _ _); simp only [inBlockS, thenS, reduceIte, Nat.reduceEqDiff]))
      exact ⟨[0, 1, 3], x + 1, .inl (by simp; omega), ⟨by simp, by simp [leEs_one, leP, lePs, inP, inPs, inEs, leTs, leT, leC, leCs, leL, leLs, leBs, overT, anys, inTs, inT, inCs, inC, inLs, inL, inBs, hOf, undefT], by (simp [leEs_one, leP, lePs, inP, inPs, inEs, leTs, leT, leC, leCs, leL, leLs, leBs, overT, anys, inTs, inT, inCs, inC, inLs, inL, inBs, hOf, undefT, leEs_bytes]; try omega)⟩⟩
  · intro e k x hl hinv
    obtain ⟨rfl, hxk, hb⟩ := hinv
    subst hxk
    have ht := strB_take key hb
    have hz := strB_len key x
    simp only [inBlockS, thenS, overT, anys, List.map_cons, List.map_nil, ↓askG_tt, ↓askG_ff, ↓askG_tf, ↓askG_ft, ↓AOp, ↓aBin, ↓aUn, ↓aConv, ↓aAlloc, ↓aBox, ↓aBuild, ↓aLoad, ↓aStore, ↓aNil, ↓aFieldAddr, ↓aField, ↓aExtract, ↓aIndexAddr, ↓aIndex, ↓aSlice, ↓aMake, ↓aBuildSlice, ↓aFrz, ↓aLen, ↓aAppend, ↓aCopy, Nat.reduceAdd, Nat.reduceSub, Nat.reduceMul, Nat.reduceLT, Nat.reduceLeDiff, Nat.reduceEqDiff, Int.reduceToNat, Int.reduceBEq, Int.reduceBNe, Int.reduceEq, Int.reduceNe, Int.reduceNeg, Int.reduceLE, Int.reduceLT, reduceIte, reduceCtorEq, go_sem, Nat.add_sub_cancel, Nat.add_one_sub_one, Nat.sub_zero, Nat.mul_one]
    repeat' (first
    | (with_reducible first | refine AW.seq ?_ | refine AW.block ?_ | refine AW.ret ?_ | refine AW.skip ?_ | refine AW.exit ?_)
    | ((refine AW.cond (by rfl) (fun hc => ?_) (fun hc => ?_)) <;> (try simp only [hcS] at hc) <;> (try first | contradiction | (exfalso; omega)))
    | ((refine AW.condB (by rfl) (fun hc => ?_) (fun hc => ?_)))
    | ((first | (with_reducible refine AW.regionK mo (by kernel_rfl) ?_; intro K hK) | (with_reducible refine aSliceO.l ?_) | (with_reducible refine aBuildO.l ?_) | (with_reducible refine aStoreO.l ?_)); simp (maxSteps := 2000000) only [↓askG_tt, ↓askG_ff, ↓askG_tf, ↓askG_ft, ↓AOp, ↓aBin, ↓aUn, ↓aConv, ↓aAlloc, ↓aBox, ↓aBuild, ↓aLoad, ↓aStore, ↓aNil, ↓aFieldAddr, ↓aField, ↓aExtract, ↓aIndexAddr, ↓aIndex, ↓aSlice, ↓aMake, ↓aBuildSlice, ↓aFrz, ↓aLen, ↓aAppend, ↓aCopy, Nat.reduceAdd, Nat.reduceSub, Nat.reduceMul, Nat.reduceLT, Nat.reduceLeDiff, Nat.reduceEqDiff, Int.reduceToNat, Int.reduceBEq, Int.reduceBNe, Int.reduceEq, Int.reduceNe, Int.reduceNeg, Int.reduceLE, Int.reduceLT, reduceIte, reduceCtorEq, go_sem, Nat.add_sub_cancel, Nat.add_one_sub_one, Nat.sub_zero, Nat.mul_one, shiftP, shiftT, shiftC, shiftL, shiftB, newIds, idsOfT, List.zipIdx_cons, List.zipIdx_nil, hz])
    | (with_reducible refine hK _ ?_; clear hK K)
    | (with_reducible refine askG.mk (fun hg => ?_) (fun hg => ?_) <;> (try simp only [hcS] at hg) <;> (try first | contradiction | (exfalso; omega)))
    | ((with_reducible refine And.intro ?_ ?_); focus (first | (with_reducible show pairsOk _ _ = true; kernel_rfl) | omega | (with_reducible assumption) | kernel_rfl | (exact bytesE_len _) | (exact bytesE_allP _) | (exact rowsE_len _) | (exact rowsE_allP _) | ((simp [allP_nil, allP_cons, persL]; done)) | ((simp [byV]; done)) | (simp; done) | (simp; omega)))
    | ((with_reducible first | show inBlockS _ _ _ _ | show thenS _ _ _ _); simp only [inBlockS, thenS, reduceIte, Nat.reduceEqDiff]))
    rw [← ht]
    all_goals (refine ⟨_, [], rfl, ⟨rfl, ?_, ?_, ?_⟩⟩ <;> simp [go_sem, Nat.add_sub_cancel, Nat.add_one_sub_one, Nat.sub_zero, Nat.mul_one, finP, finPs, viewP, viewPs, finT, finC, finCs, finL, finLs, finBs, viewOk, viewsOk, persL, inT, inC, inCs, inL, inLs, ndB, allP_nil, allP_cons, allP_append])
end Go.Proofs.YtbcclcbmbejnmaaDoor

/- mac: the document's stream. -/
namespace Go.Proofs.YtbcclcbmbejnmaaDoor
set_option linter.unusedSimpArgs false
set_option linter.unusedVariables false
open Go Go.RowKit
attribute [local congr] AW_congr AOs_congr aCall_congr aCall1_congr aSem_congr aSliceO_congr aBuildO_congr aStoreO_congr
attribute [local go_sem] uC_own uC_ids uC_shift uC_frz uC_length tabK_uC ub_v bytes_set bytesE_one1 bytesE_consr bytesE_append bytesE_drop bytesE_take rowsE_length rowsE_get Option.map_map bytesE_length bytesE_get shiftE_bytes shiftE_rows exBytesE str_beq bytesE_take_self List.take_length
set_option maxRecDepth 100000

attribute [local simp] leEs_bytes
theorem refStreamBad_pc (key : List UInt8) (n : Int) (hn : n < 0 ∨ 1048576 < n) : PC Tryd.prog 54 [bytesT key, .leaf (.sc (.int .i64 n))] [] (.tup [.leaf (.sl []), intT 1]) := by
  by_cases h : n < 0
  · have g0 : decide (n < 0) = true := by simp; omega
    refine PC.of_body Tryd.func54 rfl ?_
    intro Γ _ _
    simp only [Tryd.ntmps54, List.length_cons, List.length_nil, Nat.reduceAdd, Nat.reduceSub, List.replicate_succ, List.replicate_zero, List.cons_append, List.nil_append]
    repeat' (first
    | (with_reducible first | refine AW.seq ?_ | refine AW.block ?_ | refine AW.ret ?_ | refine AW.skip ?_ | refine AW.exit ?_)
    | ((refine AW.cond (by rfl) (fun hc => ?_) (fun hc => ?_)) <;> (try simp only [hcS] at hc) <;> (try first | contradiction | (exfalso; omega)))
    | ((refine AW.condB (by rfl) (fun hc => ?_) (fun hc => ?_)))
    | ((first | (with_reducible refine AW.regionK mo (by kernel_rfl) ?_; intro K hK) | (with_reducible refine aSliceO.l ?_) | (with_reducible refine aBuildO.l ?_) | (with_reducible refine aStoreO.l ?_)); simp (maxSteps := 2000000) only [↓askG_tt, ↓askG_ff, ↓askG_tf, ↓askG_ft, ↓AOp, ↓aBin, ↓aUn, ↓aConv, ↓aAlloc, ↓aBox, ↓aBuild, ↓aLoad, ↓aStore, ↓aNil, ↓aFieldAddr, ↓aField, ↓aExtract, ↓aIndexAddr, ↓aIndex, ↓aSlice, ↓aMake, ↓aBuildSlice, ↓aFrz, ↓aLen, ↓aAppend, ↓aCopy, Nat.reduceAdd, Nat.reduceSub, Nat.reduceMul, Nat.reduceLT, Nat.reduceLeDiff, Nat.reduceEqDiff, Int.reduceToNat, Int.reduceBEq, Int.reduceBNe, Int.reduceEq, Int.reduceNe, Int.reduceNeg, Int.reduceLE, Int.reduceLT, reduceIte, reduceCtorEq, go_sem, Nat.add_sub_cancel, Nat.add_one_sub_one, Nat.sub_zero, Nat.mul_one, shiftP, shiftT, shiftC, shiftL, shiftB, newIds, idsOfT, List.zipIdx_cons, List.zipIdx_nil, g0])
    | (with_reducible refine hK _ ?_; clear hK K)
    | (with_reducible refine askG.mk (fun hg => ?_) (fun hg => ?_) <;> (try simp only [hcS] at hg) <;> (try first | contradiction | (exfalso; omega)))
    | ((with_reducible refine And.intro ?_ ?_); focus (first | (with_reducible show pairsOk _ _ = true; kernel_rfl) | omega | (with_reducible assumption) | kernel_rfl | (exact bytesE_len _) | (exact bytesE_allP _) | (exact rowsE_len _) | (exact rowsE_allP _) | ((simp [allP_nil, allP_cons, persL]; done)) | ((simp [byV]; done)) | (simp; done) | (simp; omega)))
    | ((with_reducible first | show inBlockS _ _ _ _ | show thenS _ _ _ _); simp only [inBlockS, thenS, reduceIte, Nat.reduceEqDiff]))
    all_goals (refine ⟨_, [], rfl, ⟨rfl, ?_, ?_, ?_⟩⟩ <;> simp [go_sem, Nat.add_sub_cancel, Nat.add_one_sub_one, Nat.sub_zero, Nat.mul_one, finP, finPs, viewP, viewPs, finT, finC, finCs, finL, finLs, finBs, viewOk, viewsOk, persL, inT, inC, inCs, inL, inLs, ndB, allP_nil, allP_cons, allP_append])
  · have g0 : decide (n < 0) = false := by simp; omega
    have g1 : decide (1048576 < n) = true := by simp; omega
    refine PC.of_body Tryd.func54 rfl ?_
    intro Γ _ _
    simp only [Tryd.ntmps54, List.length_cons, List.length_nil, Nat.reduceAdd, Nat.reduceSub, List.replicate_succ, List.replicate_zero, List.cons_append, List.nil_append]
    repeat' (first
    | (with_reducible first | refine AW.seq ?_ | refine AW.block ?_ | refine AW.ret ?_ | refine AW.skip ?_ | refine AW.exit ?_)
    | ((refine AW.cond (by rfl) (fun hc => ?_) (fun hc => ?_)) <;> (try simp only [hcS] at hc) <;> (try first | contradiction | (exfalso; omega)))
    | ((refine AW.condB (by rfl) (fun hc => ?_) (fun hc => ?_)))
    | ((first | (with_reducible refine AW.regionK mo (by kernel_rfl) ?_; intro K hK) | (with_reducible refine aSliceO.l ?_) | (with_reducible refine aBuildO.l ?_) | (with_reducible refine aStoreO.l ?_)); simp (maxSteps := 2000000) only [↓askG_tt, ↓askG_ff, ↓askG_tf, ↓askG_ft, ↓AOp, ↓aBin, ↓aUn, ↓aConv, ↓aAlloc, ↓aBox, ↓aBuild, ↓aLoad, ↓aStore, ↓aNil, ↓aFieldAddr, ↓aField, ↓aExtract, ↓aIndexAddr, ↓aIndex, ↓aSlice, ↓aMake, ↓aBuildSlice, ↓aFrz, ↓aLen, ↓aAppend, ↓aCopy, Nat.reduceAdd, Nat.reduceSub, Nat.reduceMul, Nat.reduceLT, Nat.reduceLeDiff, Nat.reduceEqDiff, Int.reduceToNat, Int.reduceBEq, Int.reduceBNe, Int.reduceEq, Int.reduceNe, Int.reduceNeg, Int.reduceLE, Int.reduceLT, reduceIte, reduceCtorEq, go_sem, Nat.add_sub_cancel, Nat.add_one_sub_one, Nat.sub_zero, Nat.mul_one, shiftP, shiftT, shiftC, shiftL, shiftB, newIds, idsOfT, List.zipIdx_cons, List.zipIdx_nil, g0, g1])
    | (with_reducible refine hK _ ?_; clear hK K)
    | (with_reducible refine askG.mk (fun hg => ?_) (fun hg => ?_) <;> (try simp only [hcS] at hg) <;> (try first | contradiction | (exfalso; omega)))
    | ((with_reducible refine And.intro ?_ ?_); focus (first | (with_reducible show pairsOk _ _ = true; kernel_rfl) | omega | (with_reducible assumption) | kernel_rfl | (exact bytesE_len _) | (exact bytesE_allP _) | (exact rowsE_len _) | (exact rowsE_allP _) | ((simp [allP_nil, allP_cons, persL]; done)) | ((simp [byV]; done)) | (simp; done) | (simp; omega)))
    | ((with_reducible first | show inBlockS _ _ _ _ | show thenS _ _ _ _); simp only [inBlockS, thenS, reduceIte, Nat.reduceEqDiff]))
    all_goals (refine ⟨_, [], rfl, ⟨rfl, ?_, ?_, ?_⟩⟩ <;> simp [go_sem, Nat.add_sub_cancel, Nat.add_one_sub_one, Nat.sub_zero, Nat.mul_one, finP, finPs, viewP, viewPs, finT, finC, finCs, finL, finLs, finBs, viewOk, viewsOk, persL, inT, inC, inCs, inL, inLs, ndB, allP_nil, allP_cons, allP_append])
def kcB (key : List UInt8) (k j : Nat) : List UInt8 := key ++ (cntB k).take j
theorem kcB_len (key : List UInt8) (k : Nat) {j : Nat} (h : j ≤ 8) : (kcB key k j).length = key.length + j := by simp [kcB, cntB_len]; omega
theorem kcB_zero (key : List UInt8) (k : Nat) : kcB key k 0 = key := by simp [kcB]
theorem kcB_last (key : List UInt8) (k : Nat) : kcB key k 8 = key ++ cntB k := by
  unfold kcB
  rw [List.take_of_length_le (by rw [cntB_len]; exact Nat.le_refl _)]
theorem kcB_next (key : List UInt8) (k : Nat) {j : Nat} (h : j < 8) : kcB key k j ++ [ub (shrI .u64 (k : Int) (56 - 8 * j))] = kcB key k (j + 1) := by
  unfold kcB
  rw [List.append_assoc, List.take_add_one, cntB_get _ _ h]; rfl
set_option maxHeartbeats 2000000 in
theorem refStream_pc (key : List UInt8) (n : Nat) (hk : key.length ≤ 900000) (hn : n ≤ 1048576) : PC Tryd.prog 54 [bytesT key, intT n] [] (.tup [.leaf (bytesL (streamS key n)), intT 0]) := by
  have g0 : decide ((n : Int) < 0) = false := by simp
  have g1 : decide (1048576 < (n : Int)) = false := by simp; omega
  refine PC.of_body Tryd.func54 rfl ?_
  intro Γ _ _
  simp only [Tryd.ntmps54, List.length_cons, List.length_nil, Nat.reduceAdd, Nat.reduceSub, List.replicate_succ, List.replicate_zero, List.cons_append, List.nil_append]
  repeat' (first
    | (with_reducible first | refine AW.seq ?_ | refine AW.block ?_ | refine AW.ret ?_ | refine AW.skip ?_ | refine AW.exit ?_)
    | ((refine AW.cond (by rfl) (fun hc => ?_) (fun hc => ?_)) <;> (try simp only [hcS] at hc) <;> (try first | contradiction | (exfalso; omega)))
    | ((refine AW.condB (by rfl) (fun hc => ?_) (fun hc => ?_)))
    | ((first | (with_reducible refine AW.regionK mo (by kernel_rfl) ?_; intro K hK) | (with_reducible refine aSliceO.l ?_) | (with_reducible refine aBuildO.l ?_) | (with_reducible refine aStoreO.l ?_)); simp (maxSteps := 2000000) only [↓askG_tt, ↓askG_ff, ↓askG_tf, ↓askG_ft, ↓AOp, ↓aBin, ↓aUn, ↓aConv, ↓aAlloc, ↓aBox, ↓aBuild, ↓aLoad, ↓aStore, ↓aNil, ↓aFieldAddr, ↓aField, ↓aExtract, ↓aIndexAddr, ↓aIndex, ↓aSlice, ↓aMake, ↓aBuildSlice, ↓aFrz, ↓aLen, ↓aAppend, ↓aCopy, Nat.reduceAdd, Nat.reduceSub, Nat.reduceMul, Nat.reduceLT, Nat.reduceLeDiff, Nat.reduceEqDiff, Int.reduceToNat, Int.reduceBEq, Int.reduceBNe, Int.reduceEq, Int.reduceNe, Int.reduceNeg, Int.reduceLE, Int.reduceLT, reduceIte, reduceCtorEq, go_sem, Nat.add_sub_cancel, Nat.add_one_sub_one, Nat.sub_zero, Nat.mul_one, shiftP, shiftT, shiftC, shiftL, shiftB, newIds, idsOfT, List.zipIdx_cons, List.zipIdx_nil, g0, g1])
    | (with_reducible refine hK _ ?_; clear hK K)
    | (with_reducible refine askG.mk (fun hg => ?_) (fun hg => ?_) <;> (try simp only [hcS] at hg) <;> (try first | contradiction | (exfalso; omega)))
    | ((with_reducible refine And.intro ?_ ?_); focus (first | (with_reducible show pairsOk _ _ = true; kernel_rfl) | omega | (with_reducible assumption) | kernel_rfl | (exact bytesE_len _) | (exact bytesE_allP _) | (exact rowsE_len _) | (exact rowsE_allP _) | ((simp [allP_nil, allP_cons, persL]; done)) | ((simp [byV]; done)) | (simp; done) | (simp; omega)))
    | ((with_reducible first | show inBlockS _ _ _ _ | show thenS _ _ _ _); simp only [inBlockS, thenS, reduceIte, Nat.reduceEqDiff]))
  refine AW.nilOwn 6 _ 5 1 rfl rfl ?_
  refine AW.loopG (fun k : Nat => (6, .leaf (.own 0 1 (32 * k))) :: (7, numT k) :: (anys 8 2 (anys 16 26 []))) (fun k => [some ⟨5, 1, bytesE (strB key k)⟩]) (fun k => n - 32 * k) (fun k => k ≤ n / 32 + 1) 0 [0] (by omega) ⟨by simp, by simp [leEs_one, leP, lePs, inP, inPs, inEs, leTs, leT, leC, leCs, leL, leLs, leBs, overT, anys, inTs, inT, inCs, inC, inLs, inL, inBs, hOf, undefT], by simp [leEs_one, leP, lePs, inP, inPs, inEs, leTs, leT, leC, leCs, leL, leLs, leBs, overT, anys, inTs, inT, inCs, inC, inLs, inL, inBs, hOf, undefT, leEs_bytes, strB]⟩ (fun i _ => ⟨by simp [leEs_one, leP, lePs, inP, inPs, inEs, leTs, leT, leC, leCs, leL, leLs, leBs, overT, anys, inTs, inT, inCs, inC, inLs, inL, inBs, hOf, undefT], by simp [leEs_one, leP, lePs, inP, inPs, inEs, leTs, leT, leC, leCs, leL, leLs, leBs, overT, anys, inTs, inT, inCs, inC, inLs, inL, inBs, hOf, undefT]⟩) ?_
  intro k hk1
  simp only [overT, anys, ↓askG_tt, ↓askG_ff, ↓askG_tf, ↓askG_ft, ↓AOp, ↓aBin, ↓aUn, ↓aConv, ↓aAlloc, ↓aBox, ↓aBuild, ↓aLoad, ↓aStore, ↓aNil, ↓aFieldAddr, ↓aField, ↓aExtract, ↓aIndexAddr, ↓aIndex, ↓aSlice, ↓aMake, ↓aBuildSlice, ↓aFrz, ↓aLen, ↓aAppend, ↓aCopy, Nat.reduceAdd, Nat.reduceSub, Nat.reduceMul, Nat.reduceLT, Nat.reduceLeDiff, Nat.reduceEqDiff, Int.reduceToNat, Int.reduceBEq, Int.reduceBNe, Int.reduceEq, Int.reduceNe, Int.reduceNeg, Int.reduceLE, Int.reduceLT, reduceIte, reduceCtorEq, go_sem, Nat.add_sub_cancel, Nat.add_one_sub_one, Nat.sub_zero, Nat.mul_one]
  have hz := strB_len key k
  by_cases hlt : 32 * k < n
  · have g2 : decide (((32 * k : Nat) : Int) < (n : Int)) = true := by simp; omega
    repeat' (first
    | (with_reducible first | refine AW.seq ?_ | refine AW.block ?_ | refine AW.ret ?_ | refine AW.skip ?_ | refine AW.exit ?_)
    | ((refine AW.cond (by rfl) (fun hc => ?_) (fun hc => ?_)) <;> (try simp only [hcS] at hc) <;> (try first | contradiction | (exfalso; omega)))
    | ((refine AW.condB (by rfl) (fun hc => ?_) (fun hc => ?_)))
    | ((first | (with_reducible refine AW.regionK mo (by kernel_rfl) ?_; intro K hK) | (with_reducible refine aSliceO.l ?_) | (with_reducible refine aBuildO.l ?_) | (with_reducible refine aStoreO.l ?_)); simp (maxSteps := 2000000) only [↓askG_tt, ↓askG_ff, ↓askG_tf, ↓askG_ft, ↓AOp, ↓aBin, ↓aUn, ↓aConv, ↓aAlloc, ↓aBox, ↓aBuild, ↓aLoad, ↓aStore, ↓aNil, ↓aFieldAddr, ↓aField, ↓aExtract, ↓aIndexAddr, ↓aIndex, ↓aSlice, ↓aMake, ↓aBuildSlice, ↓aFrz, ↓aLen, ↓aAppend, ↓aCopy, Nat.reduceAdd, Nat.reduceSub, Nat.reduceMul, Nat.reduceLT, Nat.reduceLeDiff, Nat.reduceEqDiff, Int.reduceToNat, Int.reduceBEq, Int.reduceBNe, Int.reduceEq, Int.reduceNe, Int.reduceNeg, Int.reduceLE, Int.reduceLT, reduceIte, reduceCtorEq, go_sem, Nat.add_sub_cancel, Nat.add_one_sub_one, Nat.sub_zero, Nat.mul_one, shiftP, shiftT, shiftC, shiftL, shiftB, newIds, idsOfT, List.zipIdx_cons, List.zipIdx_nil, g2, hz])
    | (with_reducible refine hK _ ?_; clear hK K)
    | (with_reducible refine askG.mk (fun hg => ?_) (fun hg => ?_) <;> (try simp only [hcS] at hg) <;> (try first | contradiction | (exfalso; omega)))
    | ((with_reducible refine And.intro ?_ ?_); focus (first | (with_reducible show pairsOk _ _ = true; kernel_rfl) | omega | (with_reducible assumption) | kernel_rfl | (exact bytesE_len _) | (exact bytesE_allP _) | (exact rowsE_len _) | (exact rowsE_allP _) | ((simp [allP_nil, allP_cons, persL]; done)) | ((simp [byV]; done)) | (simp; done) | (simp; omega)))
    | ((with_reducible first | show inBlockS _ _ _ _ | show thenS _ _ _ _); simp only [inBlockS, thenS, reduceIte, Nat.reduceEqDiff]))
    refine AW.loopG (fun j : Nat => (8, .leaf (.own 1 1 (key.length + j))) :: (24, intT j) :: anys 23 1 (anys 9 1 (anys 25 13 []))) (fun j => [some ⟨5, 1, bytesE (strB key k)⟩, some ⟨5, 1, bytesE (kcB key k j)⟩]) (fun j => 8 - j) (fun j => j ≤ 8) 0 [0, 1] (by omega) ⟨by simp, by simp [leEs_one, leP, lePs, inP, inPs, inEs, leTs, leT, leC, leCs, leL, leLs, leBs, overT, anys, inTs, inT, inCs, inC, inLs, inL, inBs, hOf, undefT], by simp [leEs_one, leP, lePs, inP, inPs, inEs, leTs, leT, leC, leCs, leL, leLs, leBs, overT, anys, inTs, inT, inCs, inC, inLs, inL, inBs, hOf, undefT, leEs_bytes, kcB_zero]⟩ (fun i _ => ⟨by simp [leEs_one, leP, lePs, inP, inPs, inEs, leTs, leT, leC, leCs, leL, leLs, leBs, overT, anys, inTs, inT, inCs, inC, inLs, inL, inBs, hOf, undefT], by simp [leEs_one, leP, lePs, inP, inPs, inEs, leTs, leT, leC, leCs, leL, leLs, leBs, overT, anys, inTs, inT, inCs, inC, inLs, inL, inBs, hOf, undefT]⟩) ?_
    intro j hj
    simp only [overT, anys, ↓askG_tt, ↓askG_ff, ↓askG_tf, ↓askG_ft, ↓AOp, ↓aBin, ↓aUn, ↓aConv, ↓aAlloc, ↓aBox, ↓aBuild, ↓aLoad, ↓aStore, ↓aNil, ↓aFieldAddr, ↓aField, ↓aExtract, ↓aIndexAddr, ↓aIndex, ↓aSlice, ↓aMake, ↓aBuildSlice, ↓aFrz, ↓aLen, ↓aAppend, ↓aCopy, Nat.reduceAdd, Nat.reduceSub, Nat.reduceMul, Nat.reduceLT, Nat.reduceLeDiff, Nat.reduceEqDiff, Int.reduceToNat, Int.reduceBEq, Int.reduceBNe, Int.reduceEq, Int.reduceNe, Int.reduceNeg, Int.reduceLE, Int.reduceLT, reduceIte, reduceCtorEq, go_sem, Nat.add_sub_cancel, Nat.add_one_sub_one, Nat.sub_zero, Nat.mul_one]
    have hq := kcB_len key k hj
    have hq1 : j < 8 → (kcB key k (j + 1)).length = key.length + (j + 1) := fun h => kcB_len key k (by omega)
    by_cases hlt2 : j < 8
    · have g3 : decide ((j : Int) < 8) = true := by simp; omega
      have f2 : IntKind.u64.wrap (j : Int) = (j : Int) := wrap_u64 _ (by omega)
      have f3 : IntKind.u64.wrap (8 * (j : Int)) = ((8 * j : Nat) : Int) := by rw [wrap_u64 _ (by omega)]; omega
      have f4 : IntKind.u64.wrap (56 - ((8 * j : Nat) : Int)) = ((56 - 8 * j : Nat) : Int) := by rw [wrap_u64 _ (by omega)]; omega
      have hn := kcB_next key k hlt2
      have hq1 := hq1 hlt2
      repeat' (first
    | (with_reducible first | refine AW.seq ?_ | refine AW.block ?_ | refine AW.ret ?_ | refine AW.skip ?_ | refine AW.exit ?_)
    | ((refine AW.cond (by rfl) (fun hc => ?_) (fun hc => ?_)) <;> (try simp only [hcS] at hc) <;> (try first | contradiction | (exfalso; omega)))
    | ((refine AW.condB (by rfl) (fun hc => ?_) (fun hc => ?_)))
    | ((first | (with_reducible refine AW.regionK mo (by kernel_rfl) ?_; intro K hK) | (with_reducible refine aSliceO.l ?_) | (with_reducible refine aBuildO.l ?_) | (with_reducible refine aStoreO.l ?_)); simp (maxSteps := 2000000) only [↓askG_tt, ↓askG_ff, ↓askG_tf, ↓askG_ft, ↓AOp, ↓aBin, ↓aUn, ↓aConv, ↓aAlloc, ↓aBox, ↓aBuild, ↓aLoad, ↓aStore, ↓aNil, ↓aFieldAddr, ↓aField, ↓aExtract, ↓aIndexAddr, ↓aIndex, ↓aSlice, ↓aMake, ↓aBuildSlice, ↓aFrz, ↓aLen, ↓aAppend, ↓aCopy, Nat.reduceAdd, Nat.reduceSub, Nat.reduceMul, Nat.reduceLT, Nat.reduceLeDiff, Nat.reduceEqDiff, Int.reduceToNat, Int.reduceBEq, Int.reduceBNe, Int.reduceEq, Int.reduceNe, Int.reduceNeg, Int.reduceLE, Int.reduceLT, reduceIte, reduceCtorEq, go_sem, Nat.add_sub_cancel, Nat.add_one_sub_one, Nat.sub_zero, Nat.mul_one, shiftP, shiftT, shiftC, shiftL, shiftB, newIds, idsOfT, List.zipIdx_cons, List.zipIdx_nil, hq, hq1, hz, g3, f2, f3, f4, hn])
    | (with_reducible refine hK _ ?_; clear hK K)
    | (with_reducible refine askG.mk (fun hg => ?_) (fun hg => ?_) <;> (try simp only [hcS] at hg) <;> (try first | contradiction | (exfalso; omega)))
    | ((with_reducible refine And.intro ?_ ?_); focus (first | (with_reducible show pairsOk _ _ = true; kernel_rfl) | omega | (with_reducible assumption) | kernel_rfl | (exact bytesE_len _) | (exact bytesE_allP _) | (exact rowsE_len _) | (exact rowsE_allP _) | ((simp [allP_nil, allP_cons, persL]; done)) | ((simp [byV]; done)) | (simp; done) | (simp; omega)))
    | ((with_reducible first | show inBlockS _ _ _ _ | show thenS _ _ _ _); simp only [inBlockS, thenS, reduceIte, Nat.reduceEqDiff]))
      rw [wrap_i64 _ (by omega)]
      exact ⟨[0, 3], j + 1, by omega, by omega, ⟨by simp, by (simp [leEs_one, leP, lePs, inP, inPs, inEs, leTs, leT, leC, leCs, leL, leLs, leBs, overT, anys, inTs, inT, inCs, inC, inLs, inL, inBs, hOf, undefT]; try omega), by simp [leEs_one, leP, lePs, inP, inPs, inEs, leTs, leT, leC, leCs, leL, leLs, leBs, overT, anys, inTs, inT, inCs, inC, inLs, inL, inBs, hOf, undefT, leEs_bytes]⟩⟩
    · obtain rfl : j = 8 := by omega
      have g3 : decide (((8 : Nat) : Int) < 8) = false := by decide
      have C := refSum_pc (kcB key k 8) (by omega)
      have hs : shaSum (kcB key k 8) = hashS key k := by rw [kcB_last]; rfl
      rw [hs] at C
      have hsl := hashS_len key k
      have hzn : strB key k ++ hashS key k = strB key (k + 1) := rfl
      have hz1 := strB_len key (k + 1)
      have f5 : IntKind.u64.wrap ((k : Int) + 1) = ((k + 1 : Nat) : Int) := by rw [wrap_u64 _ (by omega)]; omega
      repeat' (first
    | (with_reducible first | refine AW.seq ?_ | refine AW.block ?_ | refine AW.ret ?_ | refine AW.skip ?_ | refine AW.exit ?_)
    | ((refine AW.cond (by rfl) (fun hc => ?_) (fun hc => ?_)) <;> (try simp only [hcS] at hc) <;> (try first | contradiction | (exfalso; omega)))
    | ((refine AW.condB (by rfl) (fun hc => ?_) (fun hc => ?_)))
    | ((first | (refine aCall.view C fnOk49 ?_ ?_ ?_ ?_ ?_; (focus rfl); (focus (simp [plainT, plainC, plainL]; done)); (focus (first | exact plainBs_bytes _ | (simp [plainBs]; done))); (focus (simp [argsOk, viewTOk, viewP, viewPs, ↓askG_tt, ↓askG_ff, ↓askG_tf, ↓askG_ft, ↓AOp, ↓aBin, ↓aUn, ↓aConv, ↓aAlloc, ↓aBox, ↓aBuild, ↓aLoad, ↓aStore, ↓aNil, ↓aFieldAddr, ↓aField, ↓aExtract, ↓aIndexAddr, ↓aIndex, ↓aSlice, ↓aMake, ↓aBuildSlice, ↓aFrz, ↓aLen, ↓aAppend, ↓aCopy, Nat.reduceAdd, Nat.reduceSub, Nat.reduceMul, Nat.reduceLT, Nat.reduceLeDiff, Nat.reduceEqDiff, Int.reduceToNat, Int.reduceBEq, Int.reduceBNe, Int.reduceEq, Int.reduceNe, Int.reduceNeg, Int.reduceLE, Int.reduceLT, reduceIte, reduceCtorEq, go_sem, Nat.add_sub_cancel, Nat.add_one_sub_one, Nat.sub_zero, Nat.mul_one, finP, finPs, viewP, viewPs, finT, finC, finCs, finL, finLs, finBs, viewOk, viewsOk, persL, inT, inC, inCs, inL, inLs, ndB, allP_nil, allP_cons, allP_append]; done))) | (with_reducible refine AW.regionK mo (by kernel_rfl) ?_; intro K hK) | (with_reducible refine aSliceO.l ?_) | (with_reducible refine aBuildO.l ?_) | (with_reducible refine aStoreO.l ?_)); simp (maxSteps := 2000000) only [↓askG_tt, ↓askG_ff, ↓askG_tf, ↓askG_ft, ↓AOp, ↓aBin, ↓aUn, ↓aConv, ↓aAlloc, ↓aBox, ↓aBuild, ↓aLoad, ↓aStore, ↓aNil, ↓aFieldAddr, ↓aField, ↓aExtract, ↓aIndexAddr, ↓aIndex, ↓aSlice, ↓aMake, ↓aBuildSlice, ↓aFrz, ↓aLen, ↓aAppend, ↓aCopy, Nat.reduceAdd, Nat.reduceSub, Nat.reduceMul, Nat.reduceLT, Nat.reduceLeDiff, Nat.reduceEqDiff, Int.reduceToNat, Int.reduceBEq, Int.reduceBNe, Int.reduceEq, Int.reduceNe, Int.reduceNeg, Int.reduceLE, Int.reduceLT, reduceIte, reduceCtorEq, go_sem, Nat.add_sub_cancel, Nat.add_one_sub_one, Nat.sub_zero, Nat.mul_one, shiftP, shiftT, shiftC, shiftL, shiftB, newIds, idsOfT, List.zipIdx_cons, List.zipIdx_nil, g3, hq, hz, hsl, hzn, hz1, f5])
    | (with_reducible refine hK _ ?_; clear hK K)
    | (with_reducible refine askG.mk (fun hg => ?_) (fun hg => ?_) <;> (try simp only [hcS] at hg) <;> (try first | contradiction | (exfalso; omega)))
    | ((with_reducible refine And.intro ?_ ?_); focus (first | (with_reducible show pairsOk _ _ = true; kernel_rfl) | omega | (with_reducible assumption) | kernel_rfl | (exact bytesE_len _) | (exact bytesE_allP _) | (exact rowsE_len _) | (exact rowsE_allP _) | ((simp [allP_nil, allP_cons, persL]; done)) | ((simp [byV]; done)) | (simp; done) | (simp; omega)))
    | ((with_reducible first | show inBlockS _ _ _ _ | show thenS _ _ _ _); simp only [inBlockS, thenS, reduceIte, Nat.reduceEqDiff]))
      exact ⟨[3], k + 1, by omega, by omega, ⟨by simp, by (simp [leEs_one, leP, lePs, inP, inPs, inEs, leTs, leT, leC, leCs, leL, leLs, leBs, overT, anys, inTs, inT, inCs, inC, inLs, inL, inBs, hOf, undefT]; try omega), by simp [leEs_one, leP, lePs, inP, inPs, inEs, leTs, leT, leC, leCs, leL, leLs, leBs, overT, anys, inTs, inT, inCs, inC, inLs, inL, inBs, hOf, undefT, leEs_bytes]⟩⟩
  · have g2 : decide (((32 * k : Nat) : Int) < (n : Int)) = false := by simp; omega
    have ht := strB_take key (show n ≤ 32 * k by omega)
    repeat' (first
    | (with_reducible first | refine AW.seq ?_ | refine AW.block ?_ | refine AW.ret ?_ | refine AW.skip ?_ | refine AW.exit ?_)
    | ((refine AW.cond (by rfl) (fun hc => ?_) (fun hc => ?_)) <;> (try simp only [hcS] at hc) <;> (try first | contradiction | (exfalso; omega)))
    | ((refine AW.condB (by rfl) (fun hc => ?_) (fun hc => ?_)))
    | ((first | (with_reducible refine AW.regionK mo (by kernel_rfl) ?_; intro K hK) | (with_reducible refine aSliceO.l ?_) | (with_reducible refine aBuildO.l ?_) | (with_reducible refine aStoreO.l ?_)); simp (maxSteps := 2000000) only [↓askG_tt, ↓askG_ff, ↓askG_tf, ↓askG_ft, ↓AOp, ↓aBin, ↓aUn, ↓aConv, ↓aAlloc, ↓aBox, ↓aBuild, ↓aLoad, ↓aStore, ↓aNil, ↓aFieldAddr, ↓aField, ↓aExtract, ↓aIndexAddr, ↓aIndex, ↓aSlice, ↓aMake, ↓aBuildSlice, ↓aFrz, ↓aLen, ↓aAppend, ↓aCopy, Nat.reduceAdd, Nat.reduceSub, Nat.reduceMul, Nat.reduceLT, Nat.reduceLeDiff, Nat.reduceEqDiff, Int.reduceToNat, Int.reduceBEq, Int.reduceBNe, Int.reduceEq, Int.reduceNe, Int.reduceNeg, Int.reduceLE, Int.reduceLT, reduceIte, reduceCtorEq, go_sem, Nat.add_sub_cancel, Nat.add_one_sub_one, Nat.sub_zero, Nat.mul_one, shiftP, shiftT, shiftC, shiftL, shiftB, newIds, idsOfT, List.zipIdx_cons, List.zipIdx_nil, g2, hz])
    | (with_reducible refine hK _ ?_; clear hK K)
    | (with_reducible refine askG.mk (fun hg => ?_) (fun hg => ?_) <;> (try simp only [hcS] at hg) <;> (try first | contradiction | (exfalso; omega)))
    | ((with_reducible refine And.intro ?_ ?_); focus (first | (with_reducible show pairsOk _ _ = true; kernel_rfl) | omega | (with_reducible assumption) | kernel_rfl | (exact bytesE_len _) | (exact bytesE_allP _) | (exact rowsE_len _) | (exact rowsE_allP _) | ((simp [allP_nil, allP_cons, persL]; done)) | ((simp [byV]; done)) | (simp; done) | (simp; omega)))
    | ((with_reducible first | show inBlockS _ _ _ _ | show thenS _ _ _ _); simp only [inBlockS, thenS, reduceIte, Nat.reduceEqDiff]))
    rw [← ht]
    all_goals (refine ⟨_, [], rfl, ⟨rfl, ?_, ?_, ?_⟩⟩ <;> simp [go_sem, Nat.add_sub_cancel, Nat.add_one_sub_one, Nat.sub_zero, Nat.mul_one, finP, finPs, viewP, viewPs, finT, finC, finCs, finL, finLs, finBs, viewOk, viewsOk, persL, inT, inC, inCs, inL, inLs, ndB, allP_nil, allP_cons, allP_append])
end Go.Proofs.YtbcclcbmbejnmaaDoor

