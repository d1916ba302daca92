/- A region that draws its order, whose operations each yield one value in every world that meets a condition, and leave a world that meets it: calls too. One way instead of one for each order. Own words. -/
import Derived.Deep.RegionHeld3
import Derived.Test.YtoahkaongmlfkaaBase
namespace Go.Proofs.Ytoahkaongmlfkaa
set_option linter.unusedSimpArgs false
set_option linter.unusedVariables false
open Go Go.RowKit

section
variable {P : Program} {ops : Array Oper} {Q : Exit → Act → World → Prop} {md : Region.Mode} {S : World → Prop}

/-- What an operation does in every world that meets S: it gives v and leaves a world that meets S. -/
def Gives (P : Program) (S : World → Prop) (v : Value) (w : World) (r : Result Next) : Prop :=
  (∃ w', r = .ok (.value v) w' ∧ S w') ∨ (∃ f args, r = .ok (.enter f args) w ∧ Calls P f args w fun e w' => e = .returned v ∧ S w')

def YieldsS (P : Program) (ops : Array Oper) (S : World → Prop) (o : Oper) (v : Value) (a : Act) : Prop :=
  (Region.wanted o (yielded ops a.tmps) = true ∧ ∀ w, S w → Gives P S v w ((execOp a.eval o).run P w)) ∨
  (Region.wanted o (yielded ops a.tmps) = false ∧ v = undef)

theorem YieldsS.pure {o : Oper} {v : Value} {a : Act} (hw : Region.wanted o (yielded ops a.tmps) = true) (h : ∀ w, S w → (execOp a.eval o).run P w = .ok (.value v) w) : YieldsS P ops S o v a :=
  .inl ⟨hw, fun w hS => .inl ⟨w, h w hS, hS⟩⟩
theorem YieldsS.idle {o : Oper} {a : Act} (hw : Region.wanted o (yielded ops a.tmps) = false) : YieldsS P ops S o undef a := .inr ⟨hw, rfl⟩
theorem YieldsS.called {o : Oper} {v : Value} {a : Act} (f : FuncId) (args : Array Value) (hw : Region.wanted o (yielded ops a.tmps) = true) (hx : ∀ w, (execOp a.eval o).run P w = .ok (.enter f args) w)
    (h : ∀ w, S w → Calls P f args w fun e w' => e = .returned v ∧ S w') : YieldsS P ops S o v a :=
  .inl ⟨hw, fun w hS => .inr ⟨f, args, hx w, h w hS⟩⟩

theorem YieldsS.calledE {o : Oper} {v : Value} {a : Act} (hw : Region.wanted o (yielded ops a.tmps) = true)
    (h : ∀ w, S w → ∃ f args, (execOp a.eval o).run P w = .ok (.enter f args) w ∧ Calls P f args w fun e w' => e = .returned v ∧ S w') : YieldsS P ops S o v a :=
  .inl ⟨hw, fun w hS => .inr (h w hS)⟩

theorem YieldsS.of_same {o : Oper} {v : Value} {a a' : Act} (hy : YieldsS P ops S o v a) (he : execOp a'.eval o = execOp a.eval o)
    (hw : Region.wanted o (yielded ops a'.tmps) = Region.wanted o (yielded ops a.tmps)) : YieldsS P ops S o v a' := by
  unfold YieldsS at *
  rw [he, hw]
  exact hy

theorem YieldsS.step {i : Nat} {o : Oper} {v : Value} {a : Act} (hi : ops[i]? = some o) (hy : YieldsS P ops S o v a) {K : Act → World → Prop} {w : World} (hS : S w) (h : ∀ w', S w' → K (a.put o.dst v) w') :
    wpOp P ops Q i K a w := by
  unfold wpOp
  rw [hi]
  simp only
  rcases hy with ⟨hw, hg⟩ | ⟨hw, rfl⟩
  · rw [if_pos hw]
    refine .inl ?_
    unfold Oper.wp
    rcases hg w hS with ⟨w', he, hS'⟩ | ⟨f, args, he, hc⟩
    · rw [he]
      exact h w' hS'
    · rw [he]
      refine Calls.mono hc ?_
      rintro e w' ⟨rfl, hS'⟩
      exact h w' hS'
  · rw [hw]
    exact h w hS

/-- Whatever order is picked: each operation yields its one value. -/
def wpAnyS (P : Program) (md : Region.Mode) (ops : Array Oper) (Q : Exit → Act → World → Prop) (S : World → Prop) : Nat → Array Bool → Act → Prop
  | 0, listed, a => Region.ready md ops listed = [] ∧ ∀ w, S w → Q .normal a w
  | fuel + 1, listed, a =>
    (Region.ready md ops listed = [] → ∀ w, S w → Q .normal a w) ∧
    ∀ i ∈ Region.ready md ops listed, ∃ o v, ops[i]? = some o ∧ YieldsS P ops S o v a ∧ wpAnyS P md ops Q S fuel (listed.setIfInBounds i true) (a.put o.dst v)

theorem wpAny_of_S : ∀ (fuel : Nat) (listed : Array Bool) (a : Act) (w : World), S w → wpAnyS P md ops Q S fuel listed a → wpAny P md ops Q fuel listed a w
  | 0, _, _, w, hS, h => ⟨h.1, h.2 w hS⟩
  | fuel + 1, _, _, w, hS, h => ⟨fun hr => h.1 hr w hS, fun i hi => by
      obtain ⟨o, v, ho, hy, hn⟩ := h.2 i hi
      exact hy.step ho hS fun w' hS' => wpAny_of_S fuel _ _ w' hS' hn⟩

theorem wpAnyS_first {i : Nat} {oi : Oper} {v : Value} (hi : ops[i]? = some oi) (hsel : ∀ (j : Nat) (o : Oper) cs b, ops[j]? = some o → o.op ≠ .select cs b) :
    ∀ (fuel : Nat) (listed : Array Bool) (a : Act),
      (∀ j oj, ops[j]? = some oj → j ≠ i → listed.getD j true = false → (∀ e ∈ oj.after, Region.binds md e = true → e.on ≠ i) → oi.apart ops oj = true) →
      i ∈ Region.ready md ops listed → YieldsS P ops S oi v a →
      wpAnyS P md ops Q S fuel (listed.setIfInBounds i true) (a.put oi.dst v) → wpAnyS P md ops Q S (fuel + 1) listed a := by
  intro fuel
  induction fuel with
  | zero =>
    intro listed a _ hr hy H
    refine ⟨fun h => (by rw [h] at hr; cases hr), fun j hj => ?_⟩
    by_cases hji : j = i
    · subst hji; exact ⟨oi, v, hi, hy, H⟩
    · have := ready_mono hj hji
      rw [H.1] at this
      cases this
  | succ fuel ih =>
    intro listed a hfree hr hy H
    refine ⟨fun h => (by rw [h] at hr; cases hr), fun j hj => ?_⟩
    by_cases hji : j = i
    · subst hji; exact ⟨oi, v, hi, hy, H⟩
    · obtain ⟨hjun, oj, hoj, hall⟩ := mem_ready.1 hj
      obtain ⟨oj', u, hoj', hyj, hnj⟩ := H.2 j (ready_mono hj hji)
      rw [hoj] at hoj'
      cases hoj'
      have hnot : ∀ e ∈ oj.after, Region.binds md e = true → e.on ≠ i := fun e he hb heq => by
        have h1 := hall e he hb
        have h0 := (mem_ready.1 hr).1
        rw [heq] at h1
        rcases Nat.lt_or_ge i listed.size with h' | h'
        · simp [h'] at h0 h1; rw [h0] at h1; cases h1
        · simp [Array.getElem?_eq_none h'] at h1
      obtain ⟨h1, h2, h3⟩ := Oper.apart_spec (hfree j oj hoj hji hjun hnot)
      have hyj' : YieldsS P ops S oj u a := hyj.of_same (execOp_put oj (fun cs b => hsel j oj cs b hoj) a oi.dst v h1).symm (wanted_put oj a oi.dst v h1).symm
      have hyi' : YieldsS P ops S oi v (a.put oj.dst u) := hy.of_same (execOp_put oi (fun cs b => hsel i oi cs b hi) a oj.dst u h3) (wanted_put oi a oj.dst u h3)
      refine ⟨oj, u, hoj, hyj', ih (listed.setIfInBounds j true) _ ?_ (ready_mono hr (Ne.symm hji)) hyi' ?_⟩
      · intro k ok hk hki hun hno
        refine hfree k ok hk hki ?_ hno
        by_cases hjk : j = k
        · subst hjk; exact hjun
        · rw [getD_set_ne true hjk] at hun; exact hun
      · rw [Array.setIfInBounds_comm _ _ hji, ← Act.put_comm a v u h2]
        exact hnj

/-- In the order of the text. -/
def seqS (P : Program) (ops : Array Oper) (Q : Exit → Act → World → Prop) (S : World → Prop) : List Oper → Act → Prop
  | [], a => ∀ w, S w → Q .normal a w
  | o :: rest, a => ∃ v, YieldsS P ops S o v a ∧ seqS P ops Q S rest (a.put o.dst v)

/-- The order of the text is an order, and whoever comes up early is apart. -/
def textOk (md : Region.Mode) (ops : Array Oper) : Nat → Nat → Array Bool → Bool
  | 0, _, listed => (Region.ready md ops listed).isEmpty
  | n + 1, i, listed => (Region.ready md ops listed).contains i && Region.free md ops listed i && textOk md ops n (i + 1) (listed.setIfInBounds i true)

theorem wpAnyS_text (hs : Region.noSelect ops = true) : ∀ (l : List Oper) (i : Nat) (listed : Array Bool) (a : Act), (∀ k, l[k]? = ops[i + k]?) → textOk md ops l.length i listed = true → seqS P ops Q S l a →
    wpAnyS P md ops Q S l.length listed a
  | [], i, listed, a, _, ht, h => ⟨by simpa [textOk] using ht, h⟩
  | o :: rest, i, listed, a, hl, ht, h => by
    obtain ⟨v, hy, hn⟩ := h
    simp only [List.length_cons, textOk, Bool.and_eq_true] at ht
    have hi : ops[i]? = some o := by rw [← Nat.add_zero i, ← hl 0]; rfl
    refine wpAnyS_first hi (Region.noSelect_spec hs) rest.length listed a (Region.free_spec hi ht.1.2) (by simpa using ht.1.1) hy ?_
    exact wpAnyS_text hs rest (i + 1) _ _ (fun k => by rw [Nat.add_assoc, Nat.add_comm 1 k, ← hl (k + 1)]; rfl) ht.2 hn

/-- **A region that draws, in the order of the text.** -/
theorem wp_region_S {id : Nat} {a : Act} {w : World} (S : World → Prop) (hm : P.follows .mixedOrders = true) (hs : Region.noSelect ops = true)
    (ht : textOk .any ops ops.size 0 (Array.replicate ops.size false) = true) (hS : S w.drew) (h : seqS P ops Q S ops.toList a) : (Code.region id ops true).wp P Q a w :=
  wp_region_any hm (wpAny_of_S _ _ _ _ hS (by
    have := wpAnyS_text (P := P) (Q := Q) (S := S) (md := .any) hs ops.toList 0 (Array.replicate ops.size false) a (fun k => by rw [Nat.zero_add, Array.getElem?_toList]) (by rw [Array.length_toList]; exact ht) h
    rwa [Array.length_toList] at this))

theorem seqS.cons {o : Oper} {rest : List Oper} {a : Act} {v : Value} (hy : YieldsS P ops S o v a) (h : seqS P ops Q S rest (a.put o.dst v)) : seqS P ops Q S (o :: rest) a := ⟨v, hy, h⟩
theorem seqS.done {a : Act} (h : ∀ w, S w → Q .normal a w) : seqS P ops Q S [] a := h
end

/-! ### Boxes of what came in -/
theorem box1 {W w1 : World} {t0 : TypeId} {cs0 : Array Value} (hb : Below (W.heap.size + 1) (W.alloc (.cells cs0 t0)) w1) : Row w1 W.heap.size t0 cs0 ∧ Below W.heap.size W w1 :=
  ⟨(Row.new W t0 cs0).below hb (Nat.lt_succ_self _), ((Below.refl _ _).alloc (Nat.le_refl _) _).trans (hb.mono (by omega))⟩
theorem box2 {W w1 : World} {t0 t1 : TypeId} {cs0 cs1 : Array Value} (hb : Below (W.heap.size + 1 + 1) ((W.alloc (.cells cs0 t0)).alloc (.cells cs1 t1)) w1) : Row w1 W.heap.size t0 cs0 ∧ Row w1 (W.heap.size + 1) t1 cs1 ∧ Below W.heap.size W w1 := by
  have r1 := Row.new (W.alloc (.cells cs0 t0)) t1 cs1
  rw [World.size_alloc] at r1
  exact ⟨((Row.new W t0 cs0).alloc _).below hb (by omega), r1.below hb (by omega), (((Below.refl _ _).alloc (Nat.le_refl _) _).alloc (by simp) _).trans (hb.mono (by omega))⟩
theorem box3 {W w1 : World} {t0 t1 t2 : TypeId} {cs0 cs1 cs2 : Array Value} (hb : Below (W.heap.size + 1 + 1 + 1) (((W.alloc (.cells cs0 t0)).alloc (.cells cs1 t1)).alloc (.cells cs2 t2)) w1) :
    Row w1 W.heap.size t0 cs0 ∧ Row w1 (W.heap.size + 1) t1 cs1 ∧ Row w1 (W.heap.size + 1 + 1) t2 cs2 ∧ Below W.heap.size W w1 := by
  have r1 := Row.new (W.alloc (.cells cs0 t0)) t1 cs1
  rw [World.size_alloc] at r1
  have r2 := Row.new ((W.alloc (.cells cs0 t0)).alloc (.cells cs1 t1)) t2 cs2
  rw [World.size_alloc, World.size_alloc] at r2
  exact ⟨(((Row.new W t0 cs0).alloc _).alloc _).below hb (by omega), (r1.alloc _).below hb (by omega), r2.below hb (by omega), ((((Below.refl _ _).alloc (Nat.le_refl _) _).alloc (by simp) _).alloc (by simp; omega) _).trans (hb.mono (by omega))⟩
end Go.Proofs.Ytoahkaongmlfkaa
