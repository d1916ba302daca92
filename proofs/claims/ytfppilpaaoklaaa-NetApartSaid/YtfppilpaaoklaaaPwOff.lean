/- What reading does not look at may turn: a loop's record, the block for its rounds' deferred calls; and what is new. -/
import Derived.Test.YtfppilpaaoklaaaPw15
namespace Go.Proofs.Ytfppilpaaoklaaa
set_option linter.unusedSimpArgs false
set_option linter.unusedVariables false
open Go Go.RowKit
variable {Γ : Ctx}
/-- What reading looks at. -/
def rdb (w : World) (b : Nat) : Prop := ∃ o : Obj, w.heap[b]? = some o ∧ (o.isCells = true ∨ ∃ es c, o = .map es c)
structure Off (w w' : World) : Prop where
  size : w.heap.size ≤ w'.heap.size
  same : ∀ b, rdb w b → w'.heap[b]? = w.heap[b]?
theorem Off.refl (w : World) : Off w w := ⟨Nat.le_refl _, fun _ _ => rfl⟩
theorem Off.trans {a b c : World} (h : Off a b) (k : Off b c) : Off a c := ⟨Nat.le_trans h.size k.size, fun i hi => by
  have h1 := h.same i hi
  obtain ⟨o, ho, hk⟩ := hi
  rw [k.same i ⟨o, by rw [h1]; exact ho, hk⟩, h1]⟩
theorem Off.below {w w' : World} (h : Below w.heap.size w w') : Off w w' := ⟨h.size, fun b ⟨o, ho, _⟩ => h.block b (Array.getElem?_eq_some_iff.1 ho).1⟩
def dull : Obj → Bool
  | .cells .. => false
  | .map .. => false
  | _ => true
theorem Off.put {w : World} {D : Nat} {o : Obj} (ho : w.heap[D]? = some o) (hd : dull o = true) (o' : Obj) : Off w (w.putObj D o') := ⟨by simp, fun b ⟨x, hx, hk⟩ => World.putObj_heap_other fun e => by
  subst e
  rw [ho] at hx; injection hx with hx; subst hx
  rcases hk with hk | ⟨es, c, rfl⟩
  · cases o <;> simp_all [dull, Obj.isCells]
  · cases hd⟩
theorem RL.rd {B : Nat → Prop} {w : World} {l : L} {v : Value} (h : RL B w l v) : RL (fun b => B b ∧ rdb w b) w l v := by
  have key : ∀ (p : Addr) (k : Nat) (u : Value), w.cell? (p.add k) = some u → rdb w p.block := fun p k u hc => by
    obtain ⟨o, ho, hk⟩ := cells_of_cell hc
    rw [addBlk] at ho
    exact ⟨o, ho, .inl hk⟩
  induction h with
  | sc v => exact .sc v
  | sl es A n c s cells h1 h2 h3 h4 h5 h6 h7 ih =>
    refine .sl es A n c s cells h1 h2 h3 (fun i e j l he hl => ?_) ih h6 h7
    obtain ⟨p, hp, hb, hc⟩ := h4 i e j l he hl
    exact ⟨p, hp, ⟨hb, key _ _ _ hc⟩, hc⟩
  | pp cs p cells h4 h5 h6 ih =>
    refine .pp cs p cells (fun j l hl => ?_) ih h6
    obtain ⟨hb, hc⟩ := h4 j l hl
    exact ⟨⟨hb, key _ _ _ hc⟩, hc⟩
  | clo f ls cs h1 h5 ih => exact .clo f ls cs h1 ih
  | mp es r clock h4 => exact .mp es r clock ⟨⟨h4.1, _, h4.2, .inr ⟨_, _, rfl⟩⟩, h4.2⟩
theorem RL.off {B B' : Nat → Prop} {w w' : World} (o : Off w w') (hB : ∀ b, B b → rdb w b → B' b) {l : L} {v : Value} (h : RL B w l v) : RL B' w' l v :=
  RL.keep (fun b hb => ⟨hB b hb.1 hb.2, o.same b hb.2⟩) h.rd
section
variable {h : Heap} {μ : Pos} {w w' : World}
theorem PerG.off (o : Off w w') {b : Nat} (hb : PerG Γ h μ w b) : PerG Γ h μ w' b := ⟨⟨Nat.lt_of_lt_of_le hb.1.1 o.size, hb.1.2⟩, hb.2⟩
section
variable {Γ' : Ctx} (hG : ∀ b, PerG Γ h μ w b → rdb w b → PerG Γ' h μ w' b)
include hG
theorem RP.offG (o : Off w w') {l : L} {u : Value} (r : RP Γ h μ w l u) : RP Γ' h μ w' l u := by
  cases l with
  | ptr id i j => exact r
  | _ => exact RL.off o hG r
theorem RX.offG (o : Off w w') {l : L} {u : Value} (r : RX Γ h μ w l u) : RX Γ' h μ w' l u := by
  cases l with
  | arow id i j n => exact r
  | row id lo n => exact r
  | ptr id i j => exact r
  | clo f ls =>
    obtain ⟨cs, hu, hs, hr⟩ := r
    exact ⟨cs, hu, hs, fun k l hl => (hr k l hl).offG hG o⟩
  | own id s n =>
    rcases r with hd | ⟨ab, hi, hs, hn, r⟩
    · exact .inl hd
    · refine .inr ⟨ab, hi, hs, hn, ?_⟩
      rcases r with r | ⟨g, cap, cur, hg, hu, hw, hc, hl, hm⟩
      · exact .inl r
      · exact .inr ⟨g, cap, cur, hg, hu, by rw [o.same g ⟨_, hw, .inl rfl⟩]; exact hw, hc, hl, hm⟩
  | any => trivial
  | bb p => exact r
  | mp es => exact RL.off o hG r
  | sc v => exact RL.off o hG r
  | sl es => exact RL.off o hG r
  | pp cs => exact RL.off o hG r
theorem RXc.offG (o : Off w w') {l : L} {u : Value} (r : RXc Γ h μ w l u) : RXc Γ' h μ w' l u := ⟨r.1, r.2.offG hG o⟩
theorem RC.offG (o : Off w w') {t : T} {u : Value} (r : RC Γ h μ w t u) : RC Γ' h μ w' t u := by
  cases t with
  | leaf l => exact RX.offG hG o r
  | agg ls =>
    obtain ⟨cs, hu, hs, hr⟩ := r
    exact ⟨cs, hu, hs, fun j l hl => let ⟨v, h1, h2⟩ := hr j l hl; ⟨v, h1, h2.offG hG o⟩⟩
  | tup ts => exact r
theorem RT.offG (o : Off w w') {t : T} {u : Value} (r : RT Γ h μ w t u) : RT Γ' h μ w' t u := by
  cases t with
  | tup ts =>
    obtain ⟨vs, hu, hs, hr⟩ := r
    exact ⟨vs, hu, hs, fun j t ht => let ⟨v, h1, h2⟩ := hr j t ht; ⟨v, h1, h2.offG hG o⟩⟩
  | leaf l => exact RC.offG (t := .leaf l) hG o r
  | agg ls => exact RC.offG (t := .agg ls) hG o r
theorem Globs.offG (o : Off w w') (r : Globs Γ h μ w) : Globs Γ' h μ w' := fun g vs hg => RL.off o hG (r g vs hg)
theorem FrameR.offG (o : Off w w') {tm : List T} {a : Array Value} (r : FrameR Γ h μ w tm a) : FrameR Γ' h μ w' tm a := ⟨⟨r.1.1, r.1.2.offG hG o⟩, fun i t ht => (r.2 i t ht).offG hG o⟩
theorem Inv.offG (o : Off w w') (hb : Γ'.base ≤ w'.heap.size) (ho : ∀ id ab g, h id = some (some ab) → μ id = some g → Γ.O g → Γ'.O g) (I : Inv Γ h μ w) : Inv Γ' h μ w' := ⟨I.len, fun id ab hi => (I.at_ id ab hi).imp (fun h => h) fun ⟨g, cur, h1, h2, h3, h4⟩ =>
  ⟨g, cur, h1, by rw [o.same g ⟨_, h2, .inl rfl⟩]; exact h2, h3, fun i e j l he hl => let ⟨u, hu, hx⟩ := h4 i e j l he hl; ⟨u, hu, hx.offG hG o⟩⟩, I.inj, hb, fun id ab g h1 h2 => ho id ab g h1 h2 (I.own id ab g h1 h2)⟩
end
theorem FrameR.off (o : Off w w') {tm : List T} {a : Array Value} (r : FrameR Γ h μ w tm a) : FrameR Γ h μ w' tm a := r.offG (fun b hb _ => hb.off o) o
theorem RT.off (o : Off w w') {t : T} {u : Value} (r : RT Γ h μ w t u) : RT Γ h μ w' t u := r.offG (fun b hb _ => hb.off o) o
theorem Inv.off (o : Off w w') (I : Inv Γ h μ w) : Inv Γ h μ w' := I.offG (fun b hb _ => hb.off o) o (Nat.le_trans I.base o.size) (fun _ _ _ _ _ h => h)
theorem RLG.off (o : Off w w') {l : L} {u : Value} (r : RL (PerG Γ h μ w) w l u) : RL (PerG Γ h μ w') w' l u := RL.off o (fun b hb _ => hb.off o) r
end
/-- A function goes: the blocks for deferred calls are shut. -/
theorem leaves_marks {P : Program} {fn : Func} {tmps : Array Value} {R : Ending → World → Prop} {m : Nat} {n : Nat} : ∀ (Ds : List Nat) (w : World), Ds.Nodup → (∀ D ∈ Ds, n ≤ D ∧ w.heap[D]? = some (.deferred (some []))) →
    (∀ w2, Off w w2 → Below n w w2 → ∃ v, (results fn tmps).run P w2 = .ok v w2 ∧ R (.returned v) w2) → LeavesInM Fence.wide m P fn tmps R (Ds.map mark) .returning w
  | [], w, _, _, h => h w (Off.refl w) (Below.refl _ w)
  | D :: Ds, w, nd, hD, h => by
    have h0 := hD D (by simp)
    refine ⟨by simp, .inl ⟨D, w.putObj D (.deferred none), rfl, run_takeDeferred h0.2, ?_⟩⟩
    refine leaves_marks Ds _ (List.nodup_cons.1 nd).2 (fun E hE => ⟨(hD E (by simp [hE])).1, ?_⟩) fun w2 ho hb => h w2 ((Off.put h0.2 rfl _).trans ho) ((show Below n w (w.putObj D (.deferred none)) from ⟨rfl, rfl, rfl, by simp, fun k hk => World.putObj_heap_other (by have := h0.1; omega)⟩).trans hb)
    have hne : E ≠ D := fun e => (List.nodup_cons.1 nd).1 (by rw [← e]; exact hE)
    rw [World.putObj_heap_other hne]
    exact (hD E (by simp [hE])).2
end Go.Proofs.Ytfppilpaaoklaaa
