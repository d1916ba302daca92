/- Contracts over plain values, and what a call does to them. -/
import Derived.Test.YtfppilpaaoklaaaPw10
namespace Go.Proofs.Ytfppilpaaoklaaa
set_option linter.unusedSimpArgs false
set_option linter.unusedVariables false
open Go Go.RowKit
variable {Γ : Ctx}

def hOf (bl : List (Option AB)) : Heap := fun id => bl[id]?
abbrev h0 : Heap := fun _ => none
abbrev μ0 : Pos := fun _ => none

/-- **The contract of a function**: handed what reads as vs it tells what reads as r, with these blocks of its own; nothing that was there is turned; what it tells lies in new memory, or where what it was handed lies. -/
def PC (P : Program) (f : FuncId) (vs : List T) (bl : List AB) (r : T) : Prop :=
  ∀ (B : Nat → Prop) (args : Array Value) (w : World), Globs (Cx B w.heap.size) h0 μ0 w → args.size = vs.length → (∀ (i : Nat) (t : T), vs[i]? = some t → RT (Cx B w.heap.size) h0 μ0 w t (args.getD i undef)) →
    Calls P f args w fun e w' => ∃ v μ, e = .returned v ∧ Below w.heap.size w w' ∧ Inv (Cx B w.heap.size) (hOf (bl.map some)) μ w' ∧ RT (Cx B w.heap.size) (hOf (bl.map some)) μ w' r v

/-! ### What is handed on -/
def persP : L → Bool
  | .sc _ | .sl _ | .pp _ => true
  | _ => false
def persL : L → Bool
  | .sc _ | .sl _ | .pp _ | .mp _ => true
  | .clo _ ls => ls.all persP
  | _ => false
def allP (es : List (List L)) : Prop := ∀ e ∈ es, ∀ l ∈ e, persL l = true
def plainP : L → Bool
  | .ptr _ _ _ | .sc _ => true
  | _ => false
def plainL : L → Bool
  | .sl _ | .pp _ | .mp _ => false
  | .clo _ ls => ls.all plainP
  | _ => true
/-- What a closure has captured, handed on. -/
def ViewP (h : Heap) (l l' : L) : Prop := (l = l' ∧ persP l = true) ∨ ∃ cs, l' = .pp cs ∧ behind h l = some cs ∧ ∀ x ∈ cs, persL x = true
/-- l can be handed on as l'. -/
inductive ViewL (h : Heap) : L → L → Prop
  | same (l : L) : persL l = true → ViewL h l l
  | rows (l : L) (es : List (List L)) : rowsOf h l = some es → allP es → ViewL h l (.sl es)
  | cells (l : L) (cs : List L) : behind h l = some cs → (∀ x ∈ cs, persL x = true) → ViewL h l (.pp cs)
  | clo (f : FuncId) (ls ls' : List L) : ls.length = ls'.length → (∀ (j : Nat) (l l' : L), ls[j]? = some l → ls'[j]? = some l' → ViewP h l l') → ViewL h (.clo f ls) (.clo f ls')
inductive ViewT (h : Heap) : T → T → Prop
  | leaf (l l' : L) : ViewL h l l' → ViewT h (.leaf l) (.leaf l')
  | agg (ls ls' : List L) : ls.length = ls'.length → (∀ (j : Nat) (l l' : L), ls[j]? = some l → ls'[j]? = some l' → ViewL h l l') → ViewT h (.agg ls) (.agg ls')

section
variable {h : Heap} {μ : Pos} {w : World}
theorem RX.pers {l : L} {u : Value} (r : RX Γ h μ w l u) (hp : persL l = true) : RL (PerG Γ h μ w) w l u := by
  cases l with
  | clo f ls =>
    obtain ⟨cs, rfl, hs, hr⟩ := r
    refine .clo f ls cs hs fun j l hl => ?_
    have h1 := hr j l hl
    have h2 : persP l = true := List.all_eq_true.1 hp l (List.mem_of_getElem? hl)
    cases l <;> first | exact h1 | (simp [persP] at h2)
  | _ => first | exact r | (simp [persL] at hp)
theorem behind_read (I : Inv Γ h μ w) {l : L} {u : Value} (r : RX Γ h μ w l u) {cs : List L} (hb : behind h l = some cs) (hall : ∀ x ∈ cs, persL x = true) {B : Nat → Prop} (hB : ∀ b, b < w.heap.size → B b) : RL (PerG (Cx B w.heap.size) h0 μ0 w) w (.pp cs) u := by
  have hP : ∀ b, b < w.heap.size → PerG (Cx B w.heap.size) h0 μ0 w b := fun b hb => ⟨⟨hb, fun id ab hh => (by cases hh)⟩, .inl (hB b hb)⟩
  have hK : ∀ b, PerG Γ h μ w b → PerG (Cx B w.heap.size) h0 μ0 w b ∧ w.heap[b]? = w.heap[b]? := fun b hb => ⟨hP b hb.1.1, rfl⟩
  obtain ⟨p, hu, hc⟩ := behind_spec I r hb
  subst hu
  have : ∀ j, ∃ v, ∀ x, cs[j]? = some x → w.cell? (p.add j) = some v ∧ RXc Γ h μ w x v := fun j => by
    cases hx : cs[j]? with
    | none => exact ⟨undef, fun x h => (by cases h)⟩
    | some x =>
      obtain ⟨v, h1, h2⟩ := hc j x hx
      exact ⟨v, fun x' h => (by cases h; exact ⟨h1, h2⟩)⟩
  refine RL.pp cs p (fun j => Classical.choose (this j)) (fun j x hx => ?_) (fun j x hx => ?_) (fun j x hx => ?_) <;>
    obtain ⟨h1, h2⟩ := Classical.choose_spec (this j) x hx
  · refine ⟨hP _ ?_, h1⟩
    have := World.block_lt_of_cell? w _ h1
    rwa [addBlk] at this
  · exact RL.keep hK (h2.2.pers (hall x (List.mem_of_getElem? hx)))
  · exact h2.1
theorem RP.rx {l : L} {u : Value} (r : RP Γ h μ w l u) : RX Γ h μ w l u := by
  cases l with
  | ptr id i j => exact r
  | _ => exact RL.rx r
theorem ViewL.read (I : Inv Γ h μ w) {l l' : L} (v : ViewL h l l') {u : Value} (r : RX Γ h μ w l u) {B : Nat → Prop} (hB : ∀ b, b < w.heap.size → B b) : RX (Cx B w.heap.size) h0 μ0 w l' u := by
  have hP : ∀ b, b < w.heap.size → PerG (Cx B w.heap.size) h0 μ0 w b := fun b hb => ⟨⟨hb, fun id ab hh => (by cases hh)⟩, .inl (hB b hb)⟩
  have hK : ∀ b, PerG Γ h μ w b → PerG (Cx B w.heap.size) h0 μ0 w b ∧ w.heap[b]? = w.heap[b]? := fun b hb => ⟨hP b hb.1.1, rfl⟩
  cases v with
  | same _ hp => exact (RL.keep hK (r.pers hp)).rx
  | rows _ es hr hall =>
    obtain ⟨A, c, s, hu, R⟩ := rows_spec I r hr
    subst hu
    have : ∀ i j, ∃ v, ∀ e x, es[i]? = some e → e[j]? = some x → ∃ p, A = some p ∧ w.cell? (p.add (i * s + j)) = some v ∧ RXc Γ h μ w x v := fun i j => by
      cases he : es[i]? with
      | none => exact ⟨undef, fun e x h => (by cases h)⟩
      | some e => cases hx : e[j]? with
        | none => exact ⟨undef, fun e' x h h' => (by cases h; rw [hx] at h'; cases h')⟩
        | some x =>
          obtain ⟨p, v, hp, hc, hr⟩ := R.at_ i e j x he hx
          exact ⟨v, fun e' x' h h' => (by cases h; rw [hx] at h'; cases h'; exact ⟨p, hp, hc, hr⟩)⟩
    refine RL.sl es A _ c s (fun i j => Classical.choose (this i j)) rfl R.cap R.len (fun i e j x he hx => ?_) (fun i e j x he hx => ?_) (fun i e j x he hx => ?_) R.nil <;>
      obtain ⟨p, hp, hc, hr⟩ := Classical.choose_spec (this i j) e x he hx
    · refine ⟨p, hp, hP _ ?_, hc⟩
      have := World.block_lt_of_cell? w _ hc
      rwa [addBlk] at this
    · exact RL.keep hK (hr.2.pers (hall e (List.mem_of_getElem? he) x (List.mem_of_getElem? hx)))
    · exact hr.1
  | cells _ cs hb hall => exact behind_read I r hb hall hB
  | clo f ls ls' hl hv =>
    obtain ⟨cs, rfl, hs, hr⟩ := r
    refine ⟨cs, rfl, hs.trans hl, fun k l' hl' => ?_⟩
    have hk : k < ls.length := by rw [hl]; exact (List.getElem?_eq_some_iff.1 hl').1
    have h1 := hr k ls[k] (List.getElem?_eq_getElem hk)
    refine RL.rp ?_
    rcases hv k _ l' (List.getElem?_eq_getElem hk) hl' with ⟨rfl, hp⟩ | ⟨ds, rfl, hb, hall⟩
    · have : RL (PerG Γ h μ w) w ls[k] (cs.getD k undef) := by
        generalize ls[k] = l at h1 hp
        cases l <;> first | exact h1 | (simp [persP] at hp)
      exact RL.keep hK this
    · exact behind_read I h1.rx hb hall hB
theorem ViewL.one {l l' : L} (v : ViewL h l l') : True := trivial
theorem ViewT.read (I : Inv Γ h μ w) {t t' : T} (v : ViewT h t t') {u : Value} (r : RT Γ h μ w t u) {B : Nat → Prop} (hB : ∀ b, b < w.heap.size → B b) : RT (Cx B w.heap.size) h0 μ0 w t' u := by
  cases v with
  | leaf l l' hv => exact hv.read I r hB
  | agg ls ls' hl hv =>
    obtain ⟨cs, hu, hs, hr⟩ := r
    refine ⟨cs, hu, hs.trans hl, fun j l' hl' => ?_⟩
    have hj : j < ls.length := by rw [hl]; exact (List.getElem?_eq_some_iff.1 hl').1
    obtain ⟨v, h1, h2⟩ := hr j ls[j] (List.getElem?_eq_getElem hj)
    exact ⟨v, h1, h2.1, (hv j _ l' (List.getElem?_eq_getElem hj) hl').read I h2.2 hB⟩
/-- What stays, as it is. -/
def persT : T → Bool
  | .leaf l => persL l
  | .agg ls => ls.all persL
  | .tup _ => false
theorem persT.read {t : T} (hp : persT t = true) {u : Value} (r : RT Γ h μ w t u) : RT (Cx (PerG Γ h μ w) w.heap.size) h0 μ0 w t u := by
  have hK : ∀ b, PerG Γ h μ w b → PerG (Cx (PerG Γ h μ w) w.heap.size) h0 μ0 w b ∧ w.heap[b]? = w.heap[b]? := fun b hb => ⟨⟨⟨hb.1.1, fun id ab hh => (by cases hh)⟩, .inl hb⟩, rfl⟩
  cases t with
  | leaf l => exact (RL.keep hK (RX.pers (l := l) r hp)).rx
  | agg ls =>
    obtain ⟨cs, hu, hs, hr⟩ := r
    refine ⟨cs, hu, hs, fun j l hl => ?_⟩
    obtain ⟨v, h1, h2⟩ := hr j l hl
    exact ⟨v, h1, h2.1, (RL.keep hK (h2.2.pers (List.all_eq_true.1 hp l (List.mem_of_getElem? hl)))).rx⟩
  | tup ts => simp [persT] at hp
end

/-! ### What comes back -/
def shiftP (N : Nat) : L → L
  | .ptr id i j => .ptr (N + id) i j
  | l => l
def shiftL (N : Nat) : L → L
  | .own id s n => .own (N + id) s n
  | .row id lo n => .row (N + id) lo n
  | .ptr id i j => .ptr (N + id) i j
  | .arow id i j n => .arow (N + id) i j n
  | .clo f ls => .clo f (ls.map (shiftP N))
  | l => l
def shiftC (N : Nat) : T → T
  | .leaf l => .leaf (shiftL N l)
  | .agg ls => .agg (ls.map (shiftL N))
  | .tup ts => .tup ts
def shiftT (N : Nat) : T → T
  | .leaf l => .leaf (shiftL N l)
  | .agg ls => .agg (ls.map (shiftL N))
  | .tup ts => .tup (ts.map (shiftC N))
def shiftB (N : Nat) (b : AB) : AB := ⟨b.t, b.s, b.es.map fun e => e.map (shiftL N)⟩
def newIds (N : Nat) (bl : List AB) : List (Nat × Option AB) := bl.zipIdx.map fun (b, i) => (N + i, some (shiftB N b))
def plainC : T → Bool
  | .leaf l => plainL l
  | .agg ls => ls.all plainL
  | .tup _ => false
def plainT : T → Bool
  | .leaf l => plainL l
  | .agg ls => ls.all plainL
  | .tup ts => ts.all plainC
def plainBs (bl : List AB) : Prop := ∀ b ∈ bl, ∀ e ∈ b.es, ∀ l ∈ e, plainL l = true

theorem newIds_at {N : Nat} {bl : List AB} {h : Heap} {i : Nat} {b : AB} (hb : bl[i]? = some b) : upd h (newIds N bl) (N + i) = some (some (shiftB N b)) := by
  have : (newIds N bl).lookup (N + i) = some (some (shiftB N b)) := by
    have key : ∀ (l : List AB) (k j : Nat), l[j]? = some b → ((l.zipIdx k).map fun (b, i) => (N + i, some (shiftB N b))).lookup (N + (k + j)) = some (some (shiftB N b)) := by
      intro l
      induction l with
      | nil => intro k j h; simp at h
      | cons x l ih =>
        intro k j h
        simp only [List.zipIdx_cons, List.map_cons, List.lookup_cons]
        rcases j with _ | j
        · simp at h; subst h; simp
        · have hne : (N + (k + (j + 1)) == N + k) = false := by simp
          rw [hne]
          have := ih (k + 1) j (by simpa using h)
          rw [show N + (k + (j + 1)) = N + (k + 1 + j) by omega]
          exact this
    have := key bl 0 i hb
    simpa [newIds] using this
  simp [upd, this]
theorem newIds_off {N : Nat} {bl : List AB} {h : Heap} {i : Nat} (hi : i < N ∨ N + bl.length ≤ i) : upd h (newIds N bl) i = h i := by
  refine upd_at fun hm => ?_
  simp only [newIds, List.map_map, List.mem_map] at hm
  obtain ⟨⟨b, k⟩, hk, he⟩ := hm
  have := List.mem_zipIdx hk
  simp at he this
  omega
theorem newIds_wids {N : Nat} {bl : List AB} {i : Nat} (h1 : N ≤ i) (h2 : i < N + bl.length) : i ∈ (newIds N bl).map (·.1) := by
  simp only [newIds, List.map_map, List.mem_map]
  have hlt : i - N < bl.length := by omega
  refine ⟨(bl[i - N], i - N), ?_, by simp; omega⟩
  rw [List.mem_zipIdx_iff_getElem?]
  simp [hlt]

section
variable {h : Heap} {μ : Pos} {w : World}
theorem joined {N : Nat} {bl : List AB} {w' : World} {μr : Pos} {B : Nat → Prop} (I : Inv Γ h μ w) (hN : ∀ i, N ≤ i → i < N + bl.length → h i = none) (hb : Below w.heap.size w w') (J : Inv (Cx B w.heap.size) (hOf (bl.map some)) μr w')
    (al : (∀ b, B b → PerG Γ h μ w b) ∨ plainBs bl) :
    Evo h μ w (upd h (newIds N bl)) (fun i => if N ≤ i ∧ i < N + bl.length then μr (i - N) else μ i) w' ∧ Inv Γ (upd h (newIds N bl)) (fun i => if N ≤ i ∧ i < N + bl.length then μr (i - N) else μ i) w' ∧
    ∀ l u, RX (Cx B w.heap.size) (hOf (bl.map some)) μr w' l u → ((∀ b, B b → PerG Γ h μ w b) ∨ plainL l = true) → RX Γ (upd h (newIds N bl)) (fun i => if N ≤ i ∧ i < N + bl.length then μr (i - N) else μ i) w' (shiftL N l) u := by
  have hold : ∀ i, h i ≠ none → upd h (newIds N bl) i = h i ∧ ¬ (N ≤ i ∧ i < N + bl.length) := fun i hi => by
    have : ¬ (N ≤ i ∧ i < N + bl.length) := fun hh => hi (hN i hh.1 hh.2)
    exact ⟨newIds_off (by omega), this⟩
  have hblk : ∀ i a g, h i = some (some a) → μ i = some g → g < w.heap.size := fun i a g hh hg => by
    rcases I.at_ i a hh with ⟨_, r⟩ | ⟨g', cur, hg', hw, _⟩
    · rw [hg] at r; cases r
    · rw [hg] at hg'; cases hg'
      exact (Array.getElem?_eq_some_iff.1 hw).1
  have hat : ∀ i b, bl[i]? = some b → hOf (bl.map some) i = some (some b) := fun i b hh => by simp [hOf, hh]
  have hinv : ∀ i b, hOf (bl.map some) i = some (some b) → bl[i]? = some b := fun i b hh => by
    simp only [hOf, List.getElem?_map] at hh
    obtain ⟨x, hx, he⟩ := Option.map_eq_some_iff.1 hh
    injection he with he; subst he; exact hx
  have hnone : ∀ i, hOf (bl.map some) i = some none → False := fun i hh => by
    simp only [hOf, List.getElem?_map] at hh
    obtain ⟨x, hx, he⟩ := Option.map_eq_some_iff.1 hh
    cases he
  have hnew : ∀ i b, upd h (newIds N bl) i = some (some b) → (N ≤ i ∧ i < N + bl.length) → ∃ a, bl[i - N]? = some a ∧ b = shiftB N a := fun i b hh hr => by
    have hlt : i - N < bl.length := by omega
    have := newIds_at (N := N) (h := h) (List.getElem?_eq_getElem hlt)
    rw [show N + (i - N) = i by omega, hh] at this
    injection this with this; injection this with this
    exact ⟨_, List.getElem?_eq_getElem hlt, this⟩
  have hout : ∀ i b, upd h (newIds N bl) i = some (some b) → ¬ (N ≤ i ∧ i < N + bl.length) → h i = some (some b) := fun i b hh hr => by
    rw [newIds_off (by omega)] at hh; exact hh
  have E : Evo h μ w (upd h (newIds N bl)) (fun i => if N ≤ i ∧ i < N + bl.length then μr (i - N) else μ i) w' := by
    refine ⟨hb.os, hb.tape, hb.output, hb.size, fun b hp => ⟨hb.block b hp.1, fun i a hh => ?_⟩, fun i a hh => .inr ⟨a, ?_, rfl, rfl, rfl, ?_, fun g cur hg hw => ⟨cur, ?_, rfl⟩⟩, fun i hh => ?_⟩
    · by_cases hr : N ≤ i ∧ i < N + bl.length
      · simp only [hr, and_self, if_true]
        obtain ⟨a', ha, _⟩ := hnew i a hh hr
        intro hg
        have := Cx_O (J.own _ a' b (hat _ _ ha) hg)
        have := hp.1
        simp at *; omega
      · simp only [hr, if_false]; exact hp.2 i a (hout i a hh hr)
    · rw [(hold i (by rw [hh]; simp)).1]; exact hh
    · simp only [(hold i (by rw [hh]; simp)).2, if_false]
    · rw [hb.block g (hblk i a g hh hg)]; exact hw
    · rw [(hold i (by rw [hh]; simp)).1]; exact hh
  have hPer : ∀ b, (∀ b, B b → PerG Γ h μ w b) → PerG (Cx B w.heap.size) (hOf (bl.map some)) μr w' b → PerG Γ (upd h (newIds N bl)) (fun i => if N ≤ i ∧ i < N + bl.length then μr (i - N) else μ i) w' b := fun b hB hp => by
    have hcase : PerG Γ h μ w b ∨ w.heap.size ≤ b := hp.2.imp (hB b) (fun h => Cx_O h)
    refine ⟨⟨hp.1.1, fun i a hh => ?_⟩, ?_⟩
    · by_cases hr : N ≤ i ∧ i < N + bl.length
      · simp only [hr, and_self, if_true]
        obtain ⟨a', ha, _⟩ := hnew i a hh hr
        exact hp.1.2 _ a' (hat _ _ ha)
      · simp only [hr, if_false]
        rcases hcase with h1 | h1
        · exact h1.1.2 i a (hout i a hh hr)
        · intro hg
          have := hblk i a b (hout i a hh hr) hg
          omega
    · rcases hcase with h1 | h1
      · exact h1.2
      · exact .inr (.inl (Nat.le_trans I.base h1))
  have hRX : ∀ l u, RX (Cx B w.heap.size) (hOf (bl.map some)) μr w' l u → ((∀ b, B b → PerG Γ h μ w b) ∨ plainL l = true) → RX Γ (upd h (newIds N bl)) (fun i => if N ≤ i ∧ i < N + bl.length then μr (i - N) else μ i) w' (shiftL N l) u := fun l u r hc => by
    have inside : ∀ i b, bl[i]? = some b → N ≤ N + i ∧ N + i < N + bl.length := fun i b hh => by
      have := (List.getElem?_eq_some_iff.1 hh).1; omega
    cases l with
    | own id s n =>
      rcases r with hd | ⟨ab, h1, hs, hn, r⟩
      · exact (hnone _ hd).elim
      · have hbi := hinv _ _ h1
        refine .inr ⟨shiftB N ab, newIds_at hbi, hs, by simp [shiftB, hn], ?_⟩
        simp only [inside id ab hbi, and_self, if_true, Nat.add_sub_cancel_left]
        exact r
    | row id lo n =>
      rcases r with hd | ⟨ab, h1, hl, A, c, hu, hc', hg⟩
      · exact (hnone _ hd).elim
      · have hbi := hinv _ _ h1
        refine .inr ⟨shiftB N ab, newIds_at hbi, by simp [shiftB, hl], A, c, hu, hc', ?_⟩
        simp only [inside id ab hbi, and_self, if_true, Nat.add_sub_cancel_left]
        exact hg
    | ptr id i j =>
      rcases r with hd | ⟨ab, h1, g, hg, hu⟩
      · exact (hnone _ hd).elim
      · have hbi := hinv _ _ h1
        refine .inr ⟨shiftB N ab, newIds_at hbi, g, ?_, hu⟩
        simp only [inside id ab hbi, and_self, if_true, Nat.add_sub_cancel_left]
        exact hg
    | arow id i j n =>
      rcases r with hd | ⟨ab, h1, hil, hjn, A, c, hu, hc', hg⟩
      · exact (hnone _ hd).elim
      · have hbi := hinv _ _ h1
        refine .inr ⟨shiftB N ab, newIds_at hbi, by simp [shiftB, hil], hjn, A, c, hu, hc', ?_⟩
        simp only [inside id ab hbi, and_self, if_true, Nat.add_sub_cancel_left]
        exact hg
    | clo f ls =>
      obtain ⟨cs, hu, hs, hr⟩ := r
      refine ⟨cs, hu, by simp [hs], fun k l hl => ?_⟩
      rw [List.getElem?_map] at hl
      obtain ⟨l0, hl0, rfl⟩ := Option.map_eq_some_iff.1 hl
      have h1 := hr k l0 hl0
      have h2 : (∀ b, B b → PerG Γ h μ w b) ∨ plainP l0 = true := hc.imp (fun h => h) fun h => List.all_eq_true.1 h l0 (List.mem_of_getElem? hl0)
      cases l0 with
      | ptr id i j =>
        rcases h1 with hd | ⟨ab, h1, g, hg, hu⟩
        · exact (hnone _ hd).elim
        · have hbi := hinv _ _ h1
          refine .inr ⟨shiftB N ab, newIds_at hbi, g, ?_, hu⟩
          simp only [inside id ab hbi, and_self, if_true, Nat.add_sub_cancel_left]
          exact hg
      | sc v => cases h1; exact RL.sc _
      | _ =>
        rcases h2 with h2 | h2
        · exact RL.keep (fun b hb => ⟨hPer b h2 hb, rfl⟩) h1
        · simp [plainP] at h2
    | mp es =>
      rcases hc with hc | hc
      · exact RL.keep (fun b hb => ⟨hPer b hc hb, rfl⟩) r
      · simp [plainL] at hc
    | any => trivial
    | bb p => exact r
    | sc v => cases r; exact RL.sc _
    | sl es =>
      rcases hc with hc | hc
      · exact RL.keep (fun b hb => ⟨hPer b hc hb, rfl⟩) r
      · simp [plainL] at hc
    | pp cs =>
      rcases hc with hc | hc
      · exact RL.keep (fun b hb => ⟨hPer b hc hb, rfl⟩) r
      · simp [plainL] at hc
  refine ⟨E, ⟨fun i a hh => ?_, fun i a hh => ?_, fun i j a b g h1 h2 g1 g2 => ?_, Nat.le_trans I.base hb.size, fun i a g hh hg => ?_⟩, hRX⟩
  · by_cases hr : N ≤ i ∧ i < N + bl.length
    · obtain ⟨a', ha, rfl⟩ := hnew i a hh hr
      intro e he
      simp only [shiftB, List.mem_map] at he
      obtain ⟨e', he', rfl⟩ := he
      rw [List.length_map]
      exact J.len _ a' (hat _ _ ha) e' he'
    · exact I.len i a (hout i a hh hr)
  · by_cases hr : N ≤ i ∧ i < N + bl.length
    · obtain ⟨a', ha, rfl⟩ := hnew i a hh hr
      simp only [hr, and_self, if_true]
      rcases J.at_ _ a' (hat _ _ ha) with ⟨r1, r2⟩ | ⟨g, cur, hg, hw, hl, hx⟩
      · exact .inl ⟨by simp [shiftB, r1], r2⟩
      · refine .inr ⟨g, cur, hg, hw, by simpa [shiftB] using hl, fun k e j l he hl' => ?_⟩
        simp only [shiftB, List.getElem?_map] at he
        obtain ⟨e', he', rfl⟩ := Option.map_eq_some_iff.1 he
        rw [List.getElem?_map] at hl'
        obtain ⟨l', hl'', rfl⟩ := Option.map_eq_some_iff.1 hl'
        obtain ⟨u, hu, h1, h2⟩ := hx k e' j l' he' hl''
        exact ⟨u, hu, h1, hRX l' u h2 (al.imp (fun h => h) fun hp => hp a' (List.mem_of_getElem? ha) e' (List.mem_of_getElem? he') l' (List.mem_of_getElem? hl''))⟩
    · simp only [hr, if_false]
      have hh' := hout i a hh hr
      rcases I.at_ i a hh' with r | ⟨g, cur, hg, hw, hl, hx⟩
      · exact .inl r
      · exact .inr ⟨g, cur, hg, by rw [hb.block g (hblk i a g hh' hg)]; exact hw, hl, fun k e j l he hl' => by obtain ⟨u, hu, h1⟩ := hx k e j l he hl'; exact ⟨u, hu, h1.evo E⟩⟩
  · by_cases hr : N ≤ i ∧ i < N + bl.length
    · obtain ⟨a', ha, _⟩ := hnew i a h1 hr
      simp only [hr, and_self, if_true] at g1
      by_cases hq : N ≤ j ∧ j < N + bl.length
      · obtain ⟨b', hb', _⟩ := hnew j b h2 hq
        simp only [hq, and_self, if_true] at g2
        have := J.inj _ _ a' b' g (hat _ _ ha) (hat _ _ hb') g1 g2
        omega
      · simp only [hq, if_false] at g2
        have k1 := Cx_O (J.own _ a' g (hat _ _ ha) g1)
        have k2 := hblk j b g (hout j b h2 hq) g2
        omega
    · simp only [hr, if_false] at g1
      by_cases hq : N ≤ j ∧ j < N + bl.length
      · obtain ⟨b', hb', _⟩ := hnew j b h2 hq
        simp only [hq, and_self, if_true] at g2
        have k1 := Cx_O (J.own _ b' g (hat _ _ hb') g2)
        have k2 := hblk i a g (hout i a h1 hr) g1
        omega
      · simp only [hq, if_false] at g2
        exact I.inj i j a b g (hout i a h1 hr) (hout j b h2 hq) g1 g2
  · by_cases hr : N ≤ i ∧ i < N + bl.length
    · obtain ⟨a', ha, _⟩ := hnew i a hh hr
      simp only [hr, and_self, if_true] at hg
      have := Cx_O (J.own _ a' g (hat _ _ ha) hg)
      exact .inl (Nat.le_trans I.base this)
    · simp only [hr, if_false] at hg
      exact I.own i a g (hout i a hh hr) hg
end

section
variable {P : Program} {o : Oper} {tm : List T} {h : Heap} {μ : Pos} {w : World}
theorem RT.shift {N : Nat} {h h' : Heap} {μ μ' : Pos} {w' : World} {Γ' : Ctx} {r : T} {v : Value} (c : Prop) (hL : ∀ l u, RX Γ' h μ w' l u → (c ∨ plainL l = true) → RX Γ h' μ' w' (shiftL N l) u) (rr : RT Γ' h μ w' r v) (hp : c ∨ plainT r = true) : RT Γ h' μ' w' (shiftT N r) v := by
  have agg : ∀ (ls : List L) (v : Value), RC Γ' h μ w' (.agg ls) v → (c ∨ ls.all plainL = true) → RC Γ h' μ' w' (.agg (ls.map (shiftL N))) v := by
    rintro ls v ⟨cs, hu, hs, hr⟩ hc
    refine ⟨cs, hu, by simp [hs], fun j l hl => ?_⟩
    rw [List.getElem?_map] at hl
    obtain ⟨l', hl', rfl⟩ := Option.map_eq_some_iff.1 hl
    obtain ⟨u, h1, h2, h3⟩ := hr j l' hl'
    exact ⟨u, h1, h2, hL l' u h3 (hc.imp (fun h => h) fun h => List.all_eq_true.1 h l' (List.mem_of_getElem? hl'))⟩
  cases r with
  | leaf l => exact hL l v rr hp
  | agg ls => exact agg ls v rr hp
  | tup ts =>
    obtain ⟨vs, hu, hs, hr⟩ := rr
    refine ⟨vs, hu, by simp [hs], fun j t ht => ?_⟩
    rw [List.getElem?_map] at ht
    obtain ⟨t', ht', rfl⟩ := Option.map_eq_some_iff.1 ht
    obtain ⟨u, h1, h2⟩ := hr j t' ht'
    refine ⟨u, h1, ?_⟩
    have hc : c ∨ plainC t' = true := hp.imp (fun h => h) fun h => List.all_eq_true.1 h t' (List.mem_of_getElem? ht')
    cases t' with
    | leaf l => exact hL l u h2 hc
    | agg ls => exact agg ls u h2 hc
    | tup ts => exact h2.elim

/-- A call of a Go function. -/
theorem globs_in (I : Inv Γ h μ w) {tm : List T} {a : Array Value} (F : FrameR Γ h μ w tm a) {B : Nat → Prop} (hB : (∀ b, PerG Γ h μ w b → B b)) : Globs (Cx B w.heap.size) h0 μ0 w := fun g vs hg =>
  RL.keep (fun b hb => ⟨⟨⟨hb.1.1, fun id ab hh => (by cases hh)⟩, .inl (hB b hb)⟩, rfl⟩) (F.1.2 g vs hg)
theorem op_call {f : FuncId} {fx : Operand} {xs : Array Operand} {ats : Array TypeId} {fn : Func} {c : Code} {vs : List T} {bl : List AB} {r : T} {N : Nat} (ids : List Nat) (ho : o.op = .call { callee := .value fx, args := xs, argTypes := ats }) (hfx : evalT tm fx = .leaf (.sc (.func (.func f) #[] #[])))
    (hf : P.funcs[f]? = some fn) (hname : (fn.name == "runtime.NumGoroutine") = false) (hbody : fn.body = some c) (hc : PC P f vs bl r) (hN : ∀ i, N ≤ i → i < N + bl.length → h i = none)
    (hlen : xs.size = vs.length)
    (hargs : (∀ (k : Nat) (x : Operand) (v : T), xs[k]? = some x → vs[k]? = some v → persT v = true ∧ evalT tm x = v) ∨
      (plainT r = true ∧ plainBs bl ∧ ∀ (k : Nat) (x : Operand) (v : T), xs[k]? = some x → vs[k]? = some v → ∀ h', (∀ id ∈ ids, h' id = h id) → ViewT h' (evalT tm x) v)) :
    OpT Γ P o tm h ⟨shiftT N r, ids, newIds N bl⟩ := by
  intro tm' h' μ a w g1 g2 I F K Q hK
  have hN' : ∀ i, N ≤ i → i < N + bl.length → h' i = none := fun i h1 h2 => by
    rw [g2 i (by simp only [Eff.ids, Eff.wids, List.mem_append]; exact .inr (newIds_wids h1 h2))]; exact hN i h1 h2
  have rf := F.at' g1 (x := fx) (by simp [ho, Op.operands, Call.operands])
  rw [hfx] at rf
  have hfv := RT.sc_inv rf
  have harg : ∀ k x, xs[k]? = some x → RT Γ h' μ w (evalT tm x) (a.eval x) := fun k x hx => F.at' g1 (by
    simp only [ho, Op.operands, Call.operands, Array.mem_append]; exact .inr (Array.mem_of_getElem? hx))
  have hmap : ∀ k, k < vs.length → ∃ x, xs[k]? = some x ∧ (xs.map a.eval).getD k undef = a.eval x := fun k hk => by
    have hk' : k < xs.size := by omega
    exact ⟨xs[k], Array.getElem?_eq_getElem hk', by simp [hk']⟩
  unfold Oper.wp
  have hexec : (execOp a.eval o).run P w = .ok (.enter f (xs.map a.eval)) w := by
    have h1 : fn.name ≠ "runtime.NumGoroutine" := by simpa using hname
    simp [execOp, ho, resolve, hfv, Deferred.ofValue, invoke, callFunc, hf, h1, hbody]
  rw [hexec]
  show Calls P f (xs.map a.eval) w _
  rcases hargs with hp | ⟨hpr, hpb, hv⟩
  · refine (hc (PerG Γ h' μ w) (xs.map a.eval) w (globs_in I F fun b hb => hb) (by simp [hlen]) (fun k t ht => ?_)).mono ?_
    · obtain ⟨x, hx, he⟩ := hmap k (List.getElem?_eq_some_iff.1 ht).1
      obtain ⟨h1, h2⟩ := hp k x t hx ht
      rw [he]
      have := harg k x hx
      rw [h2] at this
      exact persT.read h1 this
    · rintro e w' ⟨v, μr, rfl, hb, J, rr⟩
      obtain ⟨E, I', hL⟩ := joined I hN' hb J (.inl fun b hb => hb)
      exact hK v _ w' E I' (RT.shift _ hL rr (.inl fun b hb => hb))
  · refine (hc (fun _ => True) (xs.map a.eval) w (globs_in I F fun b hb => trivial) (by simp [hlen]) (fun k t ht => ?_)).mono ?_
    · obtain ⟨x, hx, he⟩ := hmap k (List.getElem?_eq_some_iff.1 ht).1
      rw [he]
      exact (hv k x t hx ht h' (fun id hid => g2 id (by simp [Eff.ids, hid]))).read I (harg k x hx) fun _ _ => trivial
    · rintro e w' ⟨v, μr, rfl, hb, J, rr⟩
      obtain ⟨E, I', hL⟩ := joined I hN' hb J (.inr hpb)
      exact hK v _ w' E I' (RT.shift _ hL rr (.inr hpr))
/-- A call of a closure: what it has captured stands behind its arguments. -/
theorem op_callC {f : FuncId} {fx : Operand} {xs : Array Operand} {ats : Array TypeId} {fn : Func} {c : Code} {ls cv : List L} {vs : List T} {bl : List AB} {r : T} {N : Nat} (ids : List Nat) (ho : o.op = .call { callee := .value fx, args := xs, argTypes := ats }) (hfx : evalT tm fx = .leaf (.clo f ls))
    (hf : P.funcs[f]? = some fn) (hname : (fn.name == "runtime.NumGoroutine") = false) (hbody : fn.body = some c) (hc : PC P f (vs ++ cv.map .leaf) bl r) (hN : ∀ i, N ≤ i → i < N + bl.length → h i = none)
    (hlen : xs.size = vs.length) (hlc : ls.length = cv.length)
    (hargs : ((∀ (k : Nat) (x : Operand) (v : T), xs[k]? = some x → vs[k]? = some v → persT v = true ∧ evalT tm x = v) ∧ ls = cv ∧ ls.all persP = true) ∨
      (plainT r = true ∧ plainBs bl ∧ (∀ (k : Nat) (x : Operand) (v : T), xs[k]? = some x → vs[k]? = some v → ∀ h', (∀ id ∈ ids, h' id = h id) → ViewT h' (evalT tm x) v) ∧
        ∀ h', (∀ id ∈ ids, h' id = h id) → ∀ (j : Nat) (l l' : L), ls[j]? = some l → cv[j]? = some l' → ViewP h' l l')) :
    OpT Γ P o tm h ⟨shiftT N r, ids, newIds N bl⟩ := by
  intro tm' h' μ a w g1 g2 I F K Q hK
  have hN' : ∀ i, N ≤ i → i < N + bl.length → h' i = none := fun i h1 h2 => by
    rw [g2 i (by simp only [Eff.ids, Eff.wids, List.mem_append]; exact .inr (newIds_wids h1 h2))]; exact hN i h1 h2
  have rf := F.at' g1 (x := fx) (by simp [ho, Op.operands, Call.operands])
  rw [hfx] at rf
  obtain ⟨cs, hfv, hcs, hcr⟩ := rf
  have harg : ∀ k x, xs[k]? = some x → RT Γ h' μ w (evalT tm x) (a.eval x) := fun k x hx => F.at' g1 (by
    simp only [ho, Op.operands, Call.operands, Array.mem_append]; exact .inr (Array.mem_of_getElem? hx))
  have hmap : ∀ k, k < vs.length → ∃ x, xs[k]? = some x ∧ (xs.map a.eval ++ cs).getD k undef = a.eval x := fun k hk => by
    have hk' : k < xs.size := by omega
    refine ⟨xs[k], Array.getElem?_eq_getElem hk', ?_⟩
    simp only [Array.getD_eq_getD_getElem?]
    rw [Array.getElem?_append_left (by simpa using hk')]
    simp [hk']
  have hmapc : ∀ k, vs.length ≤ k → (xs.map a.eval ++ cs).getD k undef = cs.getD (k - vs.length) undef := fun k hk => by
    simp only [Array.getD_eq_getD_getElem?]
    rw [Array.getElem?_append_right (by simp; omega)]
    simp [hlen]
  have hsplit : ∀ (k : Nat) (t : T), (vs ++ cv.map T.leaf)[k]? = some t → (k < vs.length ∧ vs[k]? = some t) ∨ (vs.length ≤ k ∧ ∃ l, cv[k - vs.length]? = some l ∧ t = .leaf l) := fun k t ht => by
    rcases Nat.lt_or_ge k vs.length with hk | hk
    · rw [List.getElem?_append_left hk] at ht; exact .inl ⟨hk, ht⟩
    · rw [List.getElem?_append_right hk, List.getElem?_map] at ht
      obtain ⟨l, hl, rfl⟩ := Option.map_eq_some_iff.1 ht
      exact .inr ⟨hk, l, hl, rfl⟩
  unfold Oper.wp
  have hexec : (execOp a.eval o).run P w = .ok (.enter f (xs.map a.eval ++ cs)) w := by
    have h1 : fn.name ≠ "runtime.NumGoroutine" := by simpa using hname
    simp [execOp, ho, resolve, hfv, Deferred.ofValue, invoke, callFunc, hf, h1, hbody]
  rw [hexec]
  show Calls P f (xs.map a.eval ++ cs) w _
  have hsz : (xs.map a.eval ++ cs).size = (vs ++ cv.map T.leaf).length := by simp [hlen, hcs, hlc]
  rcases hargs with ⟨hp, rfl, hpc⟩ | ⟨hpr, hpb, hv, hvc⟩
  · refine (hc (PerG Γ h' μ w) (xs.map a.eval ++ cs) w (globs_in I F fun b hb => hb) hsz (fun k t ht => ?_)).mono ?_
    · rcases hsplit k t ht with ⟨hk, ht⟩ | ⟨hk, l, hl, rfl⟩
      · obtain ⟨x, hx, he⟩ := hmap k hk
        obtain ⟨h1, h2⟩ := hp k x t hx ht
        rw [he]
        have := harg k x hx
        rw [h2] at this
        exact persT.read h1 this
      · rw [hmapc k hk]
        have hl1 := hcr _ l hl
        have hl2 : persP l = true := List.all_eq_true.1 hpc l (List.mem_of_getElem? hl)
        refine persT.read (t := .leaf l) ?_ hl1.rx
        cases l <;> first | rfl | (simp [persP] at hl2)
    · rintro e w' ⟨v, μr, rfl, hb, J, rr⟩
      obtain ⟨E, I', hL⟩ := joined I hN' hb J (.inl fun b hb => hb)
      exact hK v _ w' E I' (RT.shift _ hL rr (.inl fun b hb => hb))
  · refine (hc (fun _ => True) (xs.map a.eval ++ cs) w (globs_in I F fun b hb => trivial) hsz (fun k t ht => ?_)).mono ?_
    · rcases hsplit k t ht with ⟨hk, ht⟩ | ⟨hk, l', hl', rfl⟩
      · obtain ⟨x, hx, he⟩ := hmap k hk
        rw [he]
        exact (hv k x t hx ht h' (fun id hid => g2 id (by simp [Eff.ids, hid]))).read I (harg k x hx) fun _ _ => trivial
      · rw [hmapc k hk]
        have hkl : k - vs.length < ls.length := by rw [hlc]; exact (List.getElem?_eq_some_iff.1 hl').1
        have hl := List.getElem?_eq_getElem hkl
        have hl1 := hcr _ _ hl
        have hv1 := hvc h' (fun id hid => g2 id (by simp [Eff.ids, hid])) _ _ l' hl hl'
        generalize ls[k - vs.length] = l at hl1 hv1
        rcases hv1 with ⟨rfl, hp1⟩ | ⟨ds, rfl, hb1, hall⟩
        · have : RX Γ h' μ w l (cs.getD (k - vs.length) undef) := hl1.rx
          exact (ViewL.same (h := h') l (by cases l <;> first | rfl | (simp [persP] at hp1))).read I this fun _ _ => trivial
        · exact RL.rx (behind_read I hl1.rx hb1 hall fun _ _ => trivial)
    · rintro e w' ⟨v, μr, rfl, hb, J, rr⟩
      obtain ⟨E, I', hL⟩ := joined I hN' hb J (.inr hpb)
      exact hK v _ w' E I' (RT.shift _ hL rr (.inr hpr))
end

theorem upd_cons' {h : Heap} {id : Nat} {x : Option AB} {ws : List (Nat × Option AB)} (hn : id ∉ ws.map (·.1)) : upd h ((id, x) :: ws) = upd (upd h [(id, x)]) ws := by
  funext i
  by_cases hi : i = id
  · subst hi
    rw [upd_at hn, upd_one, if_pos rfl]
    simp [upd]
  · have : (i == id) = false := by simp [hi]
    simp only [upd, List.lookup, this]
/-! ### A row that is written no more -/
def frzL (id : Nat) (es : List (List L)) (l : L) : L := match l with
  | .own id' s n => if id' = id then .sl es else .own id' s n
  | l => l
def frzC (id : Nat) (es : List (List L)) : T → T
  | .leaf l => .leaf (frzL id es l)
  | .agg ls => .agg (ls.map (frzL id es))
  | .tup ts => .tup ts
def frzT (id : Nat) (es : List (List L)) : T → T
  | .leaf l => .leaf (frzL id es l)
  | .agg ls => .agg (ls.map (frzL id es))
  | .tup ts => .tup (ts.map (frzC id es))
section
variable {h : Heap} {μ : Pos} {w : World}
theorem frz_RX (I : Inv Γ h μ w) {id : Nat} {ab : AB} (hi : h id = some (some ab)) (hall : allP ab.es) {l : L} {u : Value} (r : RX Γ h μ w l u) : RX Γ (upd h [(id, none)]) μ w (frzL id ab.es l) u := by
  obtain ⟨E, I1⟩ := killed I hi
  have other : RX Γ (upd h [(id, none)]) μ w l u := r.evo E
  cases l with
  | own id' s n =>
    simp only [frzL]
    split
    · rename_i he
      subst he
      have keep : ∀ b, PerG Γ h μ w b → PerG Γ (upd h [(id', none)]) μ w b ∧ w.heap[b]? = w.heap[b]? := fun b hb => ⟨⟨E.perm hb.1, hb.2⟩, rfl⟩
      rcases r with hd | ⟨ab2, k1, k2, k3, r⟩
      · rw [hi] at hd; cases hd
      · rw [hi] at k1; injection k1 with k1; injection k1 with k1; subst k1
        rcases r with ⟨rfl, A, rfl⟩ | ⟨g, cap, cur, hg, rfl, hw, hcs, hc, hm⟩
        · have h0 : ab.es = [] := List.eq_nil_of_length_eq_zero k3
          rw [h0]
          exact RL.sl [] A 0 0 0 (fun _ _ => undef) rfl (Nat.zero_le _) (fun e he => (by cases he)) (fun i e j l he => (by simp at he)) (fun i e j l he => (by simp at he)) (fun i e j l he => (by simp at he)) (fun _ => rfl)
        · rcases I.at_ id' ab hi with ⟨h0, r2⟩ | ⟨g', cur', hg', hw', hl', hr'⟩
          · rw [hg] at r2; cases r2
          · rw [hg] at hg'; cases hg'
            rw [hw] at hw'; cases hw'
            have hG : PerG Γ (upd h [(id', none)]) μ w g := by
              refine ⟨⟨(Array.getElem?_eq_some_iff.1 hw).1, fun k a hk hkg => ?_⟩, .inr (I.own id' ab g hi hg)⟩
              rw [upd_one] at hk
              split at hk
              · cases hk
              · rename_i hne
                exact hne (I.inj k id' a ab g hk hi hkg hg)
            refine RL.sl ab.es _ _ cap ab.s (fun i j => cur.getD (i * ab.s + j) undef) k3 hc (I.len id' ab hi) (fun i e j x he hx => ?_) (fun i e j x he hx => ?_) (fun i e j x he hx => ?_) (fun h => by cases h) <;>
              obtain ⟨u, hu, m1, m2⟩ := hr' i e j x he hx
            · refine ⟨_, rfl, hG, ?_⟩
              rw [Addr_add_mid]
              have hlt := (Array.getElem?_eq_some_iff.1 hu).1
              simp [World.cell?, hw, hlt]
            · have hgd : cur.getD (i * ab.s + j) undef = u := by
                have hlt := (Array.getElem?_eq_some_iff.1 hu).1
                have := (Array.getElem?_eq_some_iff.1 hu).2
                simp [hlt, this]
              rw [hgd]
              exact RL.keep keep (m2.pers (hall e (List.mem_of_getElem? he) x (List.mem_of_getElem? hx)))
            · have hgd : cur.getD (i * ab.s + j) undef = u := by
                have hlt := (Array.getElem?_eq_some_iff.1 hu).1
                have := (Array.getElem?_eq_some_iff.1 hu).2
                simp [hlt, this]
              rw [hgd]; exact m1
    · exact other
  | _ => exact other
theorem frz_RC (I : Inv Γ h μ w) {id : Nat} {ab : AB} (hi : h id = some (some ab)) (hall : allP ab.es) {t : T} {u : Value} (r : RC Γ h μ w t u) : RC Γ (upd h [(id, none)]) μ w (frzC id ab.es t) u := by
  cases t with
  | leaf l => exact frz_RX I hi hall r
  | agg ls =>
    obtain ⟨cs, hu, hs, hr⟩ := r
    refine ⟨cs, hu, by simp [hs], fun j l hl => ?_⟩
    rw [List.getElem?_map] at hl
    obtain ⟨l', hl', rfl⟩ := Option.map_eq_some_iff.1 hl
    obtain ⟨v, k1, k2, k3⟩ := hr j l' hl'
    exact ⟨v, k1, k2, frz_RX I hi hall k3⟩
  | tup ts => exact r
theorem frz_RT (I : Inv Γ h μ w) {id : Nat} {ab : AB} (hi : h id = some (some ab)) (hall : allP ab.es) {t : T} {u : Value} (r : RT Γ h μ w t u) : RT Γ (upd h [(id, none)]) μ w (frzT id ab.es t) u := by
  cases t with
  | leaf l => exact frz_RC (t := .leaf l) I hi hall r
  | agg ls => exact frz_RC (t := .agg ls) I hi hall r
  | tup ts =>
    obtain ⟨vs, hu, hs, hr⟩ := r
    refine ⟨vs, hu, by simp [hs], fun j t ht => ?_⟩
    rw [List.getElem?_map] at ht
    obtain ⟨t', ht', rfl⟩ := Option.map_eq_some_iff.1 ht
    obtain ⟨v, k1, k2⟩ := hr j t' ht'
    exact ⟨v, k1, frz_RC I hi hall k2⟩
end
theorem evalT_frz (id : Nat) (es : List (List L)) (tm : List T) (x : Operand) : evalT (tm.map (frzT id es)) x = frzT id es (evalT tm x) := by
  cases x with
  | tmp t =>
    simp only [evalT, List.getElem?_map]
    cases tm[t]? <;> rfl
  | const v =>
    cases v with
    | agg cs =>
      simp only [evalT]
      split
      · simp only [frzT, List.map_map]
        rfl
      · rfl
    | _ => rfl
  | global g =>
    simp only [evalT]
    cases globs g <;> rfl
  | _ => rfl
theorem OpT.freeze {P : Program} {o : Oper} {tm : List T} {h : Heap} {e : Eff} {id : Nat} {ab : AB} (hi : h id = some (some ab)) (hall : allP ab.es) (hw : id ∉ e.wids) (hop : OpT Γ P o (tm.map (frzT id ab.es)) (upd h [(id, none)]) e) :
    OpT Γ P o tm h ⟨e.val, id :: e.reads, (id, none) :: e.writes⟩ := by
  intro tm' h' μ a w g1 g2 I F K Q hK
  have hi' : h' id = some (some ab) := by rw [g2 id (by simp [Eff.ids])]; exact hi
  obtain ⟨E, I1⟩ := killed I hi'
  refine hop (tm'.map (frzT id ab.es)) (upd h' [(id, none)]) μ a w (fun x hx => by rw [evalT_frz, evalT_frz, g1 x hx]) (fun k hk => ?_) I1 ⟨⟨by simp [F.1.1], F.1.2.evo E⟩, fun i t ht => ?_⟩ K Q fun v μ' w' E' I' r => hK v μ' w' ?_ ?_ ?_
  · rw [upd_one, upd_one]
    split
    · rfl
    · exact g2 k (by
        simp only [Eff.ids, Eff.wids, List.mem_append, List.map_cons, List.mem_cons] at hk ⊢
        rcases hk with hk | hk
        · exact .inl (.inr hk)
        · exact .inr (.inr hk))
  · rw [List.getElem?_map] at ht
    obtain ⟨t', ht', rfl⟩ := Option.map_eq_some_iff.1 ht
    exact frz_RT I hi' hall (F.2 i t' ht')
  · rw [upd_cons' hw]; exact E.trans E'
  · rw [upd_cons' hw]; exact I'
  · rw [upd_cons' hw]; exact r
end Go.Proofs.Ytfppilpaaoklaaa
