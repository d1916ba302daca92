/- Plain values for what a Go text holds, and memory that it owns: the words, and what a step of the world leaves of them. -/
import Derived.WalkKit
import Derived.Laws.CopyOwn
import Derived.Deep.Slices
import Derived.KernelRfl
import Derived.Test.YtfppilpaaoklaaaG
namespace Go.Proofs.Ytfppilpaaoklaaa
set_option linter.unusedSimpArgs false
set_option linter.unusedVariables false
open Go Go.RowKit

theorem addBlk (p : Addr) (n : Nat) : (p.add n).block = p.block := by unfold Addr.add; split <;> rfl

/-- What one cell holds. -/
inductive L where
  | sc (v : Value)
  | sl (es : List (List L))
  | pp (cs : List L)
  | own (id s n : Nat)
  | row (id lo n : Nat)
  | ptr (id i j : Nat)
  | bb (p : Bool → Prop)
  | any
  | arow (id i j n : Nat)
  | clo (f : FuncId) (ls : List L)
  | mp (es : Array MapEntry)

/-- What a slot holds. -/
inductive T where
  | leaf (l : L)
  | agg (ls : List L)
  | tup (ts : List T)

/-- A block that the call owns: rows of s cells each. -/
structure AB where
  t : TypeId
  s : Nat
  es : List (List L)

/-- Of each number: not yet there, gone, or there. -/
abbrev Heap := Nat → Option (Option AB)
abbrev Pos := Nat → Option Nat

/-- What can be read for good. -/
inductive RL (B : Nat → Prop) (w : World) : L → Value → Prop
  | sc (v : Value) : RL B w (.sc v) v
  | sl (es : List (List L)) (A : Option Addr) (n c s : Nat) (cells : Nat → Nat → Value) (h1 : es.length = n) (h2 : n ≤ c) (h3 : ∀ e ∈ es, e.length = s)
      (h4 : ∀ i e j l, es[i]? = some e → e[j]? = some l → ∃ p, A = some p ∧ B p.block ∧ w.cell? (p.add (i * s + j)) = some (cells i j))
      (h5 : ∀ i e j l, es[i]? = some e → e[j]? = some l → RL B w l (cells i j)) (h6 : ∀ i e j l, es[i]? = some e → e[j]? = some l → (cells i j).oneCell' = true) (h7 : A = none → es = []) : RL B w (.sl es) (.slice A n c)
  | pp (cs : List L) (p : Addr) (cells : Nat → Value) (h4 : ∀ j l, cs[j]? = some l → B p.block ∧ w.cell? (p.add j) = some (cells j))
      (h5 : ∀ j l, cs[j]? = some l → RL B w l (cells j)) (h6 : ∀ j l, cs[j]? = some l → (cells j).oneCell' = true) : RL B w (.pp cs) (.pointer (some p))
  | clo (f : FuncId) (ls : List L) (cs : Array Value) (h1 : cs.size = ls.length) (h5 : ∀ j l, ls[j]? = some l → RL B w l (cs.getD j undef)) : RL B w (.clo f ls) (.func (.func f) #[] cs)
  | mp (es : Array MapEntry) (r clock : Nat) (h4 : B r ∧ w.heap[r]? = some (.map es clock)) : RL B w (.mp es) (.map (some r))

theorem RL.keep {B B' : Nat → Prop} {w w' : World} (hB : ∀ b, B b → B' b ∧ w'.heap[b]? = w.heap[b]?) {l : L} {v : Value} (h : RL B w l v) : RL B' w' l v := by
  induction h with
  | sc v => exact .sc v
  | sl es A n c s cells h1 h2 h3 h4 h5 h6 h7 ih =>
    refine .sl es A n c s cells h1 h2 h3 (fun i e j l he hl => ?_) ih h6 h7
    obtain ⟨p, hp, hb, hc⟩ := h4 i e j l he hl
    refine ⟨p, hp, (hB _ hb).1, ?_⟩
    rw [World.cell?_of_block (w := w) (by rw [addBlk]; exact (hB _ hb).2)]
    exact hc
  | pp cs p cells h4 h5 h6 ih =>
    refine .pp cs p cells (fun j l hl => ?_) ih h6
    obtain ⟨hb, hc⟩ := h4 j l hl
    refine ⟨(hB _ hb).1, ?_⟩
    rw [World.cell?_of_block (w := w) (by rw [addBlk]; exact (hB _ hb).2)]
    exact hc
  | clo f ls cs h1 h5 ih => exact .clo f ls cs h1 ih
  | mp es r clock h4 => exact .mp es r clock ⟨(hB _ h4.1).1, by rw [(hB _ h4.1).2]; exact h4.2⟩

def Per (h : Heap) (μ : Pos) (w : World) (b : Nat) : Prop := b < w.heap.size ∧ ∀ id ab, h id = some (some ab) → μ id ≠ some b

/-- What may be told in the end: what it was told of, and what came since. -/
structure Ctx where
  B : Nat → Prop
  base : Nat
  bi : List AB
  μi : Pos
  /-- In a round of a range over a function, or in none. -/
  md : Option Nat
/-- Nothing is handed in that may be written. -/
abbrev Cx (B : Nat → Prop) (n : Nat) : Ctx := ⟨B, n, [], fun _ => none, none⟩
/-- What was handed in, and may be written. -/
def Ctx.I (Γ : Ctx) (b : Nat) : Prop := ∃ j ab, Γ.bi[j]? = some ab ∧ Γ.μi j = some b
def Ctx.O (Γ : Ctx) (b : Nat) : Prop := Γ.base ≤ b ∨ Γ.I b
def Ctx.G (Γ : Ctx) (b : Nat) : Prop := Γ.B b ∨ Γ.O b
theorem Cx_I {B : Nat → Prop} {n b : Nat} : ¬ (Cx B n).I b := fun ⟨j, ab, h, _⟩ => by simp at h
theorem Cx_O {B : Nat → Prop} {n b : Nat} (h : (Cx B n).O b) : n ≤ b := h.resolve_right Cx_I
def PerG (Γ : Ctx) (h : Heap) (μ : Pos) (w : World) (b : Nat) : Prop := Per h μ w b ∧ Γ.G b
variable {Γ : Ctx}

/-- What a closure has captured: an address of the call's own, or what can be read for good. -/
def RP (Γ : Ctx) (h : Heap) (μ : Pos) (w : World) : L → Value → Prop
  | .ptr id i j, u => h id = some none ∨ ∃ ab, h id = some (some ab) ∧ ∃ g, μ id = some g ∧ u = .pointer (some ⟨g, i * ab.s + j, none⟩)
  | l, u => RL (PerG Γ h μ w) w l u
/-- What a cell of the call's own, or a slot, holds. -/
def RX (Γ : Ctx) (h : Heap) (μ : Pos) (w : World) : L → Value → Prop
  | .own id s n, u => h id = some none ∨ ∃ ab, h id = some (some ab) ∧ ab.s = s ∧ ab.es.length = n ∧
      ((n = 0 ∧ ∃ A, u = .slice A 0 0) ∨ ∃ g cap cur, μ id = some g ∧ u = .slice (some ⟨g, 0, none⟩) n cap ∧ w.heap[g]? = some (.cells cur ab.t (0, 0)) ∧ cur.size = cap * s ∧ n ≤ cap ∧ cap ≤ maxLen)
  | .row id lo n, u => h id = some none ∨ ∃ ab, h id = some (some ab) ∧ lo + n ≤ ab.es.length ∧
      ∃ A c, u = .slice A n c ∧ n ≤ c ∧ (0 < n → ∃ g, μ id = some g ∧ A = some ((⟨g, 0, none⟩ : Addr).add (lo * ab.s)))
  | .ptr id i j, u => h id = some none ∨ ∃ ab, h id = some (some ab) ∧ ∃ g, μ id = some g ∧ u = .pointer (some ⟨g, i * ab.s + j, none⟩)
  | .arow id i j n, u => h id = some none ∨ ∃ ab, h id = some (some ab) ∧ i < ab.es.length ∧ j + n ≤ ab.s ∧
      ∃ A c, u = .slice A n c ∧ n ≤ c ∧ (0 < n → ∃ g, μ id = some g ∧ A = some ⟨g, i * ab.s + j, none⟩)
  | .clo f ls, u => ∃ cs : Array Value, u = .func (.func f) #[] cs ∧ cs.size = ls.length ∧ ∀ (k : Nat) (l : L), ls[k]? = some l → RP Γ h μ w l (cs.getD k undef)
  | .any, _ => True
  | .bb p, u => ∃ b : Bool, u = .bool b ∧ p b
  | l, u => RL (PerG Γ h μ w) w l u

theorem RL.rp {h : Heap} {μ : Pos} {w : World} {l : L} {u : Value} (r : RL (PerG Γ h μ w) w l u) : RP Γ h μ w l u := by
  cases l with
  | ptr id i j => cases r
  | _ => exact r
theorem RL.rx {h : Heap} {μ : Pos} {w : World} {l : L} {u : Value} (r : RL (PerG Γ h μ w) w l u) : RX Γ h μ w l u := by
  cases l with
  | sc v => exact r
  | sl es => exact r
  | pp cs => exact r
  | mp es => exact r
  | clo f ls => cases r with | clo _ _ cs h1 h5 => exact ⟨cs, rfl, h1, fun k l hl => (h5 k l hl).rp⟩
  | _ => cases r
/-- .. and it is one cell. -/
def RXc (Γ : Ctx) (h : Heap) (μ : Pos) (w : World) (l : L) (u : Value) : Prop := u.oneCell' = true ∧ RX Γ h μ w l u

structure Evo (h : Heap) (μ : Pos) (w : World) (h' : Heap) (μ' : Pos) (w' : World) : Prop where
  os : w'.os = w.os
  tape : w'.tape = w.tape
  output : w'.output = w.output
  size : w.heap.size ≤ w'.heap.size
  per : ∀ b, Per h μ w b → w'.heap[b]? = w.heap[b]? ∧ ∀ id ab, h' id = some (some ab) → μ' id ≠ some b
  live : ∀ id ab, h id = some (some ab) → h' id = some none ∨ ∃ ab', h' id = some (some ab') ∧ ab'.t = ab.t ∧ ab'.s = ab.s ∧ ab'.es.length = ab.es.length ∧ μ' id = μ id ∧
    ∀ g cur, μ id = some g → w.heap[g]? = some (.cells cur ab.t (0, 0)) → ∃ cur' : Array Value, w'.heap[g]? = some (.cells cur' ab.t (0, 0)) ∧ cur'.size = cur.size
  dead : ∀ id, h id = some none → h' id = some none

section
variable {h h' h'' : Heap} {μ μ' μ'' : Pos} {w w' w'' : World}
theorem Evo.refl (h : Heap) (μ : Pos) (w : World) : Evo h μ w h μ w :=
  ⟨rfl, rfl, rfl, Nat.le_refl _, fun b hb => ⟨rfl, hb.2⟩, fun id ab hi => .inr ⟨ab, hi, rfl, rfl, rfl, rfl, fun g cur _ hg => ⟨cur, hg, rfl⟩⟩, fun id hi => hi⟩
theorem Evo.perm (e : Evo h μ w h' μ' w') {b : Nat} (hb : Per h μ w b) : Per h' μ' w' b := ⟨Nat.lt_of_lt_of_le hb.1 e.size, (e.per b hb).2⟩
theorem Evo.trans (e : Evo h μ w h' μ' w') (f : Evo h' μ' w' h'' μ'' w'') : Evo h μ w h'' μ'' w'' where
  os := f.os.trans e.os
  tape := f.tape.trans e.tape
  output := f.output.trans e.output
  size := Nat.le_trans e.size f.size
  per := fun b hb => ⟨(f.per b (e.perm hb)).1.trans (e.per b hb).1, (f.per b (e.perm hb)).2⟩
  live := fun id ab hi => by
    rcases e.live id ab hi with hd | ⟨ab', h1, h2, h3, h4, h5, h6⟩
    · exact .inl (f.dead id hd)
    · rcases f.live id ab' h1 with hd | ⟨ab'', k1, k2, k3, k4, k5, k6⟩
      · exact .inl hd
      · refine .inr ⟨ab'', k1, k2.trans h2, k3.trans h3, k4.trans h4, k5.trans h5, fun g cur hg hw => ?_⟩
        obtain ⟨c1, e1, e2⟩ := h6 g cur hg hw
        obtain ⟨c2, e3, e4⟩ := k6 g c1 (h5.trans hg) (by rw [h2]; exact e1)
        rw [h2] at e3
        exact ⟨c2, e3, e4.trans e2⟩
  dead := fun id hi => f.dead id (e.dead id hi)

theorem RP.evo (e : Evo h μ w h' μ' w') {l : L} {u : Value} (r : RP Γ h μ w l u) : RP Γ h' μ' w' l u := by
  cases l with
  | ptr id i j =>
    rcases r with hd | ⟨ab, hi, g, hg, hu⟩
    · exact .inl (e.dead id hd)
    · rcases e.live id ab hi with hd | ⟨ab', h1, h2, h3, h4, h5, h6⟩
      · exact .inl hd
      · exact .inr ⟨ab', h1, g, h5.trans hg, by rw [h3]; exact hu⟩
  | _ => exact RL.keep (fun b hb => ⟨⟨e.perm hb.1, hb.2⟩, (e.per b hb.1).1⟩) r
theorem RX.evo (e : Evo h μ w h' μ' w') {l : L} {u : Value} (r : RX Γ h μ w l u) : RX Γ h' μ' w' l u := by
  cases l with
  | arow id i j n =>
    rcases r with hd | ⟨ab, hi, hl, hj, A, c, hu, hc, hg⟩
    · exact .inl (e.dead id hd)
    · rcases e.live id ab hi with hd | ⟨ab', h1, h2, h3, h4, h5, h6⟩
      · exact .inl hd
      · refine .inr ⟨ab', h1, by rw [h4]; exact hl, by rw [h3]; exact hj, A, c, hu, hc, fun h0 => ?_⟩
        obtain ⟨g, hg1, hA⟩ := hg h0
        exact ⟨g, h5.trans hg1, by rw [h3]; exact hA⟩
  | clo f ls =>
    obtain ⟨cs, hu, hs, hr⟩ := r
    exact ⟨cs, hu, hs, fun k l hl => (hr k l hl).evo e⟩
  | mp es => exact RL.keep (fun b hb => ⟨⟨e.perm hb.1, hb.2⟩, (e.per b hb.1).1⟩) r
  | own id s n =>
    rcases r with hd | ⟨ab, hi, hs, hn, r⟩
    · exact .inl (e.dead id hd)
    · rcases e.live id ab hi with hd | ⟨ab', h1, h2, h3, h4, h5, h6⟩
      · exact .inl hd
      · refine .inr ⟨ab', h1, h3.trans hs, h4.trans hn, ?_⟩
        rcases r with r | ⟨g, cap, cur, hg, hu, hw, hc, hl, hm⟩
        · exact .inl r
        · obtain ⟨cur', e1, e2⟩ := h6 g cur hg hw
          exact .inr ⟨g, cap, cur', h5.trans hg, hu, by rw [h2]; exact e1, e2.trans hc, hl, hm⟩
  | row id lo n =>
    rcases r with hd | ⟨ab, hi, hl, A, c, hu, hc, hg⟩
    · exact .inl (e.dead id hd)
    · rcases e.live id ab hi with hd | ⟨ab', h1, h2, h3, h4, h5, h6⟩
      · exact .inl hd
      · refine .inr ⟨ab', h1, by rw [h4]; exact hl, A, c, hu, hc, fun h0 => ?_⟩
        obtain ⟨g, hg1, hA⟩ := hg h0
        exact ⟨g, h5.trans hg1, by rw [h3]; exact hA⟩
  | ptr id i j =>
    rcases r with hd | ⟨ab, hi, g, hg, hu⟩
    · exact .inl (e.dead id hd)
    · rcases e.live id ab hi with hd | ⟨ab', h1, h2, h3, h4, h5, h6⟩
      · exact .inl hd
      · exact .inr ⟨ab', h1, g, h5.trans hg, by rw [h3]; exact hu⟩
  | any => trivial
  | bb p => exact r
  | sc v => exact RL.keep (fun b hb => ⟨⟨e.perm hb.1, hb.2⟩, (e.per b hb.1).1⟩) r
  | sl es => exact RL.keep (fun b hb => ⟨⟨e.perm hb.1, hb.2⟩, (e.per b hb.1).1⟩) r
  | pp cs => exact RL.keep (fun b hb => ⟨⟨e.perm hb.1, hb.2⟩, (e.per b hb.1).1⟩) r
end

theorem RXc.evo {h h' : Heap} {μ μ' : Pos} {w w' : World} (e : Evo h μ w h' μ' w') {l : L} {u : Value} (r : RXc Γ h μ w l u) : RXc Γ h' μ' w' l u := ⟨r.1, r.2.evo e⟩

/-- What the blocks hold, and where they lie. -/
structure Inv (Γ : Ctx) (h : Heap) (μ : Pos) (w : World) : Prop where
  len : ∀ id ab, h id = some (some ab) → ∀ e ∈ ab.es, e.length = ab.s
  at_ : ∀ id ab, h id = some (some ab) → (ab.es = [] ∧ μ id = none) ∨ ∃ g cur, μ id = some g ∧ w.heap[g]? = some (.cells cur ab.t (0, 0)) ∧ ab.es.length * ab.s ≤ cur.size ∧
    ∀ i e j l, ab.es[i]? = some e → e[j]? = some l → ∃ u, cur[i * ab.s + j]? = some u ∧ RXc Γ h μ w l u
  inj : ∀ id id' ab ab' g, h id = some (some ab) → h id' = some (some ab') → μ id = some g → μ id' = some g → id = id'
  base : Γ.base ≤ w.heap.size
  own : ∀ id ab g, h id = some (some ab) → μ id = some g → Γ.O g

def upd (h : Heap) (ws : List (Nat × Option AB)) : Heap := fun id => match ws.lookup id with | some x => some x | none => h id

section
variable {h : Heap} {μ : Pos} {w w' : World}
theorem upd_nil : upd h [] = h := rfl
theorem upd_one {id : Nat} {x : Option AB} {i : Nat} : upd h [(id, x)] i = if i = id then some x else h i := by
  unfold upd
  simp only [List.lookup]
  by_cases hi : i = id
  · subst hi; simp
  · have : (i == id) = false := by simp [hi]
    simp [this, hi]
theorem upd_two {a b : Nat} {x y : Option AB} (hne : a ≠ b) : upd (upd h [(a, x)]) [(b, y)] = upd h [(a, x), (b, y)] := by
  funext i
  rw [upd_one, upd_one]
  unfold upd
  simp only [List.lookup]
  by_cases ha : i = a
  · subst ha; simp [hne]
  · have h1 : (i == a) = false := by simp [ha]
    by_cases hb : i = b
    · subst hb; simp [h1]
    · have h2 : (i == b) = false := by simp [hb]
      simp [h1, h2, ha, hb]

/-- A number that is there goes. -/
theorem killed (I : Inv Γ h μ w) {id : Nat} {ab : AB} (hi : h id = some (some ab)) : Evo h μ w (upd h [(id, none)]) μ w ∧ Inv Γ (upd h [(id, none)]) μ w := by
  have hback : ∀ i a, upd h [(id, none)] i = some (some a) → i ≠ id ∧ h i = some (some a) := fun i a hh => by
    rw [upd_one] at hh
    split at hh
    · cases hh
    · exact ⟨‹_›, hh⟩
  have E : Evo h μ w (upd h [(id, none)]) μ w := by
    refine ⟨rfl, rfl, rfl, Nat.le_refl _, fun b hb => ⟨rfl, fun i a hh => hb.2 i a (hback i a hh).2⟩, fun i a hh => ?_, fun i hh => ?_⟩
    · by_cases he : i = id
      · exact .inl (by rw [upd_one, if_pos he])
      · exact .inr ⟨a, by rw [upd_one, if_neg he]; exact hh, rfl, rfl, rfl, rfl, fun g cur _ hg => ⟨cur, hg, rfl⟩⟩
    · rw [upd_one]; split
      · rfl
      · exact hh
  refine ⟨E, ⟨fun i a hh => I.len i a (hback i a hh).2, fun i a hh => ?_, fun i j a b g h1 h2 => I.inj i j a b g (hback i a h1).2 (hback j b h2).2, I.base, fun i a g hh => I.own i a g (hback i a hh).2⟩⟩
  rcases I.at_ i a (hback i a hh).2 with r | ⟨g, cur, hg, hw, hl, hr⟩
  · exact .inl r
  · exact .inr ⟨g, cur, hg, hw, hl, fun i e j l he hl => by obtain ⟨u, hu, hx⟩ := hr i e j l he hl; exact ⟨u, hu, hx.evo E⟩⟩

/-- A block is laid. -/
theorem laid (I : Inv Γ h μ w) {id : Nat} (hi : h id = none) (cur : Array Value) (t : TypeId) (s : Nat) (es : List (List L)) (hlen : ∀ e ∈ es, e.length = s) (hsz : es.length * s ≤ cur.size)
    (hR : ∀ i e j l, es[i]? = some e → e[j]? = some l → ∃ u, cur[i * s + j]? = some u ∧ RXc Γ h μ w l u) :
    Evo h μ w (upd h [(id, some ⟨t, s, es⟩)]) (fun i => if i = id then some w.heap.size else μ i) (w.alloc (.cells cur t)) ∧
    Inv Γ (upd h [(id, some ⟨t, s, es⟩)]) (fun i => if i = id then some w.heap.size else μ i) (w.alloc (.cells cur t)) := by
  have hback : ∀ i a, upd h [(id, some ⟨t, s, es⟩)] i = some (some a) → i ≠ id → h i = some (some a) := fun i a hh hne => by
    rw [upd_one, if_neg hne] at hh; exact hh
  have hlt : ∀ i a g, h i = some (some a) → μ i = some g → g < w.heap.size := fun i a g hh hg => by
    rcases I.at_ i a hh with ⟨_, r⟩ | ⟨g', cur, hg', hw, _⟩
    · rw [hg] at r; cases r
    · rw [hg] at hg'; cases hg'
      exact (Array.getElem?_eq_some_iff.1 hw).1
  have hold : ∀ b, b < w.heap.size → (w.alloc (.cells cur t)).heap[b]? = w.heap[b]? := fun b hb => Below.heap_alloc w _ b hb
  have E : Evo h μ w (upd h [(id, some ⟨t, s, es⟩)]) (fun i => if i = id then some w.heap.size else μ i) (w.alloc (.cells cur t)) := by
    refine ⟨rfl, rfl, rfl, by simp, fun b hb => ⟨hold b hb.1, fun i a hh => ?_⟩, fun i a hh => .inr ⟨a, ?_, rfl, rfl, rfl, ?_, fun g c hg hw => ⟨c, ?_, rfl⟩⟩, fun i hh => ?_⟩
    · by_cases he : i = id
      · simp only [he, if_true]; intro e; injection e with e; have := hb.1; omega
      · simp only [he, if_false]; exact hb.2 i a (hback i a hh he)
    · have he : i ≠ id := fun e => by subst e; rw [hi] at hh; cases hh
      rw [upd_one, if_neg he]; exact hh
    · have he : i ≠ id := fun e => by subst e; rw [hi] at hh; cases hh
      simp only [he, if_false]
    · rw [hold g (hlt i a g hh hg)]; exact hw
    · have he : i ≠ id := fun e => by subst e; rw [hi] at hh; cases hh
      rw [upd_one, if_neg he]; exact hh
  refine ⟨E, ⟨fun i a hh => ?_, fun i a hh => ?_, fun i j a b g h1 h2 g1 g2 => ?_, Nat.le_trans I.base (by simp), fun i a g hh hg => ?_⟩⟩
  · by_cases he : i = id
    · rw [upd_one, if_pos he] at hh; injection hh with hh; injection hh with hh; subst hh; exact hlen
    · exact I.len i a (hback i a hh he)
  · by_cases he : i = id
    · rw [upd_one, if_pos he] at hh; injection hh with hh; injection hh with hh; subst hh
      refine .inr ⟨w.heap.size, cur, by simp [he], heap_alloc_new w _, hsz, fun i e j l h1 h2 => ?_⟩
      obtain ⟨u, hu, hx⟩ := hR i e j l h1 h2
      exact ⟨u, hu, hx.evo E⟩
    · rcases I.at_ i a (hback i a hh he) with ⟨r1, r2⟩ | ⟨g, c, hg, hw, hl, hr⟩
      · exact .inl ⟨r1, by simp only [he, if_false]; exact r2⟩
      · refine .inr ⟨g, c, by simp only [he, if_false]; exact hg, by rw [hold g (hlt i a g (hback i a hh he) hg)]; exact hw, hl, fun i e j l h1 h2 => ?_⟩
        obtain ⟨u, hu, hx⟩ := hr i e j l h1 h2
        exact ⟨u, hu, hx.evo E⟩
  · by_cases he : i = id
    · by_cases hf : j = id
      · exact he.trans hf.symm
      · simp only [he, if_true] at g1
        simp only [hf, if_false] at g2
        have := hlt j b g (hback j b h2 hf) g2
        injection g1 with g1; omega
    · simp only [he, if_false] at g1
      by_cases hf : j = id
      · simp only [hf, if_true] at g2
        have := hlt i a g (hback i a h1 he) g1
        injection g2 with g2; omega
      · simp only [hf, if_false] at g2
        exact I.inj i j a b g (hback i a h1 he) (hback j b h2 hf) g1 g2
  · by_cases he : i = id
    · simp only [he, if_true] at hg
      injection hg with hg; rw [← hg]; exact .inl I.base
    · simp only [he, if_false] at hg
      exact I.own i a g (hback i a hh he) hg

/-- A block is written. -/
theorem written (I : Inv Γ h μ w) {id : Nat} {ab : AB} (hi : h id = some (some ab)) {g : Nat} (hg : μ id = some g) {cur cur' : Array Value} (hw : w.heap[g]? = some (.cells cur ab.t (0, 0))) (hsz : cur'.size = cur.size)
    (es : List (List L)) (hel : es.length = ab.es.length) (hlen : ∀ e ∈ es, e.length = ab.s)
    (hR : ∀ i e j l, es[i]? = some e → e[j]? = some l → ∃ u, cur'[i * ab.s + j]? = some u ∧ RXc Γ h μ w l u) :
    Evo h μ w (upd h [(id, some ⟨ab.t, ab.s, es⟩)]) μ (w.setRow g cur') ∧ Inv Γ (upd h [(id, some ⟨ab.t, ab.s, es⟩)]) μ (w.setRow g cur') := by
  have hset : (w.setRow g cur').heap[g]? = some (.cells cur' ab.t (0, 0)) := setRow_heap w g cur cur' ab.t (0, 0) hw
  have hoth : ∀ b, b ≠ g → (w.setRow g cur').heap[b]? = w.heap[b]? := fun b hb => setRow_other w g b cur' hb
  have hgl : g < w.heap.size := (Array.getElem?_eq_some_iff.1 hw).1
  have hone : ∀ i a, h i = some (some a) → μ i = some g → i = id := fun i a hh hm => I.inj i id a ab g hh hi hm hg
  have hsame : ∀ i, i ≠ id → upd h [(id, some ⟨ab.t, ab.s, es⟩)] i = h i := fun i hne => by rw [upd_one, if_neg hne]
  have hnew : upd h [(id, some ⟨ab.t, ab.s, es⟩)] id = some (some ⟨ab.t, ab.s, es⟩) := by rw [upd_one, if_pos rfl]
  have E : Evo h μ w (upd h [(id, some ⟨ab.t, ab.s, es⟩)]) μ (w.setRow g cur') := by
    refine ⟨rfl, rfl, rfl, by simp [World.setRow], fun b hb => ⟨hoth b (fun e => hb.2 id ab hi (by rw [e]; exact hg)), fun i a hh => ?_⟩, fun i a hh => ?_, fun i hh => ?_⟩
    · by_cases he : i = id
      · subst he; exact hb.2 i ab hi
      · rw [hsame i he] at hh; exact hb.2 i a hh
    · by_cases he : i = id
      · subst he
        rw [hi] at hh; injection hh with hh; injection hh with hh; subst hh
        refine .inr ⟨_, hnew, rfl, rfl, hel, rfl, fun g' c hg' hw' => ?_⟩
        rw [hg] at hg'; cases hg'
        rw [hw] at hw'; cases hw'
        exact ⟨cur', hset, hsz⟩
      · refine .inr ⟨a, by rw [hsame i he]; exact hh, rfl, rfl, rfl, rfl, fun g' c hg' hw' => ⟨c, ?_, rfl⟩⟩
        rw [hoth g' (fun e => he (hone i a hh (by rw [hg', e])))]
        exact hw'
    · by_cases he : i = id
      · subst he; rw [hi] at hh; cases hh
      · rw [hsame i he]; exact hh
  refine ⟨E, ⟨fun i a hh => ?_, fun i a hh => ?_, fun i j a b g' h1 h2 g1 g2 => ?_, Nat.le_trans I.base E.size, fun i a g' hh hg' => ?_⟩⟩
  · by_cases he : i = id
    · subst he; rw [hnew] at hh; injection hh with hh; injection hh with hh; subst hh; exact hlen
    · rw [hsame i he] at hh; exact I.len i a hh
  · by_cases he : i = id
    · subst he; rw [hnew] at hh; injection hh with hh; injection hh with hh; subst hh
      refine .inr ⟨g, cur', hg, hset, ?_, fun i e j l h1 h2 => ?_⟩
      · show es.length * ab.s ≤ _
        rw [hel, hsz]
        rcases I.at_ _ ab hi with ⟨_, r⟩ | ⟨g', c, hg', hw', hl, _⟩
        · rw [hg] at r; cases r
        · rw [hg] at hg'; cases hg'
          rw [hw] at hw'; cases hw'
          exact hl
      · obtain ⟨u, hu, hx⟩ := hR i e j l h1 h2
        exact ⟨u, hu, hx.evo E⟩
    · rw [hsame i he] at hh
      rcases I.at_ i a hh with r | ⟨g', c, hg', hw', hl, hr⟩
      · exact .inl r
      · refine .inr ⟨g', c, hg', by rw [hoth g' (fun e => he (hone i a hh (by rw [hg', e])))]; exact hw', hl, fun i e j l h1 h2 => ?_⟩
        obtain ⟨u, hu, hx⟩ := hr i e j l h1 h2
        exact ⟨u, hu, hx.evo E⟩
  · have k : ∀ i a, upd h [(id, some ⟨ab.t, ab.s, es⟩)] i = some (some a) → ∃ a', h i = some (some a') := fun i a hh => by
      by_cases he : i = id
      · subst he; exact ⟨ab, hi⟩
      · rw [hsame i he] at hh; exact ⟨a, hh⟩
    obtain ⟨a', ha⟩ := k i a h1
    obtain ⟨b', hb⟩ := k j b h2
    exact I.inj i j a' b' g' ha hb g1 g2
  · by_cases he : i = id
    · subst he; exact I.own _ ab g' hi hg'
    · rw [hsame i he] at hh; exact I.own i a g' hh hg'
end

/-! ### Slots -/
def RC (Γ : Ctx) (h : Heap) (μ : Pos) (w : World) : T → Value → Prop
  | .leaf l, u => RX Γ h μ w l u
  | .agg ls, u => ∃ cs : Array Value, u = .agg cs ∧ cs.size = ls.length ∧ ∀ (j : Nat) (l : L), ls[j]? = some l → ∃ v, cs[j]? = some v ∧ RXc Γ h μ w l v
  | .tup _, _ => False
def RT (Γ : Ctx) (h : Heap) (μ : Pos) (w : World) : T → Value → Prop
  | .tup ts, u => ∃ vs : Array Value, u = .tuple vs ∧ vs.size = ts.length ∧ ∀ (j : Nat) (t : T), ts[j]? = some t → ∃ v, vs[j]? = some v ∧ RC Γ h μ w t v
  | t, u => RC Γ h μ w t u
section
variable {h h' : Heap} {μ μ' : Pos} {w w' : World}
theorem RC.evo (e : Evo h μ w h' μ' w') {t : T} {u : Value} (r : RC Γ h μ w t u) : RC Γ h' μ' w' t u := by
  cases t with
  | leaf l => exact RX.evo e r
  | agg ls =>
    obtain ⟨cs, hu, hs, hr⟩ := r
    exact ⟨cs, hu, hs, fun j l hl => by obtain ⟨v, hv, hx⟩ := hr j l hl; exact ⟨v, hv, hx.evo e⟩⟩
  | tup ts => exact r.elim
theorem RT.evo (e : Evo h μ w h' μ' w') {t : T} {u : Value} (r : RT Γ h μ w t u) : RT Γ h' μ' w' t u := by
  cases t with
  | leaf l => exact RC.evo (t := .leaf l) e r
  | agg ls => exact RC.evo (t := .agg ls) e r
  | tup ts =>
    obtain ⟨vs, hu, hs, hr⟩ := r
    exact ⟨vs, hu, hs, fun j l hl => by obtain ⟨v, hv, hx⟩ := hr j l hl; exact ⟨v, hv, hx.evo e⟩⟩
theorem RT.any (u : Value) : RT Γ h μ w (.leaf .any) u := trivial
theorem RT.sc (v : Value) : RT Γ h μ w (.leaf (.sc v)) v := RL.sc v

/-- The tables that are known lie where they lie, for good. -/
def Globs (Γ : Ctx) (h : Heap) (μ : Pos) (w : World) : Prop := ∀ g vs, globs g = some vs → RL (PerG Γ h μ w) w (.pp (vs.map .sc)) (.pointer (some ⟨g, 0, none⟩))
theorem Globs.evo (e : Evo h μ w h' μ' w') (r : Globs Γ h μ w) : Globs Γ h' μ' w' := fun g vs hg => RL.keep (fun b hb => ⟨⟨e.perm hb.1, hb.2⟩, (e.per b hb.1).1⟩) (r g vs hg)
def FrameR (Γ : Ctx) (h : Heap) (μ : Pos) (w : World) (tm : List T) (a : Array Value) : Prop := (a.size = tm.length ∧ Globs Γ h μ w) ∧ ∀ i t, tm[i]? = some t → RT Γ h μ w t (a.getD i undef)
theorem FrameR.evo (e : Evo h μ w h' μ' w') {tm : List T} {a : Array Value} (r : FrameR Γ h μ w tm a) : FrameR Γ h' μ' w' tm a := ⟨⟨r.1.1, r.1.2.evo e⟩, fun i t ht => (r.2 i t ht).evo e⟩
def putT (tm : List T) (dst : Option Tmp) (t : T) : List T := match dst with | some d => tm.set d t | none => tm
theorem FrameR.put {tm : List T} {a : Act} (r : FrameR Γ h μ w tm a.tmps) {t : T} {v : Value} (hv : RT Γ h μ w t v) (dst : Option Tmp) : FrameR Γ h μ w (putT tm dst t) (a.put dst v).tmps := by
  cases dst with
  | none => exact r
  | some d =>
    refine ⟨⟨by simp [putT, Act.put, r.1.1], r.1.2⟩, fun i x hx => ?_⟩
    simp only [putT, List.getElem?_set] at hx
    simp only [Act.put]
    by_cases hd : d = i
    · subst hd
      simp only [if_true] at hx
      split at hx
      · rename_i hlt
        injection hx with hx; subst hx
        have : d < a.tmps.size := by rw [r.1.1]; exact hlt
        simp [this]; exact hv
      · cases hx
    · simp only [hd, if_false] at hx
      have := r.2 i x hx
      simpa [Array.getElem?_setIfInBounds_ne hd] using this
def evalT (tm : List T) : Operand → T
  | .tmp t => (tm[t]?).getD (.leaf .any)
  | .const (.agg cs) => if cs.toList.all (·.oneCell') then .agg (cs.toList.map .sc) else .leaf .any
  | .const v => .leaf (.sc v)
  | .global g => match globs g with | some vs => .leaf (.pp (vs.map .sc)) | none => .leaf (.sc (.pointer (some ⟨g, 0, none⟩)))
  | .func f => .leaf (.sc (.func (.func f) #[] #[]))
theorem FrameR.eval {tm : List T} {a : Act} (r : FrameR Γ h μ w tm a.tmps) (x : Operand) : RT Γ h μ w (evalT tm x) (a.eval x) := by
  cases x with
  | tmp t =>
    simp only [evalT, Act.eval]
    cases ht : tm[t]? with
    | none => exact RT.any _
    | some y => exact r.2 t y ht
  | const v =>
    cases v with
    | agg cs =>
      simp only [evalT]
      split
      · rename_i hall
        exact ⟨cs, rfl, by simp, fun j l hl => by
          rw [List.getElem?_map] at hl
          obtain ⟨v, hv, rfl⟩ := Option.map_eq_some_iff.1 hl
          exact ⟨v, by simpa using hv, List.all_eq_true.1 hall v (List.mem_of_getElem? hv), RL.sc v⟩⟩
      · exact RT.any _
    | _ => exact RL.sc _
  | global g =>
    simp only [evalT]
    split
    · exact r.1.2 g _ ‹_›
    · exact RL.sc _
  | func f => exact RL.sc _
end
end Go.Proofs.Ytfppilpaaoklaaa
