/- Words of our own for memory that a Go text reads and makes: rows of cells that are read, and rows that the call owns. -/
import Derived.Test.YtfppilpaaoklaaaProg
import Derived.WalkKit
import Derived.Lib.Hide
import Derived.Outline
import Derived.KernelRfl
import Derived.WalkSpells
import Derived.WalkLawsBesides
import Derived.Deep.Draws
import Derived.Deep.Light
import Derived.Deep.DeepFit
import Derived.Laws.CopyOwn
import Derived.Deep.QuietTactic
import Derived.BigQuiet
import Derived.RegionTactic
import Derived.Deep.RegionHeld3
import Derived.Deep.RegionLaw
import Derived.Deep.RegionWith
import Derived.StillTailTactics
import Derived.Deep.DeepCutAuto
import Derived.Deep.LoopGhost
namespace Go.Proofs.Ytfppilpaaoklaaa
set_option linter.unusedSimpArgs false
set_option linter.unusedVariables false
open Go.RowKit

/-- What a slice type is, and what its elements are. -/
structure SlTy (P : Program) (t e : TypeId) (z : Value) (size bytes : Nat) : Prop where
  und : P.underlying t = some (.slice e)
  inf : ∃ i, P.info? e = some i ∧ i.zero = some z ∧ i.size = size ∧ i.bytes = bytes
  cells : z.cells.size = size
  pos : 0 < size
  one : ∀ u ∈ z.cells, u.oneCell' = true

/-- The address of a slice that is cut at its front. -/
def cutA (A : Option Addr) (cap l s : Nat) : Option Addr := if cap = l then A else A.map (·.add (l * s))

theorem cutA_zero (A : Option Addr) (cap s : Nat) : cutA A cap 0 s = A := by
  unfold cutA
  split
  · rfl
  · cases A <;> simp [Addr.add]
theorem cutA_lit (g n off : Nat) (h : off < n) : cutA (some (⟨g, 0, none⟩ : Addr)) n off 1 = some ⟨g, off, none⟩ := by
  unfold cutA
  rw [if_neg (by omega), Nat.mul_one, Option.map_some]
  congr 1
  unfold Addr.add
  split
  · rename_i hoff; rw [hoff]
  · simp
section
variable {P : Program} (w : World) (t : TypeId) (a : Option Addr) (len cap : Nat) (ht : P.underlying t = some (.slice (P.elem t)))
include ht
theorem run_cut_lh (kl kh : IntKind) (l h : Int) (h0 : 0 ≤ l) (h1 : l ≤ h) (h2 : h ≤ cap) : (Instr.slice t (.slice a len cap) (some (.int kl l)) (some (.int kh h)) none).run P w =
    ((sizeOf (P.elem t)).run P w).andThen fun s w => .ok (.slice (cutA a cap l.toNat s) (h.toNat - l.toNat) (cap - l.toNat)) w := run_slice_lh w t a len cap ht kl kh l h h0 h1 h2
theorem run_cut_h (kh : IntKind) (h : Int) (h0 : 0 ≤ h) (h2 : h ≤ cap) : (Instr.slice t (.slice a len cap) none (some (.int kh h)) none).run P w =
    ((sizeOf (P.elem t)).run P w).andThen fun _ w => .ok (.slice a h.toNat cap) w := by
  rw [run_slice_h w t a len cap ht kh h h0 h2]
  congr 1
  funext s w
  exact congrArg (fun A => Result.ok (Value.slice A h.toNat cap) w) (cutA_zero a cap s)
theorem run_cut_l (kl : IntKind) (l : Int) (h0 : 0 ≤ l) (h1 : l ≤ len) : (Instr.slice t (.slice a len cap) (some (.int kl l)) none none).run P w =
    ((sizeOf (P.elem t)).run P w).andThen fun s w => .ok (.slice (cutA a cap l.toNat s) (len - l.toNat) (cap - l.toNat)) w := run_slice_l w t a len cap ht kl l h0 h1
theorem run_cut_lhm (kl kh km : IntKind) (l h m : Int) (h0 : 0 ≤ l) (h1 : l ≤ h) (h2 : h ≤ m) (h3 : m ≤ cap) : (Instr.slice t (.slice a len cap) (some (.int kl l)) (some (.int kh h)) (some (.int km m))).run P w =
    ((sizeOf (P.elem t)).run P w).andThen fun s w => .ok (.slice (cutA a m.toNat l.toNat s) (h.toNat - l.toNat) (m.toNat - l.toNat)) w := run_slice_lhm w t a len cap ht kl kh km l h m h0 h1 h2 h3
theorem run_cut_hm (kh km : IntKind) (h m : Int) (h0 : 0 ≤ h) (h2 : h ≤ m) (h3 : m ≤ cap) : (Instr.slice t (.slice a len cap) none (some (.int kh h)) (some (.int km m))).run P w =
    ((sizeOf (P.elem t)).run P w).andThen fun _ w => .ok (.slice a h.toNat m.toNat) w := by
  rw [run_slice_hm w t a len cap ht kh km h m h0 h2 h3]
  congr 1
  funext s w
  exact congrArg (fun A => Result.ok (Value.slice A h.toNat m.toNat) w) (cutA_zero a m.toNat s)
theorem run_cut_any (lo hi mx : Option Value) : (Instr.slice t (.slice a len cap) lo hi mx).run P w =
    ((Instr.sliceBounds true len cap lo hi mx).run P w).andThen fun b w => ((sizeOf (P.elem t)).run P w).andThen fun s w => .ok (.slice (cutA a b.2.2 b.1 s) (b.2.1 - b.1) (b.2.2 - b.1)) w :=
  run_slice_any w t a len cap ht lo hi mx
end
/- The walk spells a cut so, and does not part at its capacity's end. -/
attribute [go_sem high] run_cut_lh run_cut_h run_cut_l run_cut_lhm run_cut_hm
attribute [go_sem 500] run_cut_any
attribute [go_sem] cutA_zero

/-- From address A on, below block B, the world holds these cells. -/
def Rd (w : World) (B : Nat) (A : Option Addr) (xs : List Value) : Prop :=
  ∀ j u, xs[j]? = some u → ∃ p, A = some p ∧ p.block < B ∧ w.cell? (p.add j) = some u

/-- What the walk may use of the cells below B behind a call. -/
theorem below_cells {B : Nat} {w w' : World} (hb : Below B w w') : ∀ b o, b < B → w'.cell? ⟨b, o, none⟩ = w.cell? ⟨b, o, none⟩ := fun b o h => hb.cell (p := ⟨b, o, none⟩) h
theorem below_free {B : Nat} {w w' : World} (hb : Below B w w') : ∀ b o, b < B → w'.frozen? ⟨b, o, none⟩ = w.frozen? ⟨b, o, none⟩ := fun b o h => hb.frozen (p := ⟨b, o, none⟩) h
theorem below_draws (w : World) (B n : Nat) : Below B w (w.drewN n) := ⟨rfl, rfl, rfl, Nat.le_refl _, fun _ _ => rfl⟩

section
variable {w w' : World} {B B' : Nat} {A : Option Addr} {xs ys : List Value}

theorem Rd.nil (w : World) (B : Nat) (A : Option Addr) : Rd w B A [] := fun j u h => by simp at h

theorem add_block (p : Addr) (j : Nat) : (p.add j).block = p.block := by
  unfold Addr.add
  split <;> rfl

theorem add_two (p : Addr) (i j : Nat) : (p.add i).add j = p.add (i + j) := by
  rcases Nat.eq_zero_or_pos i with rfl | hi
  · rw [Nat.zero_add]; rfl
  · rcases Nat.eq_zero_or_pos j with rfl | hj
    · rfl
    · unfold Addr.add
      rw [if_neg (by omega), if_neg (by omega), if_neg (by omega)]
      simp only [Nat.add_assoc]

/-- Whatever leaves the cells below B leaves what is read there. -/
theorem Rd.carry (h : Rd w B A xs) (hk : ∀ p : Addr, p.block < B → w'.cell? p = w.cell? p) : Rd w' B A xs := fun j u hu => by
  obtain ⟨p, e, hb, hc⟩ := h j u hu
  exact ⟨p, e, hb, (hk _ (by rw [add_block]; exact hb)).trans hc⟩

theorem Rd.below (h : Rd w B A xs) (hb : Below B w w') : Rd w' B A xs := h.carry fun _ hp => hb.cell hp
theorem Rd.up (h : Rd w B A xs) (hB : B ≤ B') : Rd w B' A xs := fun j u hu => by
  obtain ⟨p, e, hb, hc⟩ := h j u hu
  exact ⟨p, e, Nat.lt_of_lt_of_le hb hB, hc⟩
theorem Rd.drew (h : Rd w B A xs) : Rd w.drew B A xs := h
theorem Rd.drewN (h : Rd w B A xs) (k : Nat) : Rd (w.drewN k) B A xs := h
theorem Rd.alloc (h : Rd w B A xs) (hB : B ≤ w.heap.size) (o : Obj) : Rd (w.alloc o) B A xs := h.below ((Below.refl B w).alloc hB o)
theorem Rd.store (h : Rd w B A xs) {p : Addr} (hp : B ≤ p.block) (u : Value) : Rd (w.setCell p u) B A xs := h.below ((Below.refl B w).setCell hp u)
theorem Rd.grown (h : Rd w B A xs) {row : Option Nat} (hg : w.grownBy w' row) (hB : B ≤ w.heap.size) (hr : ∀ k, row = some k → B ≤ k) : Rd w' B A xs :=
  h.below ((Below.refl B w).grown hg hB hr)

/-- The first cells. -/
theorem Rd.front (h : Rd w B A (xs ++ ys)) : Rd w B A xs := fun j u hu => h j u (by
  have hj := (List.getElem?_eq_some_iff.1 hu).1
  rw [List.getElem?_append_left hj]; exact hu)
theorem Rd.take (h : Rd w B A xs) (k : Nat) : Rd w B A (xs.take k) := fun j u hu => by
  rw [List.getElem?_take] at hu
  split at hu
  · exact h j u hu
  · cases hu
/-- The cells behind a cut. -/
theorem Rd.cut {cap l s : Nat} (h : Rd w B A xs) (hx : xs.length ≤ cap * s) (_hl : l ≤ cap) : Rd w B (cutA A cap l s) (xs.drop (l * s)) := fun j u hu => by
  rw [List.getElem?_drop] at hu
  obtain ⟨p, rfl, hb, hc⟩ := h _ u hu
  unfold cutA
  by_cases e : cap = l
  · subst e
    have := (List.getElem?_eq_some_iff.1 hu).1
    omega
  · rw [if_neg e]
    exact ⟨p.add (l * s), rfl, by rw [add_block]; exact hb, by rw [add_two]; exact hc⟩
end

/-! ### Bytes, and whole numbers -/

/-- A byte as a value. -/
def bv (x : UInt8) : Value := .int .u8 (x.toNat : Int)

/-- A slice of n bytes, which reads as these; all of it is hidden from the walk. -/
structure SlB (w : World) (B : Nat) (A : Option Addr) (n c : Nat) (bs : List UInt8) : Prop where
  len : bs.length = n
  cap : n ≤ c
  rd : Rd w B A (bs.map bv)

section
variable {w w' : World} {B B' : Nat} {A : Option Addr} {n c : Nat} {bs : List UInt8}

theorem Rd.byte (h : Rd w B A (bs.map bv)) {k : Nat} (hk : k < bs.length) :
    ∃ p, A = some p ∧ p.block < B ∧ w.cell? (p.add k) = some (.int .u8 (bs[k].toNat : Int)) :=
  h k (bv bs[k]) (by simp [hk])
/-- The byte at a place, under a name of its own. -/
theorem SlB.at_ (h : SlB w B A n c bs) {k : Nat} (hk : k < n) :
    ∃ p x, A = some p ∧ p.block < B ∧ w.cell? (p.add k) = some (.int .u8 (x.toNat : Int)) ∧ bs[k]? = some x ∧ x.toNat < 256 := by
  have hk' : k < bs.length := by rw [h.len]; exact hk
  obtain ⟨p, e, hb, hc⟩ := h.rd.byte hk'
  exact ⟨p, bs[k], e, hb, hc, List.getElem?_eq_getElem hk', bs[k].toNat_lt⟩
theorem SlB.below (h : SlB w B A n c bs) (hb : Below B w w') : SlB w' B A n c bs := ⟨h.len, h.cap, h.rd.below hb⟩
theorem SlB.up (h : SlB w B A n c bs) (hB : B ≤ B') : SlB w B' A n c bs := ⟨h.len, h.cap, h.rd.up hB⟩
theorem SlB.drew (h : SlB w B A n c bs) : SlB w.drew B A n c bs := ⟨h.len, h.cap, h.rd⟩
theorem SlB.drewN (h : SlB w B A n c bs) (k : Nat) : SlB (w.drewN k) B A n c bs := ⟨h.len, h.cap, h.rd⟩
theorem SlB.alloc (h : SlB w B A n c bs) (hB : B ≤ w.heap.size) (o : Obj) : SlB (w.alloc o) B A n c bs := ⟨h.len, h.cap, h.rd.alloc hB o⟩
theorem SlB.none_ (w : World) (B c : Nat) (A : Option Addr) : SlB w B A 0 c [] := ⟨rfl, Nat.zero_le _, Rd.nil _ _ _⟩
theorem SlB.cut (h : SlB w B A n c bs) {l : Nat} (hl : l ≤ n) : SlB w B (cutA A c l 1) (n - l) (c - l) (bs.drop l) :=
  ⟨by rw [List.length_drop, h.len], by have := h.cap; omega, by
    have := h.rd.cut (s := 1) (cap := c) (l := l) (by have := h.cap; have := h.len; simp; omega) (by have := h.cap; omega)
    rw [Nat.mul_one, ← List.map_drop] at this
    exact this⟩
/-- The same, where the walk writes the address out. -/
theorem SlB.tail {p : Addr} (h : SlB w B (some p) n c bs) {l : Nat} (h0 : 0 < l) (hl : l ≤ n) (hc : l < c) : SlB w B (some ⟨p.block, p.off + l, none⟩) (n - l) (c - l) (bs.drop l) := by
  have := h.cut hl
  have e : cutA (some p) c l 1 = some ⟨p.block, p.off + l, none⟩ := by
    unfold cutA Addr.add
    rw [if_neg (by omega), Nat.mul_one, Option.map_some, if_neg (by omega)]
  rw [e] at this
  exact this
theorem SlB.take (h : SlB w B A n c bs) {k m : Nat} (hk : k ≤ n) (hm : k ≤ m) : SlB w B A k m (bs.take k) :=
  ⟨by rw [List.length_take, h.len]; omega, hm, by rw [List.map_take]; exact h.rd.take k⟩
end

/-! ### What the call owns -/

/-- The call owns the row in which this slice lies, from block base on: it reads as these cells. -/
def Own (w : World) (base : Nat) (e : TypeId) (size : Nat) (A : Option Addr) (n c : Nat) (xs : List Value) : Prop := w.ownsRow base e size (.slice A n c) n xs

section
variable {P : Program} {w w' : World} {base e size n c : Nat} {A : Option Addr} {xs : List Value}

theorem Own.nil (w : World) (base e size : Nat) : Own w base e size none 0 0 [] := World.ownsRow_nil w base e size
theorem Own.len (h : Own w base e size A n c xs) : xs.length = n * size := h.1
theorem Own.cap_le (h : Own w base e size A n c xs) : n ≤ c := by
  rcases h.2 with ⟨h, rfl⟩ | ⟨g, cap, cur, h, _, _, hn, _⟩
  · exact Nat.zero_le _
  · injection h with _ _ h; omega
theorem Own.rd (h : Own w base e size A n c xs) : Rd w w.heap.size A xs := fun j u hu => by
  have hj := (List.getElem?_eq_some_iff.1 hu).1
  rcases h.2 with ⟨h', rfl⟩ | ⟨g, cap, cur, h', _, hg, _⟩
  · have := h.1; omega
  · injection h' with hA
    subst hA
    exact ⟨⟨g, 0, none⟩, rfl, (Array.getElem?_eq_some_iff.1 hg).1, World.ownsRow.cells h rfl j u hu⟩
/-- The block in which it lies. -/
theorem Own.block (h : Own w base e size A n c xs) : (A = none ∧ n = 0 ∧ c = 0) ∨ ∃ g, A = some ⟨g, 0, none⟩ ∧ base ≤ g ∧ g < w.heap.size := by
  rcases h.2 with ⟨h', rfl⟩ | ⟨g, cap, cur, h', hb, hg, _⟩
  · injection h' with hA _ hc
    exact .inl ⟨hA, rfl, hc⟩
  · injection h' with hA
    exact .inr ⟨g, hA, hb, (Array.getElem?_eq_some_iff.1 hg).1⟩
theorem Own.below {B : Nat} (h : Own w base e size A n c xs) (hb : Below B w w') (hB : w.heap.size ≤ B) : Own w' base e size A n c xs := by
  refine ⟨h.1, ?_⟩
  rcases h.2 with hn | ⟨g, cap, cur, h', hbg, hg, r⟩
  · exact .inl hn
  · exact .inr ⟨g, cap, cur, h', hbg, (hb.block g (Nat.lt_of_lt_of_le (Array.getElem?_eq_some_iff.1 hg).1 hB)).trans hg, r⟩
/-- Writes to one block alone leave what lies in another one. -/
theorem Own.kept {row : Option Nat} (h : Own w base e size A n c xs) (hg : w.grownBy w' row) (hne : ∀ g, A = some ⟨g, 0, none⟩ → row ≠ some g) : Own w' base e size A n c xs := by
  refine ⟨h.1, ?_⟩
  rcases h.2 with hn | ⟨g, cap, cur, h', hbg, hgg, r⟩
  · exact .inl hn
  · injection h' with hA
    exact .inr ⟨g, cap, cur, by rw [hA]; simp_all, hbg, (hg.block g (Array.getElem?_eq_some_iff.1 hgg).1 (fun e => hne g hA e.symm)).trans hgg, r⟩
theorem Own.drew (h : Own w base e size A n c xs) : Own w.drew base e size A n c xs := h
theorem Own.drewN (h : Own w base e size A n c xs) (k : Nat) : Own (w.drewN k) base e size A n c xs := h
theorem Own.alloc (h : Own w base e size A n c xs) (o : Obj) : Own (w.alloc o) base e size A n c xs := World.ownsRow.alloc h o
theorem Own.down {base' : Nat} (h : Own w base e size A n c xs) (hb : base' ≤ base) : Own w base' e size A n c xs := by
  refine ⟨h.1, ?_⟩
  rcases h.2 with hn | ⟨g, cap, cur, h', hbg, r⟩
  · exact .inl hn
  · exact .inr ⟨g, cap, cur, h', by omega, r⟩
theorem Own.bytes {bs : List UInt8} (h : Own w base e 1 A n c (bs.map bv)) : SlB w w.heap.size A n c bs :=
  ⟨by have := h.1; simpa using this, h.cap_le, h.rd⟩
/-- A literal of cells, just laid. -/
theorem Own.lit (w : World) (cs : Array Value) (e size n : Nat) (hb : base ≤ w.heap.size) (hm : n ≤ maxLen) (hs : cs.size = n * size) :
    Own (w.alloc (.cells cs e)) base e size (some ⟨w.heap.size, 0, none⟩) n n cs.toList := World.ownsRow_lit w cs n hb hm hs
end

theorem bytes_one (bs : List UInt8) : ∀ u ∈ bs.map bv, u.oneCell' = true := by
  intro u hu
  obtain ⟨x, _, rfl⟩ := List.mem_map.1 hu
  rfl

section
variable {P : Program} {t e : TypeId} {z : Value} {size bytes : Nat}

/-- append onto what the call owns: the new row lies where the old one lay, or is new. -/
theorem run_append_rd (T : SlTy P t e z size bytes) (w : World) (ty : TypeId) (base : Nat) (A : Option Addr) (n c : Nat) (xs : List Value) (hown : Own w base e size A n c xs)
    (B : Nat) (A1 : Option Addr) (m c1 : Nat) (news : List Value) (hr : Rd w B A1 news) (hl : news.length = m * size) (h1 : ∀ u ∈ news, u.oneCell' = true)
    (h63 : n + m ≤ maxLen) (hbytes : (n + m) * bytes ≤ 140737488355328) (hbase : base ≤ w.heap.size) :
    ∃ A2 c2 w', (Builtin.append_ #[t, t] ty #[.slice A n c, .slice A1 m c1]).run P w = .ok (.slice A2 (n + m) c2) w' ∧ Own w' base e size A2 (n + m) c2 (xs ++ news) ∧
      w.grownBy w' (Value.slice A n c).ownBlock := by
  obtain ⟨i, hi, hz, hs, hby⟩ := T.inf
  rcases A1 with _ | p
  · have hn : news = [] := by
      rcases news with _ | ⟨u, r⟩
      · rfl
      · obtain ⟨q, e, _⟩ := hr 0 u rfl
        cases e
    subst hn
    have hm : m = 0 := by
      rcases Nat.eq_zero_or_pos m with h | h
      · exact h
      · have := Nat.mul_pos h T.pos
        simp at hl
        omega
    subst hm
    refine ⟨A, c, w, ?_, by simpa using hown, World.grownBy.refl w _⟩
    rcases hown.2 with ⟨h', _⟩ | ⟨g, cap, cur, h', _, _, hnc, _⟩
    · injection h' with hA hn0 hc0
      subst hA; subst hn0; subst hc0
      simp [Builtin.append_, run_underlying T.und, sizeOf, typeInfo, hi, Builtin.lenOf, Builtin.firstCells]
    · injection h' with hA _ hcap
      subst hA; subst hcap
      simp [Builtin.append_, run_underlying T.und, sizeOf, typeInfo, hi, Builtin.lenOf, Builtin.firstCells, hnc, storeCells]
  · have hnews : ∀ j u, news[j]? = some u → w.cell? (p.add j) = some u := fun j u hu => by
      obtain ⟨q, e, _, hc⟩ := hr j u hu
      injection e with e
      subst e
      exact hc
    obtain ⟨v', w', hrun, ho, hg, _⟩ := run_append_own (P := P) w base t ty e i z size bytes T.und hi hz hs hby T.cells T.pos (.slice A n c) n xs hown p m c1 news hl hnews h1 h63 hbytes hbase
    rcases ho.2 with ⟨rfl, h0⟩ | ⟨g, cap, cur, rfl, r⟩
    · rw [h0] at ho ⊢
      exact ⟨_, _, _, hrun, ho, hg⟩
    · exact ⟨_, _, _, hrun, ho, hg⟩

theorem wp_append_rd (T : SlTy P t e z size bytes) {w : World} {o : Oper} {a : Act} {K : Act → World → Prop} {Q : Exit → Act → World → Prop} (s x : Operand)
    (ho : o.op = .call { callee := .builtin .append, args := #[s, x], argTypes := #[t, t] })
    (base : Nat) (A : Option Addr) (n c : Nat) (xs : List Value) (hs : a.eval s = .slice A n c) (hown : Own w base e size A n c xs)
    (B : Nat) (A1 : Option Addr) (m c1 : Nat) (news : List Value) (hx : a.eval x = .slice A1 m c1) (hr : Rd w B A1 news) (hl : news.length = m * size) (h1 : ∀ u ∈ news, u.oneCell' = true)
    (h63 : n + m ≤ maxLen) (hbytes : (n + m) * bytes ≤ 140737488355328) (hbase : base ≤ w.heap.size)
    (h : ∀ A2 c2 w', Own w' base e size A2 (n + m) c2 (xs ++ news) → w.grownBy w' (Value.slice A n c).ownBlock → K (a.put o.dst (.slice A2 (n + m) c2)) w') : o.wp P a w K Q := by
  obtain ⟨A2, c2, w', hrun, h2, h3⟩ := run_append_rd T w o.type base A n c xs hown B A1 m c1 news hr hl h1 h63 hbytes hbase
  unfold Oper.wp execOp
  simp only [ho, resolve, invoke, builtin, Sem.run_bind, Sem.run_pure, Result.andThen_ok, List.map_toArray, List.map_cons, List.map_nil, hs, hx, hrun]
  exact h A2 c2 w' h2 h3

/-- The next operation is done, guarded or not. -/
theorem wpList_want {P : Program} {w : World} {ops : Array Oper} {rest : List Oper} {o : Oper} {a : Act} {Q : Exit → Act → World → Prop} (hw : Region.wanted o (yielded ops a.tmps) = true)
    (h : ∀ K : Act → World → Prop, (∀ a w, wpList P ops Q rest a w → K a w) → o.wp P a w K Q) : wpList P ops Q (o :: rest) a w :=
  wpList_step fun K hK => by rw [if_pos hw]; exact h K hK

theorem wpList_append_rd (T : SlTy P t e z size bytes) {w : World} {ops : Array Oper} {rest : List Oper} {o : Oper} {a : Act} {Q : Exit → Act → World → Prop} (hw : Region.wanted o (yielded ops a.tmps) = true) (s x : Operand)
    (ho : o.op = .call { callee := .builtin .append, args := #[s, x], argTypes := #[t, t] })
    (base : Nat) (A : Option Addr) (n c : Nat) (xs : List Value) (hs : a.eval s = .slice A n c) (hown : Own w base e size A n c xs)
    (B : Nat) (A1 : Option Addr) (m c1 : Nat) (news : List Value) (hx : a.eval x = .slice A1 m c1) (hr : Rd w B A1 news) (hl : news.length = m * size) (h1 : ∀ u ∈ news, u.oneCell' = true)
    (h63 : n + m ≤ maxLen) (hbytes : (n + m) * bytes ≤ 140737488355328) (hbase : base ≤ w.heap.size)
    (h : ∀ A2 c2 w', Own w' base e size A2 (n + m) c2 (xs ++ news) → w.grownBy w' (Value.slice A n c).ownBlock → wpList P ops Q rest (a.put o.dst (.slice A2 (n + m) c2)) w') :
    wpList P ops Q (o :: rest) a w :=
  wpList_want hw fun _ hK => wp_append_rd T s x ho base A n c xs hs hown B A1 m c1 news hx hr hl h1 h63 hbytes hbase fun A2 c2 w' h2 h3 => hK _ _ (h A2 c2 w' h2 h3)

end


/-- make, of a length that is a variable. -/
theorem wpList_make_rd {P : Program} {t e : TypeId} {z : Value} {size bytes : Nat} (T : SlTy P t e z size bytes) {w : World} {ops : Array Oper} {rest : List Oper} {o : Oper} {a : Act} {Q : Exit → Act → World → Prop}
    (hg : o.guard = none) (l c : Operand) (hop : o.op = Op.makeSlice t l c) (base : Nat) (kl kc : IntKind) (n : Nat) (hl : a.eval l = .int kl (n : Int)) (hc : a.eval c = .int kc (n : Int))
    (b2 : bytes * n ≤ 281474976710656) (b3 : n ≤ maxLen) (b4 : base ≤ w.heap.size)
    (hK : ∀ w', Own w' base e size (some ⟨w.heap.size, 0, none⟩) n n (madeCells z.cells (n * size)).toList → w.grownBy w' none → w.heap.size < w'.heap.size →
      wpList P ops Q rest (a.put o.dst (.slice (some ⟨w.heap.size, 0, none⟩) n n)) w') : wpList P ops Q (o :: rest) a w := by
  obtain ⟨i, hi, hz, hs, hby⟩ := T.inf
  refine wpList_make_full w hg l c t hop base e i z size T.und hi hz hs kl kc _ _ n hl hc rfl rfl (by rw [hby]; exact b2) b3 b4 fun w' h1 h2 => hK w' h1 h2 ?_
  rcases h1.2 with ⟨h, _⟩ | ⟨g, cap, cur, h, _, hg, _⟩
  · cases h
  · injection h with h
    injection h with h
    injection h with h
    subst h
    exact (Array.getElem?_eq_some_iff.1 hg).1

/-! ### Rows of bytes that the call owns -/

/-- The slice type of bytes. -/
theorem tyU8 : SlTy Try.prog 26 5 (.int .u8 0) 1 1 :=
  ⟨Try.underlying26, info_parts (by kernel_rfl), rfl, by decide, by intro u hu; simp [Value.cells] at hu; subst hu; rfl⟩

def OwnB (w : World) (base : Nat) (A : Option Addr) (n c : Nat) (bs : List UInt8) : Prop := Own w base 5 1 A n c (bs.map bv)

section
variable {w w' : World} {base n c : Nat} {A : Option Addr} {bs : List UInt8}
theorem OwnB.nil (w : World) (base : Nat) : OwnB w base none 0 0 [] := Own.nil _ _ _ _
theorem OwnB.sl (h : OwnB w base A n c bs) : SlB w w.heap.size A n c bs := Own.bytes h
theorem OwnB.len (h : OwnB w base A n c bs) : bs.length = n := h.sl.len
theorem OwnB.block (h : OwnB w base A n c bs) : (A = none ∧ n = 0 ∧ c = 0) ∨ ∃ g, A = some ⟨g, 0, none⟩ ∧ base ≤ g ∧ g < w.heap.size := Own.block h
theorem OwnB.below {B : Nat} (h : OwnB w base A n c bs) (hb : Below B w w') (hB : w.heap.size ≤ B) : OwnB w' base A n c bs := Own.below h hb hB
theorem OwnB.drew (h : OwnB w base A n c bs) : OwnB w.drew base A n c bs := h
theorem OwnB.drewN (h : OwnB w base A n c bs) (k : Nat) : OwnB (w.drewN k) base A n c bs := h
theorem OwnB.alloc (h : OwnB w base A n c bs) (o : Obj) : OwnB (w.alloc o) base A n c bs := Own.alloc h o
theorem OwnB.down {base' : Nat} (h : OwnB w base A n c bs) (hb : base' ≤ base) : OwnB w base' A n c bs := Own.down h hb
theorem OwnB.kept {row : Option Nat} (h : OwnB w base A n c bs) (hg : w.grownBy w' row) (hne : ∀ g, A = some ⟨g, 0, none⟩ → row ≠ some g) : OwnB w' base A n c bs := Own.kept h hg hne
theorem OwnB.cast {bs' : List UInt8} (h : OwnB w base A n c bs) (e : bs = bs') : OwnB w base A n c bs' := e ▸ h
/-- Where it is not empty it begins a block. -/
theorem OwnB.head (h : OwnB w base A n c bs) (hn : 0 < n) : ∃ g, A = some ⟨g, 0, none⟩ ∧ base ≤ g ∧ g < w.heap.size := by
  rcases h.block with ⟨_, h, _⟩ | h
  · omega
  · exact h
theorem OwnB.cell {g j : Nat} (h : OwnB w base (some ⟨g, 0, none⟩) n c bs) (hj : j < n) : ∃ x : UInt8, w.cell? ⟨g, j, none⟩ = some (.int .u8 (x.toNat : Int)) ∧ bs[j]? = some x ∧ x.toNat < 256 := by
  have hk : j < bs.length := by rw [h.len]; exact hj
  refine ⟨bs[j], ?_, List.getElem?_eq_getElem hk, bs[j].toNat_lt⟩
  rw [World.ownsRow.cellAt h j (by omega)]
  simp [hk, bv]
theorem OwnB.free {g : Nat} (h : OwnB w base (some ⟨g, 0, none⟩) n c bs) (j : Nat) : w.frozen? ⟨g, j, none⟩ = false := World.ownsRow.frozenAt h j
theorem OwnB.store {g : Nat} (h : OwnB w base (some ⟨g, 0, none⟩) n c bs) (j : Nat) {u : Value} {x : UInt8} (hu : u = bv x) : OwnB (w.setCell ⟨g, j, none⟩ u) base (some ⟨g, 0, none⟩) n c (bs.set j x) := by
  subst hu
  have := (World.ownsRow.stored h j (bv x)).1
  unfold OwnB Own
  rw [List.map_set]
  exact this
end

theorem bv_ofNat (m : Nat) : bv (UInt8.ofNat m) = .int .u8 ((m % 256 : Nat) : Int) := by
  unfold bv
  rw [UInt8.toNat_ofNat']

theorem bv_small {m : Nat} (h : m < 256) : Value.int .u8 (m : Int) = bv (UInt8.ofNat m) := by
  rw [bv_ofNat, Nat.mod_eq_of_lt h]

theorem toList_made_u8 (n : Nat) : (madeCells (Value.int .u8 0).cells (n * 1)).toList = (List.replicate n (0 : UInt8)).map bv := by
  rw [Nat.mul_one, List.map_replicate]
  exact toList_madeCells_one (.int .u8 0) n

/-- A literal of bytes, just laid. -/
theorem OwnB.lit {w : World} {base : Nat} (cs : Array Value) (bs : List UInt8) (n : Nat) (hc : cs.toList = bs.map bv) (hn : bs.length = n) (hm : n ≤ 140737488355328) (hb : base ≤ w.heap.size) :
    OwnB (w.alloc (.cells cs 5)) base (some ⟨w.heap.size, 0, none⟩) n n bs := by
  have := Own.lit (base := base) w cs 5 1 n hb (by unfold maxLen; omega) (by rw [← Array.length_toList, hc, List.length_map, hn, Nat.mul_one])
  rw [hc] at this
  exact this

/-- make([]byte, n). -/
theorem wpList_make_b {w : World} {ops : Array Oper} {rest : List Oper} {o : Oper} {a : Act} {Q : Exit → Act → World → Prop}
    (hg : o.guard = none) (l c : Operand) (hop : o.op = Op.makeSlice 26 l c) (base n : Nat) (hl : a.eval l = .int .i64 (n : Int)) (hc : a.eval c = .int .i64 (n : Int))
    (b3 : n ≤ 140737488355328) (b4 : base ≤ w.heap.size)
    (hK : ∀ w', OwnB w' base (some ⟨w.heap.size, 0, none⟩) n n (List.replicate n 0) → Below w.heap.size w w' → w.heap.size < w'.heap.size →
      wpList Try.prog ops Q rest (a.put o.dst (.slice (some ⟨w.heap.size, 0, none⟩) n n)) w') : wpList Try.prog ops Q (o :: rest) a w := by
  refine wpList_make_rd tyU8 hg l c hop base _ _ n hl hc (by omega) (by unfold maxLen; omega) b4 fun w' h1 h2 h3 => hK w' ?_ ((Below.refl _ _).grown h2 (Nat.le_refl _) (by simp)) h3
  rw [toList_made_u8] at h1
  exact h1

/-- append of bytes onto a row that the call owns. -/
theorem wpList_append_b {w : World} {ops : Array Oper} {rest : List Oper} {o : Oper} {a : Act} {Q : Exit → Act → World → Prop} (hw : Region.wanted o (yielded ops a.tmps) = true) (s x : Operand)
    (ho : o.op = .call { callee := .builtin .append, args := #[s, x], argTypes := #[26, 26] })
    (base : Nat) (A : Option Addr) (n c : Nat) (bs : List UInt8) (hs : a.eval s = .slice A n c) (hown : OwnB w base A n c bs)
    (B : Nat) (A1 : Option Addr) (m c1 : Nat) (news : List UInt8) (hx : a.eval x = .slice A1 m c1) (hr : SlB w B A1 m c1 news)
    (hb : n + m ≤ 140737488355328) (hbase : base ≤ w.heap.size)
    (h : ∀ A2 c2 w', OwnB w' base A2 (n + m) c2 (bs ++ news) → w.grownBy w' (Value.slice A n c).ownBlock → Below base w w' → wpList Try.prog ops Q rest (a.put o.dst (.slice A2 (n + m) c2)) w') :
    wpList Try.prog ops Q (o :: rest) a w := by
  refine wpList_append_rd tyU8 hw s x ho base A n c _ hs hown B A1 m c1 (news.map bv) hx hr.rd (by rw [List.length_map, hr.len, Nat.mul_one]) (bytes_one news) (by unfold maxLen; omega) (by omega) hbase
    fun A2 c2 w' h2 h3 => h A2 c2 w' ?_ h3 ?_
  · unfold OwnB
    rw [List.map_append]
    exact h2
  · refine (Below.refl _ _).grown h3 hbase fun k hk => ?_
    rcases hown.block with ⟨rfl, rfl, rfl⟩ | ⟨g, rfl, hg, _⟩
    · simp [Value.ownBlock] at hk
    · simp [Value.ownBlock] at hk
      omega


/-- copy of whole bytes into a row that the call has made, from a place on. -/
theorem wpList_copy_b {w : World} {ops : Array Oper} {rest : List Oper} {o : Oper} {a : Act} {Q : Exit → Act → World → Prop} (hgd : o.guard = none) (d s : Operand)
    (ho : o.op = .call { callee := .builtin .copy, args := #[d, s], argTypes := #[26, 26] })
    (base g n off : Nat) (bs : List UInt8) (dp : Option Addr) (dLen dCap : Nat) (hd : a.eval d = .slice dp dLen dCap) (hown : OwnB w base (some ⟨g, 0, none⟩) n n bs)
    (B : Nat) (A1 : Option Addr) (m c1 : Nat) (src : List UInt8) (hs : a.eval s = .slice A1 m c1) (hr : SlB w B A1 m c1 src) (hfit : off + m ≤ n) (hdl : m ≤ dLen) (hdp : 0 < m → dp = some ⟨g, off, none⟩)
    (w0 : World) (B0 : Nat) (hb : Below B0 w0 w) (hBg : B0 ≤ g)
    (h : ∀ w', OwnB w' base (some ⟨g, 0, none⟩) n n (bs.take off ++ (src ++ bs.drop (off + m))) → Below B0 w0 w' → w'.heap.size = w.heap.size → wpList Try.prog ops Q rest (a.put o.dst (.int .i64 (m : Int))) w') :
    wpList Try.prog ops Q (o :: rest) a w := by
  have hlen := hown.len
  obtain ⟨hx, hor⟩ := hown
  rcases hor with ⟨h', _⟩ | ⟨g', cap, cur, h', hbg, hg, hnc, hcm, hcs, htake⟩
  · cases h'
  · injection h' with h1 h2 h3
    injection h1 with h1
    injection h1 with h1
    subst h1; subst h3
    have hcur : cur = (bs.map bv).toArray := by
      rw [← htake, Nat.mul_one, List.take_of_length_le (by rw [Array.length_toList, hcs]; omega)]
    subst hcur
    have hsz : (Try.prog.info? 5).map (·.size) = some 1 := by
      obtain ⟨i, hi, _, hs, _⟩ := tyU8.inf
      rw [hi]; simp [hs]
    have key : ∀ w', w'.heap[g]? = some (.cells (splice (bs.map bv) off (src.map bv)).toArray 5 (0, 0)) → OwnB w' base (some ⟨g, 0, none⟩) n n (bs.take off ++ (src ++ bs.drop (off + m))) := by
      intro w' hw
      have e : splice (bs.map bv) off (src.map bv) = (bs.take off ++ (src ++ bs.drop (off + m))).map bv := by
        unfold splice
        rw [List.length_map, hr.len, List.map_append, List.map_append, List.map_take, List.map_drop]
      rw [e] at hw
      have hl : (bs.take off ++ (src ++ bs.drop (off + m))).length = n := by
        simp only [List.length_append, List.length_take, List.length_drop, hr.len, hlen]; omega
      exact ⟨by rw [List.length_map, hl, Nat.mul_one], .inr ⟨g, n, _, rfl, hbg, hw, Nat.le_refl _, hcm, by simp only [List.size_toArray, List.length_map, hl, Nat.mul_one], by rw [Nat.mul_one, List.take_of_length_le (by simp only [List.length_map, hl, Nat.le_refl])]⟩⟩
    have hlm : (src.map bv).length = m := by rw [List.length_map, hr.len]
    by_cases h0 : m = 0
    · subst h0
      have hsrc : src = [] := List.eq_nil_of_length_eq_zero hr.len
      subst hsrc
      refine wpList_copy_nothing hgd d s 26 26 ho 5 Try.underlying26 hsz _ A1 _ _ 0 c1 hd hs (Nat.min_eq_left (Nat.zero_le _)) ?_
      exact h w (key w (by simpa [splice] using hg)) hb rfl
    · have hpos : 0 < src.length := by rw [hr.len]; omega
      obtain ⟨p, rfl, _, _⟩ := hr.rd.byte hpos
      obtain rfl := hdp (by omega)
      refine wpList_copy_own hgd d s 26 26 ho 5 Try.underlying26 hsz g off _ _ p m c1 hd hs _ 5 hg (src.map bv) (by rw [hlm]; exact (Nat.min_eq_left (by omega)).symm)
        (fun j v hv => by
          obtain ⟨q, e, _, hc⟩ := hr.rd j v hv
          injection e with e
          subst e
          exact hc) (by simp only [List.size_toArray, List.length_map, hr.len, hlen]; omega) (bytes_one src) ?_
      rw [hlm]
      refine h _ (key _ ?_) (below_setRow hb hBg _) (by simp [World.setRow])
      have := setRow_heap w g _ (splice (List.map bv bs) off (List.map bv src)).toArray 5 _ hg
      simpa [splice, hlm] using this

/-- A literal of bytes, just laid, frozen or not. -/
theorem SlB.laid (w : World) (cs : Array Value) (e : TypeId) (fz : Nat × Nat) (bs : List UInt8) (n : Nat) (hc : cs.toList = bs.map bv) (hn : bs.length = n) :
    SlB (w.alloc (.cells cs e fz)) (w.heap.size + 1) (some ⟨w.heap.size, 0, none⟩) n n bs :=
  ⟨hn, Nat.le_refl _, fun j u hu => by
    refine ⟨_, rfl, Nat.lt_succ_self _, ?_⟩
    have hadd : (⟨w.heap.size, 0, none⟩ : Addr).add j = ⟨w.heap.size, j, none⟩ := by unfold Addr.add; split <;> simp_all
    rw [hadd, cell_of_row _ _ j cs e fz (heap_alloc_new w _), ← Array.getElem?_toList, hc]
    exact hu⟩

/-! ### Whole numbers -/

/-- An int as a value. -/
def iv (z : Int) : Value := .int .i64 z

/-- A slice of n ints, which reads as these. -/
structure SlI (w : World) (B : Nat) (A : Option Addr) (n c : Nat) (zs : List Int) : Prop where
  len : zs.length = n
  cap : n ≤ c
  rd : Rd w B A (zs.map iv)

section
variable {w w' : World} {B B' : Nat} {A : Option Addr} {n c : Nat} {zs : List Int}
theorem SlI.at_ (h : SlI w B A n c zs) {k : Nat} (hk : k < n) : ∃ p z, A = some p ∧ p.block < B ∧ w.cell? (p.add k) = some (.int .i64 z) ∧ zs[k]? = some z := by
  have hk' : k < zs.length := by rw [h.len]; exact hk
  obtain ⟨p, e, hb, hc⟩ := h.rd k (iv zs[k]) (by simp [hk'])
  exact ⟨p, zs[k], e, hb, hc, List.getElem?_eq_getElem hk'⟩
theorem SlI.below (h : SlI w B A n c zs) (hb : Below B w w') : SlI w' B A n c zs := ⟨h.len, h.cap, h.rd.below hb⟩
theorem SlI.up (h : SlI w B A n c zs) (hB : B ≤ B') : SlI w B' A n c zs := ⟨h.len, h.cap, h.rd.up hB⟩
theorem SlI.drewN (h : SlI w B A n c zs) (k : Nat) : SlI (w.drewN k) B A n c zs := ⟨h.len, h.cap, h.rd⟩
theorem SlI.alloc (h : SlI w B A n c zs) (hB : B ≤ w.heap.size) (o : Obj) : SlI (w.alloc o) B A n c zs := ⟨h.len, h.cap, h.rd.alloc hB o⟩
theorem SlI.none_ (w : World) (B c : Nat) (A : Option Addr) : SlI w B A 0 c [] := ⟨rfl, Nat.zero_le _, Rd.nil _ _ _⟩
theorem SlI.cut (h : SlI w B A n c zs) {l : Nat} (hl : l ≤ n) : SlI w B (cutA A c l 1) (n - l) (c - l) (zs.drop l) :=
  ⟨by rw [List.length_drop, h.len], by have := h.cap; omega, by
    have := h.rd.cut (s := 1) (cap := c) (l := l) (by have := h.cap; have := h.len; simp; omega) (by have := h.cap; omega)
    rw [Nat.mul_one, ← List.map_drop] at this
    exact this⟩
theorem SlI.take (h : SlI w B A n c zs) {k m : Nat} (hk : k ≤ n) (hm : k ≤ m) : SlI w B A k m (zs.take k) :=
  ⟨by rw [List.length_take, h.len]; omega, hm, by rw [List.map_take]; exact h.rd.take k⟩
end
theorem ints_one (zs : List Int) : ∀ u ∈ zs.map iv, u.oneCell' = true := by
  intro u hu
  obtain ⟨x, _, rfl⟩ := List.mem_map.1 hu
  rfl
theorem take_nextI {α : Type} {l : List α} {k : Nat} {x : α} (h : l[k]? = some x) : l.take (k + 1) = l.take k ++ [x] := by
  rw [List.take_add_one, h]; rfl

/-! ### A block that is known whole -/

def Row (w : World) (g : Nat) (t : TypeId) (cs : Array Value) : Prop := w.heap[g]? = some (.cells cs t (0, 0))
section
variable {w w' : World} {g : Nat} {t : TypeId} {cs : Array Value}
theorem Row.lt (h : Row w g t cs) : g < w.heap.size := (Array.getElem?_eq_some_iff.1 h).1
theorem Row.cell (h : Row w g t cs) (i : Nat) : w.cell? ⟨g, i, none⟩ = cs[i]? := cell_of_row w g i cs t (0, 0) h
theorem Row.free (h : Row w g t cs) (i : Nat) : w.frozen? ⟨g, i, none⟩ = false := frozen_of_row w g i cs t h
theorem Row.new (w : World) (t : TypeId) (cs : Array Value) : Row (w.alloc (.cells cs t)) w.heap.size t cs := heap_alloc_new w _
theorem Row.set_ (h : Row w g t cs) (i : Nat) (u : Value) : Row (w.setCell ⟨g, i, none⟩ u) g t (cs.setIfInBounds i u) := heap_setCell_same w g i cs t u h
theorem Row.below {B : Nat} (h : Row w g t cs) (hb : Below B w w') (hg : g < B) : Row w' g t cs := (hb.block g hg).trans h
theorem Row.alloc (h : Row w g t cs) (o : Obj) : Row (w.alloc o) g t cs := h.below ((Below.refl (g + 1) w).alloc h.lt o) (Nat.lt_succ_self _)
theorem Row.far (h : Row w g t cs) {p : Addr} (hp : g ≠ p.block) (u : Value) : Row (w.setCell p u) g t cs := (Below.heap_setCell w p u g hp).trans h
theorem Row.drewN (h : Row w g t cs) (k : Nat) : Row (w.drewN k) g t cs := h
theorem Row.grown {row : Option Nat} (h : Row w g t cs) (hg : w.grownBy w' row) (hne : row ≠ some g) : Row w' g t cs := (hg.block g h.lt (fun e => hne e.symm)).trans h
end

/-! ### Step by step: what was read stays read in each later world -/

theorem after_next {w w1 w2 : World} (h : Below w.heap.size w w1) (h' : Below w1.heap.size w1 w2) : Below w.heap.size w w2 := h.trans (h'.mono h.size)
theorem after_lay {w w1 : World} (h : Below w.heap.size w w1) (o : Obj) : Below w.heap.size w (w1.alloc o) := h.alloc h.size o
theorem after_draw {w w1 : World} (h : Below w.heap.size w w1) : Below w.heap.size w w1.drew := h.drew
theorem after_draws {w w1 : World} (h : Below w.heap.size w w1) (k : Nat) : Below w.heap.size w (w1.drewN k) := h.trans (below_draws _ _ _)
theorem cell_next {w1 w2 : World} {p : Addr} {v : Value} (hb : Below w1.heap.size w1 w2) (h : w1.cell? p = some v) : w2.cell? p = some v := (hb.cell (World.block_lt_of_cell? w1 p h)).trans h
theorem cell_lay {w : World} {o : Obj} {p : Addr} {v : Value} (h : w.cell? p = some v) : (w.alloc o).cell? p = some v := (World.cell?_alloc_lt w o p (World.block_lt_of_cell? w p h)).trans h
theorem SlB.next {w w' : World} {A : Option Addr} {n c : Nat} {bs : List UInt8} (h : SlB w w.heap.size A n c bs) (hb : Below w.heap.size w w') : SlB w' w'.heap.size A n c bs := (h.below hb).up hb.size
theorem SlB.draw1 {w : World} {A : Option Addr} {n c : Nat} {bs : List UInt8} (h : SlB w w.heap.size A n c bs) : SlB w.drew w.drew.heap.size A n c bs := ⟨h.len, h.cap, h.rd⟩
theorem SlB.lay {w : World} {A : Option Addr} {n c : Nat} {bs : List UInt8} (h : SlB w w.heap.size A n c bs) (o : Obj) : SlB (w.alloc o) (w.alloc o).heap.size A n c bs := (h.alloc (Nat.le_refl _) o).up (by simp)
theorem SlB.laidN {w : World} {cs : Array Value} {e : TypeId} {fz : Nat × Nat} {bs : List UInt8} {n g : Nat} (hg : g = w.heap.size) (hc : cs.toList = bs.map bv) (hn : bs.length = n) :
    SlB (w.alloc (.cells cs e fz)) (w.alloc (.cells cs e fz)).heap.size (some ⟨g, 0, none⟩) n n bs := by
  subst hg
  exact (SlB.laid w cs e fz bs n hc hn).up (by simp)
theorem SlI.next {w w' : World} {A : Option Addr} {n c : Nat} {zs : List Int} (h : SlI w w.heap.size A n c zs) (hb : Below w.heap.size w w') : SlI w' w'.heap.size A n c zs := (h.below hb).up hb.size
theorem SlI.lay {w : World} {A : Option Addr} {n c : Nat} {zs : List Int} (h : SlI w w.heap.size A n c zs) (o : Obj) : SlI (w.alloc o) (w.alloc o).heap.size A n c zs := (h.alloc (Nat.le_refl _) o).up (by simp)

end Go.Proofs.Ytfppilpaaoklaaa
