/- Rows of ints that a call owns: literals, append. -/
import Derived.Test.YtoahkaongmlfkaaBase
namespace Go.Proofs.Ytoahkaongmlfkaa
set_option linter.unusedSimpArgs false
set_option linter.unusedVariables false
open Go.RowKit

theorem Own.belowA {w w' : World} {base e size n c : Nat} {A : Option Addr} {xs : List Value} (hown : Own w base e size A n c xs) (h3 : w.grownBy w' (Value.slice A n c).ownBlock) (hbase : base ≤ w.heap.size) : Below base w w' := by
  refine (Below.refl _ _).grown h3 hbase fun k hk => ?_
  rcases hown.block with ⟨rfl, rfl, rfl⟩ | ⟨g, rfl, hg, _⟩
  · simp [Value.ownBlock] at hk
  · simp [Value.ownBlock] at hk
    omega

theorem tyI64 : SlTy Try.prog 22 3 (.int .i64 0) 1 8 :=
  ⟨Try.underlying22, info_parts (by kernel_rfl), rfl, by decide, by intro u hu; simp [Value.cells] at hu; subst hu; rfl⟩

def OwnI (w : World) (base : Nat) (A : Option Addr) (n c : Nat) (zs : List Int) : Prop := Own w base 3 1 A n c (zs.map iv)

section
variable {w w' : World} {base n c : Nat} {A : Option Addr} {zs : List Int}
theorem OwnI.nil (w : World) (base : Nat) : OwnI w base none 0 0 [] := Own.nil _ _ _ _
theorem OwnI.sl (h : OwnI w base A n c zs) : SlI w w.heap.size A n c zs :=
  ⟨by have := Own.len h; rw [List.length_map] at this; omega, Own.cap_le h, Own.rd h⟩
theorem OwnI.len (h : OwnI w base A n c zs) : zs.length = n := h.sl.len
theorem OwnI.below {B : Nat} (h : OwnI w base A n c zs) (hb : Below B w w') (hB : w.heap.size ≤ B) : OwnI w' base A n c zs := Own.below h hb hB
theorem OwnI.drewN (h : OwnI w base A n c zs) (k : Nat) : OwnI (w.drewN k) base A n c zs := h
theorem OwnI.alloc (h : OwnI w base A n c zs) (o : Obj) : OwnI (w.alloc o) base A n c zs := Own.alloc h o
theorem OwnI.down {base' : Nat} (h : OwnI w base A n c zs) (hb : base' ≤ base) : OwnI w base' A n c zs := Own.down h hb
theorem OwnI.cast {zs' : List Int} (h : OwnI w base A n c zs) (e : zs = zs') : OwnI w base A n c zs' := e ▸ h
end

theorem SlI.laid (w : World) (cs : Array Value) (e : TypeId) (fz : Nat × Nat) (zs : List Int) (n : Nat) (hc : cs.toList = zs.map iv) (hn : zs.length = n) :
    SlI (w.alloc (.cells cs e fz)) (w.heap.size + 1) (some ⟨w.heap.size, 0, none⟩) n n zs :=
  ⟨hn, Nat.le_refl _, fun j u hu => by
    refine ⟨_, rfl, Nat.lt_succ_self _, ?_⟩
    have hadd : (⟨w.heap.size, 0, none⟩ : Addr).add j = ⟨w.heap.size, j, none⟩ := by unfold Addr.add; split <;> simp_all
    rw [hadd, cell_of_row _ _ j cs e fz (heap_alloc_new w _), ← Array.getElem?_toList, hc]
    exact hu⟩
theorem SlI.laidN {w : World} {cs : Array Value} {e : TypeId} {fz : Nat × Nat} {zs : List Int} {n g : Nat} (hg : g = w.heap.size) (hc : cs.toList = zs.map iv) (hn : zs.length = n) :
    SlI (w.alloc (.cells cs e fz)) (w.alloc (.cells cs e fz)).heap.size (some ⟨g, 0, none⟩) n n zs := by
  subst hg; rw [World.size_alloc]; exact SlI.laid w cs e fz zs n hc hn

/-- append of ints onto a row that the call owns. -/
theorem wpList_append_i {w : World} {ops : Array Oper} {rest : List Oper} {o : Oper} {a : Act} {Q : Exit → Act → World → Prop} (hw : Region.wanted o (yielded ops a.tmps) = true) (s x : Operand)
    (ho : o.op = .call { callee := .builtin .append, args := #[s, x], argTypes := #[22, 22] })
    (base : Nat) (A : Option Addr) (n c : Nat) (zs : List Int) (hs : a.eval s = .slice A n c) (hown : OwnI w base A n c zs)
    (B : Nat) (A1 : Option Addr) (m c1 : Nat) (news : List Int) (hx : a.eval x = .slice A1 m c1) (hr : SlI w B A1 m c1 news)
    (hb : n + m ≤ 17592186044416) (hbase : base ≤ w.heap.size)
    (h : ∀ A2 c2 w', OwnI w' base A2 (n + m) c2 (zs ++ news) → w.grownBy w' (Value.slice A n c).ownBlock → Below base w w' → wpList Try.prog ops Q rest (a.put o.dst (.slice A2 (n + m) c2)) w') :
    wpList Try.prog ops Q (o :: rest) a w := by
  refine wpList_append_rd tyI64 hw s x ho base A n c _ hs hown B A1 m c1 (news.map iv) hx hr.rd (by rw [List.length_map, hr.len, Nat.mul_one]) (ints_one news) (by unfold maxLen; omega) (by omega) hbase
    fun A2 c2 w' h2 h3 => h A2 c2 w' ?_ h3 (Own.belowA hown h3 hbase)
  unfold OwnI
  rw [List.map_append]
  exact h2

/-- A store into another block. -/
theorem Rd.store_ne {w : World} {B : Nat} {A : Option Addr} {xs : List Value} (h : Rd w B A xs) {q : Addr} (hne : ∀ p, A = some p → q.block ≠ p.block) (u : Value) : Rd (w.setCell q u) B A xs := fun j x hx => by
  obtain ⟨p, e, hb, hc⟩ := h j x hx
  refine ⟨p, e, hb, ?_⟩
  rw [← hc]
  have := Below.heap_setCell w q u (p.add j).block (by rw [add_block]; exact fun e' => hne p e e'.symm)
  unfold World.cell?
  rw [this]
theorem SlI.store_ne {w : World} {B n c : Nat} {A : Option Addr} {zs : List Int} (h : SlI w B A n c zs) {q : Addr} (hne : ∀ p, A = some p → q.block ≠ p.block) (u : Value) : SlI (w.setCell q u) B A n c zs := ⟨h.len, h.cap, h.rd.store_ne hne u⟩
theorem SlB.store_ne {w : World} {B n c : Nat} {A : Option Addr} {bs : List UInt8} (h : SlB w B A n c bs) {q : Addr} (hne : ∀ p, A = some p → q.block ≠ p.block) (u : Value) : SlB (w.setCell q u) B A n c bs := ⟨h.len, h.cap, h.rd.store_ne hne u⟩
theorem SlB.ofRow {w : World} {g : Nat} {e : TypeId} {cs : Array Value} {bs : List UInt8} {n : Nat} (h : Row w g e cs) (hc : cs.toList = bs.map bv) (hn : bs.length = n) : SlB w w.heap.size (some ⟨g, 0, none⟩) n n bs :=
  ⟨hn, Nat.le_refl _, fun j u hu => by
    refine ⟨_, rfl, h.lt, ?_⟩
    have hadd : (⟨g, 0, none⟩ : Addr).add j = ⟨g, j, none⟩ := by unfold Addr.add; split <;> simp_all
    rw [hadd, h.cell j, ← Array.getElem?_toList, hc]
    exact hu⟩
theorem OwnB.notOwn {w : World} {base n c g : Nat} {A : Option Addr} {bs : List UInt8} (h : OwnB w base A n c bs) (hg : w.heap.size ≤ g) : (Value.slice A n c).ownBlock ≠ some g := by
  rcases h.block with ⟨rfl, rfl, rfl⟩ | ⟨g', rfl, _, hg'⟩
  · simp [Value.ownBlock]
  · simp [Value.ownBlock]; omega
end Go.Proofs.Ytoahkaongmlfkaa
