/- Rows of ints that a call owns: literals, append. -/
import Derived.Test.YtbmdmioikdbigaaBase
namespace Go.Proofs.Ytbmdmioikdbigaa
set_option linter.unusedSimpArgs false
set_option linter.unusedVariables false
open Go.RowKit

theorem Own.belowA {w w' : World} {base e size n c : Nat} {A : Option Addr} {xs : List Value} (hown : Own w base e size A n c xs) (h3 : w.grownBy w' (Value.slice A n c).ownBlock) (hbase : base ≤ w.heap.size) : Below base w w' := by
  refine (Below.refl _ _).grown h3 hbase fun k hk => ?_
  rcases hown.block with ⟨rfl, rfl, rfl⟩ | ⟨g, rfl, hg, _⟩
  · simp [Value.ownBlock] at hk
  · simp [Value.ownBlock] at hk
    omega




theorem SlI.laid (w : World) (cs : Array Value) (e : TypeId) (fz : Nat × Nat) (zs : List Int) (n : Nat) (hc : cs.toList = zs.map iv) (hn : zs.length = n) :
    SlI (w.alloc (.cells cs e fz)) (w.heap.size + 1) (some ⟨w.heap.size, 0, none⟩) n n zs :=
  ⟨hn, Nat.le_refl _, fun j u hu => by
    refine ⟨_, rfl, Nat.lt_succ_self _, ?_⟩
    have hadd : (⟨w.heap.size, 0, none⟩ : Addr).add j = ⟨w.heap.size, j, none⟩ := by unfold Addr.add; split <;> simp_all
    rw [hadd, cell_of_row _ _ j cs e fz (heap_alloc_new w _), ← Array.getElem?_toList, hc]
    exact hu⟩
theorem SlI.laidN {w : World} {cs : Array Value} {e : TypeId} {fz : Nat × Nat} {zs : List Int} {n g : Nat} (hg : g = w.heap.size) (hc : cs.toList = zs.map iv) (hn : zs.length = n) :
    SlI (w.alloc (.cells cs e fz)) (w.alloc (.cells cs e fz)).heap.size (some ⟨g, 0, none⟩) n n zs := by
  subst hg; rw [World.size_alloc]; exact SlI.laid w cs e fz zs n hc hn


/-- A store into another block. -/
theorem Rd.store_ne {w : World} {B : Nat} {A : Option Addr} {xs : List Value} (h : Rd w B A xs) {q : Addr} (hne : ∀ p, A = some p → q.block ≠ p.block) (u : Value) : Rd (w.setCell q u) B A xs := fun j x hx => by
  obtain ⟨p, e, hb, hc⟩ := h j x hx
  refine ⟨p, e, hb, ?_⟩
  rw [← hc]
  have := Below.heap_setCell w q u (p.add j).block (by rw [add_block]; exact fun e' => hne p e e'.symm)
  unfold World.cell?
  rw [this]
theorem SlI.store_ne {w : World} {B n c : Nat} {A : Option Addr} {zs : List Int} (h : SlI w B A n c zs) {q : Addr} (hne : ∀ p, A = some p → q.block ≠ p.block) (u : Value) : SlI (w.setCell q u) B A n c zs := ⟨h.len, h.cap, h.rd.store_ne hne u⟩
theorem SlB.store_ne {w : World} {B n c : Nat} {A : Option Addr} {bs : List UInt8} (h : SlB w B A n c bs) {q : Addr} (hne : ∀ p, A = some p → q.block ≠ p.block) (u : Value) : SlB (w.setCell q u) B A n c bs := ⟨h.len, h.cap, h.rd.store_ne hne u⟩
theorem SlB.ofRow {w : World} {g : Nat} {e : TypeId} {cs : Array Value} {bs : List UInt8} {n : Nat} (h : Row w g e cs) (hc : cs.toList = bs.map bv) (hn : bs.length = n) : SlB w w.heap.size (some ⟨g, 0, none⟩) n n bs :=
  ⟨hn, Nat.le_refl _, fun j u hu => by
    refine ⟨_, rfl, h.lt, ?_⟩
    have hadd : (⟨g, 0, none⟩ : Addr).add j = ⟨g, j, none⟩ := by unfold Addr.add; split <;> simp_all
    rw [hadd, h.cell j, ← Array.getElem?_toList, hc]
    exact hu⟩
theorem OwnB.notOwn {w : World} {base n c g : Nat} {A : Option Addr} {bs : List UInt8} (h : OwnB w base A n c bs) (hg : w.heap.size ≤ g) : (Value.slice A n c).ownBlock ≠ some g := by
  rcases h.block with ⟨rfl, rfl, rfl⟩ | ⟨g', rfl, _, hg'⟩
  · simp [Value.ownBlock]
  · simp [Value.ownBlock]; omega
end Go.Proofs.Ytbmdmioikdbigaa
