/- slices.Concat of bytes: whatever parts, one behind the other in new memory. -/
import Derived.Test.YtoahkaongmlfkaaBase
import Derived.Lib.AppendZeros
namespace Go.Proofs.Ytoahkaongmlfkaa
set_option linter.unusedSimpArgs false
set_option linter.unusedVariables false
open Go.RowKit

theorem Own.shrink {w : World} {base e size n c : Nat} {A : Option Addr} {xs : List Value} (h : Own w base e size A n c xs) {k : Nat} (hk : k ≤ n) : Own w base e size A k c (xs.take (k * size)) := by
  have hl := h.1
  have hm : k * size ≤ n * size := Nat.mul_le_mul_right _ hk
  rcases h.2 with ⟨h', rfl⟩ | ⟨g, cap, cur, h', hb, hg, hn, hcm, hcs, htake⟩
  · obtain rfl : k = 0 := by omega
    injection h' with hA _ hc
    exact ⟨by simp, .inl ⟨by rw [hA, hc], rfl⟩⟩
  · injection h' with hA _ hc
    refine ⟨by rw [List.length_take, hl]; omega, .inr ⟨g, cap, cur, by rw [hA, hc], hb, hg, by omega, hcm, hcs, ?_⟩⟩
    rw [← htake, List.take_take, Nat.min_eq_left hm]

/-- append([]T(nil), make([]T, n)...). -/
theorem wpList_append_zeros {P : Program} {t e tn : TypeId} {z : Value} {size bytes : Nat} (T : SlTy P t e z size bytes) (htn : P.underlying tn = some (.int .i64)) {w : World} {ops : Array Oper} {rest : List Oper} {o : Oper} {a : Act} {Q : Exit → Act → World → Prop}
    (hw : Region.wanted o (yielded ops a.tmps) = true) (s x : Operand) (ho : o.op = .call { callee := .builtin .append, args := #[s, x], argTypes := #[t, tn] }) (base n : Nat)
    (hs : a.eval s = .slice none 0 0) (hx : a.eval x = .int .i64 (n : Int)) (h0 : 0 < n) (h63 : n ≤ maxLen) (h48 : n * bytes ≤ 281474976710656) (hb : base ≤ w.heap.size)
    (h : ∀ c w', (∃ xs, Own w' base e size (some ⟨w.heap.size, 0, none⟩) n c xs) → Below w.heap.size w w' → w.heap.size < w'.heap.size → wpList P ops Q rest (a.put o.dst (.slice (some ⟨w.heap.size, 0, none⟩) n c)) w') :
    wpList P ops Q (o :: rest) a w := by
  obtain ⟨i, hi, hz, hsz, hby⟩ := T.inf
  have hr := Lib.run_append_nil_zeros (P := P) w t tn o.type e i z .i64 .i64 T.und htn hi hz n h0 (by rw [hsz]; exact T.pos) (by unfold maxLen at h63; omega) (by rw [hby]; exact h48)
  have hown : ∃ xs, Own (w.drew.alloc (.cells (Builtin.zeroCells z.cells n ++ Builtin.zeroCells z.cells (grownCap w n 0 e - n)) e)) base e size (some ⟨w.heap.size, 0, none⟩) n (grownCap w n 0 e) xs := by
    have hge := grownCap_ge w n 0 e
    refine ⟨(Builtin.zeroCells z.cells n ++ Builtin.zeroCells z.cells (grownCap w n 0 e - n)).toList.take (n * size), ?_, .inr ⟨w.heap.size, _, _, rfl, hb, heap_alloc_new w.drew _, hge, grownCap_le_maxLen w n 0 e h63, ?_, rfl⟩⟩
    · rw [List.length_take, Array.length_toList, Array.size_append, size_zeroCells, size_zeroCells, T.cells, ← Nat.add_mul]
      have : n * size ≤ (n + (grownCap w n 0 e - n)) * size := Nat.mul_le_mul_right _ (by omega)
      omega
    · rw [Array.size_append, size_zeroCells, size_zeroCells, T.cells, ← Nat.add_mul]
      congr 1
      omega
  exact wpList_want hw fun _ hK => Lib.wp_append_run w s x t tn ho _ _ hs hx _ _ hr (hK _ _ (h _ _ hown (((Below.refl _ _).drew).alloc (Nat.le_refl _) _) (by simp)))

/-- Parts: slices of bytes, in the cells of a row. -/
def PartsOf (w : World) (B : Nat) (vs : List Value) (l : List (List UInt8)) : Prop :=
  vs.length = l.length ∧ ∀ (i : Nat) (bs : List UInt8), l[i]? = some bs → ∃ A n c, vs[i]? = some (Value.slice A n c) ∧ SlB w B A n c bs
structure SlP (w : World) (B : Nat) (A : Option Addr) (n c : Nat) (l : List (List UInt8)) : Prop where
  len : l.length = n
  cap : n ≤ c
  rd : ∃ vs, Rd w B A vs ∧ PartsOf w B vs l
section
variable {w w' : World} {B B' : Nat} {A : Option Addr} {n c : Nat} {l : List (List UInt8)}
theorem SlP.at_ (h : SlP w B A n c l) {k : Nat} (hk : k < n) : ∃ p A' n' c' bs, A = some p ∧ p.block < B ∧ w.cell? (p.add k) = some (.slice A' n' c') ∧ l[k]? = some bs ∧ SlB w B A' n' c' bs := by
  obtain ⟨vs, hr, hl, hp⟩ := h.rd
  have hk' : k < l.length := by rw [h.len]; exact hk
  obtain ⟨A', n', c', hv, hs⟩ := hp k l[k] (List.getElem?_eq_getElem hk')
  obtain ⟨p, e, hb, hc⟩ := hr k _ hv
  exact ⟨p, A', n', c', l[k], e, hb, hc, List.getElem?_eq_getElem hk', hs⟩
theorem SlP.below (h : SlP w B A n c l) (hb : Below B w w') : SlP w' B A n c l := by
  obtain ⟨vs, hr, hl, hp⟩ := h.rd
  exact ⟨h.len, h.cap, vs, hr.below hb, hl, fun i bs hi => by
    obtain ⟨A', n', c', hv, hs⟩ := hp i bs hi
    exact ⟨A', n', c', hv, hs.below hb⟩⟩
theorem SlP.up (h : SlP w B A n c l) (hB : B ≤ B') : SlP w B' A n c l := by
  obtain ⟨vs, hr, hl, hp⟩ := h.rd
  exact ⟨h.len, h.cap, vs, hr.up hB, hl, fun i bs hi => by
    obtain ⟨A', n', c', hv, hs⟩ := hp i bs hi
    exact ⟨A', n', c', hv, hs.up hB⟩⟩
end

theorem SlP.next {w w' : World} {A : Option Addr} {n c : Nat} {l : List (List UInt8)} (h : SlP w w.heap.size A n c l) (hb : Below w.heap.size w w') : SlP w' w'.heap.size A n c l := (h.below hb).up hb.size
/-- A row of slices, just laid. -/
theorem SlP.laid (w : World) (vs : Array Value) (t : TypeId) (l : List (List UInt8)) (n : Nat) (hn : l.length = n) (hl : vs.size = n)
    (h : ∀ (i : Nat) (bs : List UInt8), l[i]? = some bs → ∃ A m c, vs[i]? = some (Value.slice A m c) ∧ SlB w w.heap.size A m c bs) :
    SlP (w.alloc (.cells vs t)) (w.alloc (.cells vs t)).heap.size (some ⟨w.heap.size, 0, none⟩) n n l := by
  refine ⟨hn, Nat.le_refl _, vs.toList, ?_, ?_, ?_⟩
  · intro j u hu
    refine ⟨_, rfl, by simp, ?_⟩
    have hadd : (⟨w.heap.size, 0, none⟩ : Addr).add j = ⟨w.heap.size, j, none⟩ := by unfold Addr.add; split <;> simp_all
    rw [hadd, (Row.new w t vs).cell j, ← Array.getElem?_toList]
    exact hu
  · rw [Array.length_toList, hl, hn]
  · intro i bs hi
    obtain ⟨A, m, c, hv, hs⟩ := h i bs hi
    exact ⟨A, m, c, by rw [Array.getElem?_toList]; exact hv, hs.lay _⟩
theorem SlP.lit2 {w : World} {t : TypeId} {g : Nat} (hg : g = w.heap.size) {A1 A2 : Option Addr} {n1 n2 c1 c2 : Nat} {b1 b2 : List UInt8} (h1 : SlB w w.heap.size A1 n1 c1 b1) (h2 : SlB w w.heap.size A2 n2 c2 b2) :
    SlP (w.alloc (.cells #[.slice A1 n1 c1, .slice A2 n2 c2] t)) (w.alloc (.cells #[.slice A1 n1 c1, .slice A2 n2 c2] t)).heap.size (some ⟨g, 0, none⟩) 2 2 [b1, b2] := hg ▸
  SlP.laid w _ t _ 2 rfl rfl fun i bs hi => by
    match i, hi with
    | 0, hi => injection hi with hi; subst hi; exact ⟨_, _, _, rfl, h1⟩
    | 1, hi => injection hi with hi; subst hi; exact ⟨_, _, _, rfl, h2⟩
theorem SlP.lit3 {w : World} {t : TypeId} {g : Nat} (hg : g = w.heap.size) {A1 A2 A3 : Option Addr} {n1 n2 n3 c1 c2 c3 : Nat} {b1 b2 b3 : List UInt8} (h1 : SlB w w.heap.size A1 n1 c1 b1) (h2 : SlB w w.heap.size A2 n2 c2 b2) (h3 : SlB w w.heap.size A3 n3 c3 b3) :
    SlP (w.alloc (.cells #[.slice A1 n1 c1, .slice A2 n2 c2, .slice A3 n3 c3] t)) (w.alloc (.cells #[.slice A1 n1 c1, .slice A2 n2 c2, .slice A3 n3 c3] t)).heap.size (some ⟨g, 0, none⟩) 3 3 [b1, b2, b3] := hg ▸
  SlP.laid w _ t _ 3 rfl rfl fun i bs hi => by
    match i, hi with
    | 0, hi => injection hi with hi; subst hi; exact ⟨_, _, _, rfl, h1⟩
    | 1, hi => injection hi with hi; subst hi; exact ⟨_, _, _, rfl, h2⟩
    | 2, hi => injection hi with hi; subst hi; exact ⟨_, _, _, rfl, h3⟩



end Go.Proofs.Ytoahkaongmlfkaa
