/- Lists of byte strings: those that a call owns, append, those that came in, whether two are the same. -/
import Derived.Test.YtoahkaongmlfkaaConcat
import Derived.Test.YtoahkaongmlfkaaInts
import Derived.Test.YtoahkaongmlfkaaOpenF
import Derived.Test.YtoahkaongmlfkaaStrs
import Derived.Test.YtoahkaongmlfkaaReg
import Derived.Deep.Slices
namespace Go.Proofs.Ytoahkaongmlfkaa
set_option linter.unusedSimpArgs false
set_option linter.unusedVariables false
open Go.ChangeShapes Go.WideShapes Go.ChangeAt Go.RowKit

/-- Rows of elements of two types are two rows. -/
theorem own_ne {w : World} {b b' e e' s s' n n' c c' : Nat} {A A' : Option Addr} {xs ys : List Value} (h : Own w b e s A n c xs) (h' : Own w b' e' s' A' n' c' ys) (he : e ≠ e') :
    ∀ g, A = some ⟨g, 0, none⟩ → (Value.slice A' n' c').ownBlock ≠ some g := by
  rintro g rfl hg
  rcases h.2 with ⟨h1, _⟩ | ⟨g1, cap, cur, h1, _, hh, _⟩
  · cases h1
  · injection h1 with h1
    injection h1 with h1
    injection h1 with h1
    subst h1
    rcases h'.2 with ⟨h2, _⟩ | ⟨g2, cap2, cur2, h2, _, hh2, _⟩
    · injection h2 with h2 _ h3
      subst h2
      simp [Value.ownBlock] at hg
    · injection h2 with h2
      subst h2
      simp [Value.ownBlock] at hg
      subst hg
      rw [hh] at hh2
      injection hh2 with hh2
      injection hh2 with _ hh2
      exact he hh2

theorem tyP : SlTy Try.prog 29 44 (.slice none 0 0) 1 24 :=
  ⟨Try.underlying29, info_parts (by kernel_rfl), rfl, by decide, by intro u hu; simp [Value.cells] at hu; subst hu; rfl⟩

/-- A row of byte strings that the call owns, each of them its own too. -/
def OwnP (w : World) (base : Nat) (A : Option Addr) (n c : Nat) (l : List (List UInt8)) : Prop :=
  ∃ vs, Own w base 44 1 A n c vs ∧ vs.length = l.length ∧ ∀ (i : Nat) (bs : List UInt8), l[i]? = some bs → ∃ A' n' c', vs[i]? = some (Value.slice A' n' c') ∧ OwnB w base A' n' c' bs
section
variable {w w' : World} {base n c : Nat} {A : Option Addr} {l : List (List UInt8)}
theorem OwnP.nil (w : World) (base : Nat) : OwnP w base none 0 0 [] := ⟨[], Own.nil _ _ _ _, rfl, fun i bs h => by simp at h⟩
theorem OwnP.len (h : OwnP w base A n c l) : l.length = n := by
  obtain ⟨vs, h1, h2, _⟩ := h
  have := h1.len
  omega
theorem OwnP.sl (h : OwnP w base A n c l) : SlP w w.heap.size A n c l := by
  have hl := h.len
  obtain ⟨vs, h1, h2, h3⟩ := h
  exact ⟨hl, h1.cap_le, vs, h1.rd, h2, fun i bs hi => by
    obtain ⟨A', n', c', e, ho⟩ := h3 i bs hi
    exact ⟨A', n', c', e, ho.sl⟩⟩
theorem OwnP.below {B : Nat} (h : OwnP w base A n c l) (hb : Below B w w') (hB : w.heap.size ≤ B) : OwnP w' base A n c l := by
  obtain ⟨vs, h1, h2, h3⟩ := h
  exact ⟨vs, h1.below hb hB, h2, fun i bs hi => by
    obtain ⟨A', n', c', e, ho⟩ := h3 i bs hi
    exact ⟨A', n', c', e, ho.below hb hB⟩⟩
theorem OwnP.down {base' : Nat} (h : OwnP w base A n c l) (hb : base' ≤ base) : OwnP w base' A n c l := by
  obtain ⟨vs, h1, h2, h3⟩ := h
  exact ⟨vs, h1.down hb, h2, fun i bs hi => by
    obtain ⟨A', n', c', e, ho⟩ := h3 i bs hi
    exact ⟨A', n', c', e, ho.down hb⟩⟩
theorem OwnP.alloc (h : OwnP w base A n c l) (o : Obj) : OwnP (w.alloc o) base A n c l := by
  obtain ⟨vs, h1, h2, h3⟩ := h
  exact ⟨vs, h1.alloc o, h2, fun i bs hi => by
    obtain ⟨A', n', c', e, ho⟩ := h3 i bs hi
    exact ⟨A', n', c', e, ho.alloc o⟩⟩
theorem OwnP.cast {l' : List (List UInt8)} (h : OwnP w base A n c l) (e : l = l') : OwnP w base A n c l' := e ▸ h
end

/-- append of one byte string onto a row of them. -/
theorem wpList_append_p {w : World} {ops : Array Oper} {rest : List Oper} {o : Oper} {a : Act} {Q : Exit → Act → World → Prop} (hw : Region.wanted o (yielded ops a.tmps) = true) (s x : Operand)
    (ho : o.op = .call { callee := .builtin .append, args := #[s, x], argTypes := #[29, 29] })
    (base : Nat) (A : Option Addr) (n c : Nat) (l : List (List UInt8)) (hs : a.eval s = .slice A n c) (hown : OwnP w base A n c l)
    (B : Nat) (A1 : Option Addr) (c1 : Nat) (Ap : Option Addr) (np cp : Nat) (bs : List UInt8) (hx : a.eval x = .slice A1 1 c1) (hr : Rd w B A1 [.slice Ap np cp]) (hp : OwnB w base Ap np cp bs)
    (hb : n ≤ 1000000) (hbase : base ≤ w.heap.size)
    (h : ∀ A2 c2 w', OwnP w' base A2 (n + 1) c2 (l ++ [bs]) → Below base w w' → wpList Try.prog ops Q rest (a.put o.dst (.slice A2 (n + 1) c2)) w') :
    wpList Try.prog ops Q (o :: rest) a w := by
  obtain ⟨vs, h1, h2, h3⟩ := hown
  have hvl := h1.len
  refine wpList_append_rd tyP hw s x ho base A n c vs hs h1 B A1 1 c1 [.slice Ap np cp] hx hr rfl (by intro u hu; simp at hu; subst hu; rfl) (by unfold maxLen; omega) (by omega) hbase
    fun A2 c2 w' g1 g2 => h A2 c2 w' ?_ (Own.belowA h1 g2 hbase)
  refine ⟨vs ++ [.slice Ap np cp], g1, by simp [h2], fun i bs' hi => ?_⟩
  rcases Nat.lt_trichotomy i l.length with hlt | rfl | hgt
  · rw [List.getElem?_append_left hlt] at hi
    obtain ⟨A', n', c', e, ho'⟩ := h3 i bs' hi
    exact ⟨A', n', c', by rw [List.getElem?_append_left (by omega)]; exact e, OwnB.kept ho' g2 (own_ne ho' h1 (by decide))⟩
  · rw [List.getElem?_append_right (Nat.le_refl _), Nat.sub_self] at hi
    cases hi
    refine ⟨Ap, np, cp, by rw [List.getElem?_append_right (by omega), h2, Nat.sub_self]; rfl, OwnB.kept hp g2 (own_ne hp h1 (by decide))⟩
  · rw [List.getElem?_eq_none (by simp; omega)] at hi
    cases hi

/-- One slice in a row of its own. -/
theorem Rd.one (w : World) (v : Value) (t : TypeId) : Rd (w.alloc (.cells #[v] t)) (w.heap.size + 1) (some ⟨w.heap.size, 0, none⟩) [v] := fun j u hu => by
  rcases j with _ | j
  · cases hu
    exact ⟨_, rfl, Nat.lt_succ_self _, (Row.new w t #[v]).cell 0⟩
  · simp at hu

theorem Opn.parts {W : World} {v : Value} (h : Opn W 29 v) : ∃ A n c l, v = .slice A n c ∧ SlP W W.heap.size A n c l ∧ c ≤ maxLen := by
  obtain ⟨H, enc, base, d, p, hv, hd⟩ := h
  obtain ⟨A, n, c, rfl⟩ := okWide_slice Try.underlying29 hv
  obtain ⟨fuel, hf⟩ := hd
  rcases Go.Deep.open_slice1 Try.underlying29 (by kernel_rfl) hf with ⟨hcs, _⟩ | ⟨a, len, cap, m, k, V, D, Pl, hcs, _, hl, hm, hmm, _, hV⟩
  · simp [Value.cells] at hcs
    obtain ⟨rfl, rfl, rfl⟩ := hcs
    exact ⟨none, 0, 0, [], rfl, ⟨rfl, Nat.le_refl _, [], Rd.nil _ _ _, rfl, fun i bs hi => by simp at hi⟩, Nat.zero_le _⟩
  · simp [Value.cells] at hcs
    obtain ⟨rfl, rfl, rfl⟩ := hcs
    have hmc : n ≤ m := by rw [hmm]; split <;> omega
    have hch : ∀ i, i < n → ∃ A' m' c' bs, V i = .slice A' m' c' ∧ SlB W W.heap.size A' m' c' bs := fun i hi => by
      obtain ⟨A', m', c', bs, e, hs, _⟩ := trod_bytes (v := V i) Try.underlying44 Try.underlying5 (by kernel_rfl) (hV i (by omega)).2
      exact ⟨A', m', c', bs, e, hs⟩
    have hex : ∀ j, j ≤ n → ∃ l : List (List UInt8), l.length = j ∧ ∀ i bs, l[i]? = some bs → ∃ A' m' c', V i = .slice A' m' c' ∧ SlB W W.heap.size A' m' c' bs := by
      intro j
      induction j with
      | zero => intro _; exact ⟨[], rfl, fun i bs hi => by simp at hi⟩
      | succ j ih =>
        intro hj
        obtain ⟨l, hl1, hl2⟩ := ih (by omega)
        obtain ⟨A', m', c', bs, e, hs⟩ := hch j (by omega)
        refine ⟨l ++ [bs], by simp [hl1], fun i bs' hi => ?_⟩
        rcases Nat.lt_trichotomy i l.length with hlt | rfl | hgt
        · rw [List.getElem?_append_left hlt] at hi
          exact hl2 i bs' hi
        · rw [List.getElem?_append_right (Nat.le_refl _), Nat.sub_self] at hi
          cases hi
          rw [hl1]
          exact ⟨A', m', c', e, hs⟩
        · rw [List.getElem?_eq_none (by simp; omega)] at hi
          cases hi
    obtain ⟨l, hl1, hl2⟩ := hex n (Nat.le_refl _)
    refine ⟨some a, n, c, l, rfl, ⟨hl1, hl, (List.range n).map V, ?_, by simp [hl1], fun i bs hi => ?_⟩, hm⟩
    · intro j u hu
      have hj : j < n := by have := (List.getElem?_eq_some_iff.1 hu).1; simpa using this
      have hu' : u = V j := by simpa [hj] using hu.symm
      subst hu'
      have hc := (hV j (by omega)).1
      exact ⟨a, rfl, by have := World.block_lt_of_cell? W _ hc; rwa [add_block] at this, hc⟩
    · have hin : i < n := by have := (List.getElem?_eq_some_iff.1 hi).1; omega
      obtain ⟨A', m', c', e, hs⟩ := hl2 i bs hi
      exact ⟨A', m', c', by simp [hin, e], hs⟩
end Go.Proofs.Ytoahkaongmlfkaa
