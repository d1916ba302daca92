/- What came in, as plain values: by its type. -/
import Derived.Test.YtfppilpaaoklaaaPwK
import Derived.Test.YtfppilpaaoklaaaReach
namespace Go.Proofs.Ytfppilpaaoklaaa
set_option linter.unusedSimpArgs false
set_option linter.unusedVariables false
open Go.ChangeShapes Go.WideShapes Go.ChangeAt Go.RowKit

/-- Cells that read as these. -/
def RLs (w : World) (cs : List Value) (ls : List L) : Prop := cs.length = ls.length ∧ ∀ (j : Nat) (l : L) (v : Value), ls[j]? = some l → cs[j]? = some v → v.oneCell' = true ∧ RL (fun b => b < w.heap.size) w l v
/-- Whatever can be read at this type, within reach, reads as some x of which ok holds. -/
def Shape {α : Type} (t : TypeId) (E : α → List L) (ok : α → Prop) : Prop :=
  ∀ (W : World) (H : Type) (enc : TypeId × Value → H) (n : Nat) (cs : List Value) (y : DataW H × List MemPlace), DataW.trod enc Try.prog W 0 (fun _ => true) true n t cs = some y → Wt t y.1 → ∃ x, ok x ∧ RLs W cs (E x)

theorem Shape.map {α β : Type} {t : TypeId} {E : α → List L} {E' : β → List L} {ok : α → Prop} {ok' : β → Prop} (h : Shape t E ok) (g : α → β) (hE : ∀ x, E x = E' (g x)) (hok : ∀ x, ok x → ok' (g x)) : Shape t E' ok' := fun W H enc n cs y hy hw => by
  obtain ⟨x, k, r⟩ := h W H enc n cs y hy hw
  exact ⟨g x, hok x k, by rw [← hE]; exact r⟩
theorem RLs.one {w : World} {v : Value} {l : L} (h1 : v.oneCell' = true) (h2 : RL (fun b => b < w.heap.size) w l v) : RLs w [v] [l] := ⟨rfl, fun j l' v' hl hv => by
  rcases j with _ | j
  · simp at hl hv; subst hl hv; exact ⟨h1, h2⟩
  · simp at hl⟩
theorem shape_int {t : TypeId} {k : IntKind} (ht : Try.prog.underlying t = some (.int k)) : Shape t (fun n : Int => [.sc (.int k n)]) (fun n => k.min ≤ n ∧ n ≤ k.max) := fun W H enc n cs y hy hw => by
  obtain ⟨a, rfl, _, hwf⟩ := DataW.trod_int ht hy
  refine ⟨a, ?_, RLs.one rfl (RL.sc _)⟩
  simp [Lit.wf] at hwf
  exact hwf
theorem shape_u64 {t : TypeId} (ht : Try.prog.underlying t = some (.int .u64)) : Shape t (fun n : Nat => [.sc (.int .u64 (n : Int))]) (fun n => n ≤ 18446744073709551615) := fun W H enc n cs y hy hw => by
  obtain ⟨a, k, r⟩ := shape_int ht W H enc n cs y hy hw
  simp [IntKind.min, IntKind.max, IntKind.signed, IntKind.bits] at k
  exact ⟨a.toNat, by omega, by show RLs W cs [L.sc (Value.int IntKind.u64 (a.toNat : Int))]; rw [Int.toNat_of_nonneg k.1]; exact r⟩
theorem shape_i64 {t : TypeId} (ht : Try.prog.underlying t = some (.int .i64)) : Shape t (fun n : Int => [.sc (.int .i64 n)]) (fun n => -9223372036854775808 ≤ n ∧ n ≤ 9223372036854775807) := fun W H enc n cs y hy hw => by
  obtain ⟨a, k, r⟩ := shape_int ht W H enc n cs y hy hw
  simp [IntKind.min, IntKind.max, IntKind.signed, IntKind.bits] at k
  exact ⟨a, k, r⟩
theorem shape_u8 {t : TypeId} (ht : Try.prog.underlying t = some (.int .u8)) : Shape t (fun n : UInt8 => [.sc (byV n)]) (fun _ => True) := fun W H enc n cs y hy hw => by
  obtain ⟨a, k, r⟩ := shape_int ht W H enc n cs y hy hw
  simp [IntKind.min, IntKind.max, IntKind.signed, IntKind.bits] at k
  refine ⟨UInt8.ofNat a.toNat, trivial, ?_⟩
  have : byV (UInt8.ofNat a.toNat) = .int .u8 a := by
    unfold byV
    rw [UInt8.toNat_ofNat', Nat.mod_eq_of_lt (by omega), Int.toNat_of_nonneg k.1]
  show RLs W cs [L.sc (byV _)]
  rw [this]; exact r
theorem shape_bool {t : TypeId} (ht : Try.prog.underlying t = some .bool) : Shape t (fun b : Bool => [.sc (.bool b)]) (fun _ => True) := fun W H enc n cs y hy hw => by
  obtain ⟨a, rfl, _⟩ := DataW.trod_bool ht hy
  exact ⟨a, trivial, RLs.one rfl (RL.sc _)⟩

theorem shape_slice {α : Type} {t e : TypeId} {E : α → List L} {ok : α → Prop} {b : Nat} (he : Shape e E ok) (ht : Try.prog.underlying t = some (.slice e)) (hb : Try.prog.bytesOf e = b) :
    Shape t (fun xs : List α => [.sl (xs.map E)]) (fun xs => (∀ x ∈ xs, ok x) ∧ xs.length * b ≤ 140737488351232 ∧ xs.length ≤ 9223372036854775807) := fun W H enc n cs y hy hw => by
  rcases Go.Deep.open_slice ht hy with ⟨rfl, _⟩ | ⟨a, len, cap, m, k, D, Pl, rfl, _, hl, hm, hmm, rfl, hx⟩
  · exact ⟨[], ⟨by simp, by simp, by simp⟩, RLs.one rfl (RL.sl [] none 0 0 0 (fun _ _ => undef) rfl (Nat.zero_le _) (fun e he => (by cases he)) (fun i e j l he => (by simp at he)) (fun i e j l he => (by simp at he)) (fun i e j l he => (by simp at he)) (fun _ => rfl))⟩
  · have hcap : m = cap := by simpa using hmm
    subst hcap
    have hlen := hw.len ht
    simp only [List.length_map, List.length_range] at hlen
    have hbound : len * b ≤ 140737488351232 := by
      rw [hb] at hlen
      have h1 : len * b ≤ (len + (m - len)) * b := Nat.mul_le_mul_right _ (by omega)
      simp [reachBytes] at hlen
      omega
    have hm' : m ≤ 9223372036854775807 := by simpa [maxLen] using hm
    -- of each element what it is
    have each : ∀ i, i < len → ∃ x, ok x ∧ ∃ cs', W.cells? 0 (a.add (i * Try.prog.cellsOf e)) (Try.prog.cellsOf e) = some cs' ∧ RLs W cs' (E x) := fun i hi => by
      obtain ⟨cs', h1, h2⟩ := hx i (by omega)
      obtain ⟨x, k1, k2⟩ := he W H enc k cs' (D i, Pl i) h2 (hw.elem ht (by
        simp only [List.mem_map, List.mem_range]
        exact ⟨i, hi, rfl⟩))
      exact ⟨x, k1, cs', h1, k2⟩
    obtain ⟨f, hf⟩ : ∃ f : Nat → Option α, ∀ i, i < len → ∃ x, f i = some x ∧ ok x ∧ ∃ cs', W.cells? 0 (a.add (i * Try.prog.cellsOf e)) (Try.prog.cellsOf e) = some cs' ∧ RLs W cs' (E x) :=
      ⟨fun i => if h : i < len then some (Classical.choose (each i h)) else none, fun i hi => ⟨Classical.choose (each i hi), by simp [hi], Classical.choose_spec (each i hi)⟩⟩
    let xs := (List.range len).filterMap f
    have hxs : ∀ n, n ≤ len → ∃ ys : List α, (List.range n).filterMap f = ys ∧ ys.length = n ∧ ∀ i, i < n → ys[i]? = f i := by
      intro n
      induction n with
      | zero => intro _; exact ⟨[], rfl, rfl, fun i hi => by omega⟩
      | succ n ih =>
        intro hn
        obtain ⟨ys, h1, h2, h3⟩ := ih (by omega)
        obtain ⟨x, hx1, _⟩ := hf n (by omega)
        refine ⟨ys ++ [x], by rw [List.range_succ, List.filterMap_append, h1]; simp [hx1], by simp [h2], fun i hi => ?_⟩
        by_cases hin : i < n
        · rw [List.getElem?_append_left (by omega)]; exact h3 i hin
        · obtain rfl : i = n := by omega
          rw [List.getElem?_append_right (by omega), h2, Nat.sub_self, hx1]; rfl
    obtain ⟨ys, y1, y2, y3⟩ := hxs len (Nat.le_refl _)
    have hget : ∀ i x, ys[i]? = some x → ok x ∧ ∃ cs', W.cells? 0 (a.add (i * Try.prog.cellsOf e)) (Try.prog.cellsOf e) = some cs' ∧ RLs W cs' (E x) := fun i x hi => by
      have hlt : i < len := by rw [← y2]; exact (List.getElem?_eq_some_iff.1 hi).1
      obtain ⟨x', h1, h2⟩ := hf i hlt
      rw [y3 i hlt, h1] at hi
      injection hi with hi; subst hi; exact h2
    refine ⟨ys, ⟨fun x hx => ?_, by rw [y2]; exact hbound, by rw [y2]; omega⟩, RLs.one rfl ?_⟩
    · obtain ⟨i, hi⟩ := List.getElem?_of_mem hx
      exact (hget i x hi).1
    · have cell : ∀ i j, ∃ v, ∀ e' x, (ys.map E)[i]? = some e' → e'[j]? = some x → W.cell? (a.add (i * Try.prog.cellsOf e + j)) = some v ∧ v.oneCell' = true ∧ RL (fun b => b < W.heap.size) W x v := fun i j => by
        cases hy : ys[i]? with
        | none => exact ⟨undef, fun e' x h => by simp [hy] at h⟩
        | some x =>
          obtain ⟨_, cs', h1, h2, h3⟩ := hget i x hy
          obtain ⟨_, hcl, hcc⟩ := World.cells?_some h1
          cases hj : cs'[j]? with
          | none => exact ⟨undef, fun e' l h h' => by
              simp [hy] at h; subst h
              have : j < cs'.length := by rw [h2]; exact (List.getElem?_eq_some_iff.1 h').1
              rw [List.getElem?_eq_getElem this] at hj; cases hj⟩
          | some v =>
            refine ⟨v, fun e' l h h' => ?_⟩
            simp [hy] at h; subst h
            have hjl : j < Try.prog.cellsOf e := by rw [← hcl]; exact (List.getElem?_eq_some_iff.1 hj).1
            refine ⟨?_, h3 j l v h' hj⟩
            have := hcc j hjl
            rw [Addr_add_add] at this
            rw [this]; exact hj
      refine RL.sl _ _ _ _ (Try.prog.cellsOf e) (fun i j => Classical.choose (cell i j)) (by simp [y2]) hl (fun e' he' => ?_) (fun i e' j x h h' => ?_) (fun i e' j x h h' => (Classical.choose_spec (cell i j) e' x h h').2.2) (fun i e' j x h h' => (Classical.choose_spec (cell i j) e' x h h').2.1) (fun h => by cases h)
      · obtain ⟨x, hx1, rfl⟩ := List.mem_map.1 he'
        obtain ⟨i, hi⟩ := List.getElem?_of_mem hx1
        obtain ⟨_, cs', h1, h2, _⟩ := hget i x hi
        rw [← h2]; exact (World.cells?_some h1).2.1
      · obtain ⟨k1, _⟩ := Classical.choose_spec (cell i j) e' x h h'
        have hlt := World.block_lt_of_cell? W _ k1
        rw [addBlk] at hlt
        exact ⟨a, rfl, hlt, k1⟩

/-! ### Structs -/
def ShapeF {α : Type} (fs : List Field) (off n : Nat) (E : α → List L) (ok : α → Prop) : Prop :=
  ∀ (W : World) (H : Type) (enc : TypeId × Value → H) (k : Nat) (cs : List Value), (∀ f ∈ fs, ∃ z, DataW.trod enc Try.prog W 0 (fun _ => true) true k f.type ((cs.drop f.offset).take (Try.prog.cellsOf f.type)) = some z ∧ Wt f.type z.1) → cs.length = off + n → ∃ x, ok x ∧ RLs W (cs.drop off) (E x)
theorem shapeF_nil {off : Nat} : ShapeF [] off 0 (fun _ : Unit => []) (fun _ => True) := fun W H enc k cs _ hl => ⟨(), trivial, by simp; omega, fun j l v h => by simp at h⟩
theorem shapeF_cons {α β : Type} {f : Field} {fs : List Field} {off n c : Nat} {E : α → List L} {ok : α → Prop} {E' : β → List L} {ok' : β → Prop} (h1 : Shape f.type E ok) (h2 : ShapeF fs (off + c) n E' ok') (ho : f.offset = off) (hc : Try.prog.cellsOf f.type = c) :
    ShapeF (f :: fs) off (c + n) (fun x : α × β => E x.1 ++ E' x.2) (fun x => ok x.1 ∧ ok' x.2) := fun W H enc k cs hf hl => by
  obtain ⟨z, hz, hw⟩ := hf f (by simp)
  obtain ⟨x, k1, r1⟩ := h1 W H enc k _ z hz hw
  obtain ⟨y, k2, r2⟩ := h2 W H enc k cs (fun g hg => hf g (by simp [hg])) (by omega)
  rw [ho, hc] at r1
  have hsplit : cs.drop off = (cs.drop off).take c ++ cs.drop (off + c) := by
    rw [← List.drop_drop, List.take_append_drop]
  refine ⟨(x, y), ⟨k1, k2⟩, ?_⟩
  rw [hsplit]
  refine ⟨by rw [List.length_append, List.length_append, r1.1, r2.1], fun j l v hl' hv => ?_⟩
  have hlen := r1.1
  rcases Nat.lt_or_ge j (E x).length with hj | hj
  · rw [List.getElem?_append_left hj] at hl'
    rw [List.getElem?_append_left (by omega)] at hv
    exact r1.2 j l v hl' hv
  · rw [List.getElem?_append_right hj] at hl'
    rw [List.getElem?_append_right (by omega), hlen] at hv
    exact r2.2 _ l v hl' hv
theorem shapeF_c {α β : Type} {f : Field} {fs : List Field} {off N : Nat} {E : α → List L} {ok : α → Prop} {E' : β → List L} {ok' : β → Prop} (c n : Nat) (h1 : Shape f.type E ok) (h2 : ShapeF fs (off + c) n E' ok') (hN : c + n = N) (ho : f.offset = off) (hc : Try.prog.cellsOf f.type = c) :
    ShapeF (f :: fs) off N (fun x : α × β => E x.1 ++ E' x.2) (fun x => ok x.1 ∧ ok' x.2) := by subst hN; exact shapeF_cons h1 h2 ho hc
theorem shape_struct {α : Type} {t : TypeId} {fs : Array Field} {n : Nat} {E : α → List L} {ok : α → Prop} (ht : Try.prog.underlying t = some (.struct fs)) (hn : Try.prog.cellsOf t = n) (h : ShapeF fs.toList 0 n E ok) : Shape t E ok := fun W H enc k cs y hy hw => by
  obtain ⟨hl, k', hf⟩ := trod_fieldsR hy ht hw
  obtain ⟨x, h1, h2⟩ := h W H enc k' cs (fun f hf' => by
    obtain ⟨i, hi⟩ := List.getElem?_of_mem hf'
    exact hf i f (by rw [← Array.getElem?_toList]; exact hi)) (by rw [hl, hn]; omega)
  exact ⟨x, h1, by rw [List.drop_zero] at h2; exact h2⟩

/-! ### Arguments -/
theorem OpnR.leaf {α : Type} {W : World} {t : TypeId} {v : Value} {E : α → List L} {ok : α → Prop} {l : α → L} (h : OpnR W t v) (hs : Shape t E ok) (hE : ∀ x, E x = [l x]) (hc : v.cells = #[v]) (B : Nat → Prop) (hB : ∀ b, B b) : ∃ x, ok x ∧ RT (Cx B W.heap.size) h0 μ0 W (.leaf (l x)) v := by
  obtain ⟨H, enc, base, d, p, _, ⟨fuel, hf⟩, hw⟩ := h
  rw [hc] at hf
  obtain ⟨x, k, r1, r2⟩ := hs W H enc fuel _ _ hf hw
  refine ⟨x, k, ?_⟩
  rw [hE] at r1 r2
  obtain ⟨_, h2⟩ := r2 0 (l x) v rfl rfl
  exact (RL.keep (fun b hb => ⟨⟨⟨hb, fun id ab hh => by cases hh⟩, .inl (hB b)⟩, rfl⟩) h2).rx
theorem OpnR.agg {α : Type} {W : World} {t : TypeId} {v : Value} {E : α → List L} {ok : α → Prop} (h : OpnR W t v) (hs : Shape t E ok) (cs : Array Value) (hc : v = .agg cs) (B : Nat → Prop) (hB : ∀ b, B b) : ∃ x, ok x ∧ RT (Cx B W.heap.size) h0 μ0 W (.agg (E x)) v := by
  obtain ⟨H, enc, base, d, p, _, ⟨fuel, hf⟩, hw⟩ := h
  subst hc
  obtain ⟨x, k, r1, r2⟩ := hs W H enc fuel _ _ hf hw
  refine ⟨x, k, cs, rfl, by simpa [Value.cells] using r1, fun j l hl => ?_⟩
  have hj : j < cs.size := by
    have := (List.getElem?_eq_some_iff.1 hl).1
    rw [← r1] at this
    simpa [Value.cells] using this
  have hv : (Value.agg cs).cells.toList[j]? = some cs[j] := by simp [Value.cells, hj]
  obtain ⟨k1, k2⟩ := r2 j l cs[j] hl hv
  exact ⟨cs[j], by simp [hj], k1, (RL.keep (fun b hb => ⟨⟨⟨hb, fun id ab hh => by cases hh⟩, .inl (hB b)⟩, rfl⟩) k2).rx⟩
theorem OpnR.cells_agg {W : World} {t : TypeId} {v : Value} {fs : Array Field} (h : OpnR W t v) (ht : Try.prog.underlying t = some (.struct fs)) : ∃ cs, v = .agg cs := by
  obtain ⟨H, enc, base, d, p, hv, _⟩ := h
  obtain ⟨cs, rfl, _⟩ := okWide_struct ht hv
  exact ⟨cs, rfl⟩
theorem OpnR.cells_slice {W : World} {t e : TypeId} {v : Value} (h : OpnR W t v) (ht : Try.prog.underlying t = some (.slice e)) : v.cells = #[v] := by
  obtain ⟨H, enc, base, d, p, hv, _⟩ := h
  obtain ⟨A, n, c, rfl⟩ := okWide_slice ht hv
  rfl
theorem OpnR.cells_int {W : World} {t : TypeId} {v : Value} {k : IntKind} (h : OpnR W t v) (ht : Try.prog.underlying t = some (.int k)) : v.cells = #[v] := by
  obtain ⟨H, enc, base, d, p, hv, ⟨_, hd⟩, _⟩ := h
  obtain ⟨a, rfl, _⟩ := open_int ht hv ⟨_, hd⟩
  rfl
theorem OpnR.cells_bool {W : World} {t : TypeId} {v : Value} (h : OpnR W t v) (ht : Try.prog.underlying t = some .bool) : v.cells = #[v] := by
  obtain ⟨H, enc, base, d, p, hv, ⟨_, hd⟩, _⟩ := h
  obtain ⟨a, rfl, _⟩ := open_bool ht hv ⟨_, hd⟩
  rfl

/-- A law that answers true. -/
theorem law_ofG {f : FuncId} {vs : List T} {args : Array Value} {W : World} (h : PC Try.prog f vs [] (.leaf (.sc (.bool true)))) (hs : args.size = vs.length) (ha : ∀ (i : Nat) (t : T), vs[i]? = some t → RT (Cx (fun _ => True) W.heap.size) h0 μ0 W t (args.getD i undef)) (hg : Globs (Cx (fun _ => True) W.heap.size) h0 μ0 W) :
    Calls Try.prog f args W fun e w' => e = .returned (.bool true) ∧ Below W.heap.size W w' :=
  (h (fun _ => True) args W hg hs ha).mono fun e w' ⟨v, μ, he, hb, _, r⟩ => ⟨by rw [he, RT.sc_inv r], hb⟩
theorem law_of [ng : NoGlobs] {f : FuncId} {vs : List T} {args : Array Value} {W : World} (h : PC Try.prog f vs [] (.leaf (.sc (.bool true)))) (hs : args.size = vs.length) (ha : ∀ (i : Nat) (t : T), vs[i]? = some t → RT (Cx (fun _ => True) W.heap.size) h0 μ0 W t (args.getD i undef)) :
    Calls Try.prog f args W fun e w' => e = .returned (.bool true) ∧ Below W.heap.size W w' := law_ofG h hs ha fun g vs hh => (ng.none g vs hh).elim
end Go.Proofs.Ytfppilpaaoklaaa
