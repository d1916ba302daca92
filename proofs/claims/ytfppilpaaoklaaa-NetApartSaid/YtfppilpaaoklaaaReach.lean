/- What came in, with its reach. -/
import Derived.Test.YtfppilpaaoklaaaOpenF
import Derived.SizedLaws
import Derived.Deep.Slices
namespace Go.Proofs.Ytfppilpaaoklaaa
set_option linter.unusedSimpArgs false
set_option linter.unusedVariables false
open Go.ChangeShapes Go.WideShapes Go.ChangeAt Go.RowKit

/-- What is weighed is within reach. -/
def Wt {H : Type} (t : TypeId) (d : DataW H) : Prop := ∀ n ∈ d.weights Try.prog t, n ≤ reachBytes
/-- An argument of this type, which can be read as data within reach. -/
def OpnR (W : World) (t : TypeId) (v : Value) : Prop :=
  ∃ (H : Type) (enc : TypeId × Value → H) (base : Nat) (d : DataW H) (p : List MemPlace), Value.okWide Try.prog W .any base t v ∧ DataW.Trod enc Try.prog W 0 (fun _ => true) true t v d p ∧ Wt t d
theorem OpnR.opn {W : World} {t : TypeId} {v : Value} (h : OpnR W t v) : Opn W t v := by
  obtain ⟨H, enc, base, d, p, h1, h2, _⟩ := h
  exact ⟨H, enc, base, d, p, h1, h2⟩
theorem Wt.of_all {H : Type} {ts : List TypeId} {ds : List (DataW H)} (h : (DataW.weightsEach Try.prog ts ds).all (· ≤ reachBytes) = true) {j : Nat} {t : TypeId} {d : DataW H} (ht : ts[j]? = some t) (hd : ds[j]? = some d) : Wt t d := fun n hn => by
  have := List.all_eq_true.1 h n (DataW.weights_mem_each ht hd n hn)
  simpa using this
theorem weightsAll_mem {H : Type} {P : Program} {e : TypeId} : ∀ {l : List (DataW H)} {d : DataW H}, d ∈ l → ∀ n ∈ d.weights P e, n ∈ DataW.weightsAll P e l
  | x :: l, d, hd, n, hn => by
    simp only [DataW.weightsAll, List.mem_append]
    rcases List.mem_cons.1 hd with rfl | h
    · exact .inl hn
    · exact .inr (weightsAll_mem h n hn)
theorem Wt.field {H : Type} {t : TypeId} {fs : Array Field} {l : List (DataW H)} (h : Wt t (.agg l)) (ht : Try.prog.underlying t = some (.struct fs)) {j : Nat} {f : Field} {d : DataW H} (hf : fs[j]? = some f) (hd : l[j]? = some d) : Wt f.type d := fun n hn =>
  h n (by
    simp only [DataW.weights, ht]
    exact DataW.weights_mem_each (j := j) (t := f.type) (by simp [hf]) hd n hn)
theorem Wt.elem {H : Type} {t e : TypeId} {l s : List (DataW H)} (h : Wt t (.slice l s)) (ht : Try.prog.underlying t = some (.slice e)) {d : DataW H} (hd : d ∈ l) : Wt e d := fun n hn =>
  h n (by
    simp only [DataW.weights, ht, List.mem_cons, List.mem_append]
    exact .inr (.inl (weightsAll_mem hd n hn)))
theorem Wt.len {H : Type} {t e : TypeId} {l s : List (DataW H)} (h : Wt t (.slice l s)) (ht : Try.prog.underlying t = some (.slice e)) : (l.length + s.length) * Try.prog.bytesOf e ≤ reachBytes :=
  h _ (by simp only [DataW.weights, ht]; exact List.mem_cons_self)

section
variable {W : World} {H : Type} {enc : TypeId × Value → H} {n : Nat} {t : TypeId} {y : DataW H × List MemPlace}
theorem trod_bytesR {e : TypeId} {v : Value} (ht : Try.prog.underlying t = some (.slice e)) (he : Try.prog.underlying e = some (.int .u8)) (hc1 : Try.prog.cellsOf e = 1) (hb1 : Try.prog.bytesOf e = 1) (h : DataW.trod enc Try.prog W 0 (fun _ => true) true n t [v] = some y) (hw : Wt t y.1) :
    ∃ A m c bs, v = .slice A m c ∧ SlB W W.heap.size A m c bs ∧ c ≤ 140737488351232 := by
  obtain ⟨A, m, c, bs, rfl, hs, hm⟩ := trod_bytes ht he hc1 h
  refine ⟨A, m, c, bs, rfl, hs, ?_⟩
  rcases Go.Deep.open_slice ht h with ⟨hcs, _⟩ | ⟨p, len, cap, m', k, D, Pl, hcs, _, hl, hm', hmm, rfl, _⟩
  · simp at hcs
    obtain ⟨_, _, rfl⟩ := hcs
    omega
  · simp at hcs
    obtain ⟨_, rfl, rfl⟩ := hcs
    have := hw.len ht
    rw [hb1] at this
    simp [reachBytes] at this hmm
    omega
/-- The fields of a struct that can be read, each with its weight. -/
theorem trod_fieldsR {fs : Array Field} {cs : List Value} (h : DataW.trod enc Try.prog W 0 (fun _ => true) true n t cs = some y) (hs : Try.prog.underlying t = some (.struct fs)) (hw : Wt t y.1) :
    cs.length = Try.prog.cellsOf t ∧ ∃ k, ∀ (i : Nat) (f : Field), fs[i]? = some f → ∃ z, DataW.trod enc Try.prog W 0 (fun _ => true) true k f.type ((cs.drop f.offset).take (Try.prog.cellsOf f.type)) = some z ∧ Wt f.type z.1 := by
  obtain ⟨xs, k, _, rfl, hl, hlen, hx⟩ := DataW.trod_struct hs h
  refine ⟨hl, k, fun i f hi => ?_⟩
  have hlt : i < xs.length := by
    have := (Array.getElem?_eq_some_iff.1 hi).1
    omega
  have h2 : xs[i]? = some xs[i] := List.getElem?_eq_getElem hlt
  exact ⟨xs[i], by rw [← h2, ← hx i f hi], hw.field hs hi (by simp [h2])⟩
end
end Go.Proofs.Ytfppilpaaoklaaa
