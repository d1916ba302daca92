/- What a field that can be read gives, by its type. -/
import Derived.Test.YtfppilpaaoklaaaOpen
import Derived.Lib.SmallJoins
namespace Go.Proofs.Ytfppilpaaoklaaa
set_option linter.unusedSimpArgs false
set_option linter.unusedVariables false
open Go.ChangeShapes Go.WideShapes Go.ChangeAt Go.RowKit

section
variable {W : World} {H : Type} {enc : TypeId × Value → H} {n : Nat} {t : TypeId} {v : Value} {y : DataW H × List MemPlace}

theorem trod_u64 (ht : Try.prog.underlying t = some (.int .u64)) (h : DataW.trod enc Try.prog W 0 (fun _ => true) true n t [v] = some y) : ∃ m : Nat, v = .int .u64 (m : Int) ∧ m < 18446744073709551616 := by
  obtain ⟨a, hc, _, hw⟩ := DataW.trod_int ht h
  simp at hc
  subst hc
  have := wf_u64 hw
  exact ⟨a.toNat, by rw [Int.toNat_of_nonneg this.1], by omega⟩
theorem trod_i64 (ht : Try.prog.underlying t = some (.int .i64)) (h : DataW.trod enc Try.prog W 0 (fun _ => true) true n t [v] = some y) : ∃ a : Int, v = .int .i64 a ∧ -9223372036854775808 ≤ a ∧ a ≤ 9223372036854775807 := by
  obtain ⟨a, hc, _, hw⟩ := DataW.trod_int ht h
  simp at hc
  exact ⟨a, hc, wf_i64 hw⟩
theorem trod_bool_ (ht : Try.prog.underlying t = some .bool) (h : DataW.trod enc Try.prog W 0 (fun _ => true) true n t [v] = some y) : ∃ b : Bool, v = .bool b := by
  obtain ⟨b, hc, _⟩ := DataW.trod_bool ht h
  simp at hc
  exact ⟨b, hc⟩
theorem trod_ints {e : TypeId} (ht : Try.prog.underlying t = some (.slice e)) (he : Try.prog.underlying e = some (.int .i64)) (hc1 : Try.prog.cellsOf e = 1) (h : DataW.trod enc Try.prog W 0 (fun _ => true) true n t [v] = some y) :
    ∃ A m c zs, v = .slice A m c ∧ SlI W W.heap.size A m c zs ∧ c ≤ maxLen ∧ ∀ z ∈ zs, -9223372036854775808 ≤ z ∧ z ≤ 9223372036854775807 := by
  rcases open_ints ht he hc1 h with ⟨hcs, _⟩ | ⟨a, l, cap, zs, hcs, _, hl, hm, hz, _, hcell, hwz⟩
  · simp at hcs
    exact ⟨none, 0, 0, [], hcs, SlI.none_ _ _ _ _, Nat.zero_le _, by simp⟩
  · simp at hcs
    have hzl : zs.length = cap := by simpa using hz
    refine ⟨some a, l, cap, zs.take l, hcs, ⟨?_, hl, ?_⟩, hm, fun z hz => wf_i64 (hwz z (List.mem_of_mem_take hz))⟩
    · rw [List.length_take, hzl]; omega
    · intro j u hu
      rw [List.getElem?_map] at hu
      obtain ⟨z, hz', rfl⟩ := Option.map_eq_some_iff.1 hu
      have hjn : j < (zs.take l).length := (List.getElem?_eq_some_iff.1 hz').1
      rw [List.length_take, hzl] at hjn
      have hjz : j < zs.length := by omega
      rw [List.getElem?_take, if_pos (by omega)] at hz'
      have hc := hcell j hjz
      have hg : zs.getD j 0 = z := by simp [List.getD, hz']
      rw [hg] at hc
      exact ⟨a, rfl, by have := World.block_lt_of_cell? W _ hc; rwa [add_block] at this, hc⟩
theorem trod_bytes {e : TypeId} (ht : Try.prog.underlying t = some (.slice e)) (he : Try.prog.underlying e = some (.int .u8)) (hc1 : Try.prog.cellsOf e = 1) (h : DataW.trod enc Try.prog W 0 (fun _ => true) true n t [v] = some y) :
    ∃ A m c bs, v = .slice A m c ∧ SlB W W.heap.size A m c bs ∧ c ≤ maxLen := by
  rcases open_ints ht he hc1 h with ⟨hcs, _⟩ | ⟨a, l, cap, zs, hcs, _, hl, hm, hz, _, hcell, hwz⟩
  · simp at hcs
    exact ⟨none, 0, 0, [], hcs, SlB.none_ _ _ _ _, Nat.zero_le _⟩
  · simp at hcs
    have hzl : zs.length = cap := by simpa using hz
    refine ⟨some a, l, cap, (zs.take l).map fun z => UInt8.ofNat z.toNat, hcs, ⟨?_, hl, ?_⟩, hm⟩
    · rw [List.length_map, List.length_take, hzl]; omega
    · intro j u hu
      rw [List.map_map, List.getElem?_map] at hu
      obtain ⟨z, hz', rfl⟩ := Option.map_eq_some_iff.1 hu
      have hjn : j < (zs.take l).length := (List.getElem?_eq_some_iff.1 hz').1
      rw [List.length_take, hzl] at hjn
      have hjz : j < zs.length := by omega
      rw [List.getElem?_take, if_pos (by omega)] at hz'
      have hc := hcell j hjz
      have hg : zs.getD j 0 = z := by simp [List.getD, hz']
      rw [hg] at hc
      refine ⟨a, rfl, by have := World.block_lt_of_cell? W _ hc; rwa [add_block] at this, ?_⟩
      rw [hc]
      show _ = some (bv _)
      rw [byte_of (wf_u8 (hwz z (List.mem_of_getElem? hz')))]
end

/-- The fields of a struct that can be read, each of one cell. -/
theorem Opn.fields {W : World} {t : TypeId} {v : Value} {fs : Array Field} (h : Opn W t v) (hs : Try.prog.underlying t = some (.struct fs)) (hone : Go.Deep.oneCellFields Try.prog fs = true) :
    ∃ (H : Type) (enc : TypeId × Value → H) (cs : Array Value), v = .agg cs ∧ cs.size = Try.prog.cellsOf t ∧
      ∀ (i : Nat) (f : Field), fs[i]? = some f → ∃ n y, DataW.trod enc Try.prog W 0 (fun _ => true) true n f.type ((cs.toList.drop i).take 1) = some y := by
  obtain ⟨H, enc, base, d, p, hv, hd⟩ := h
  obtain ⟨cs, rfl, hsz⟩ := okWide_struct hs hv
  obtain ⟨fuel, hf⟩ := hd
  obtain ⟨xs, n, _, _, _, hlen, hx⟩ := DataW.trod_struct hs hf
  refine ⟨H, enc, cs, rfl, hsz, fun i f hi => ?_⟩
  have h1 := hx i f hi
  obtain ⟨o1, o2⟩ := Go.Deep.hone_of hone i f hi
  rw [o1, o2] at h1
  have hlt : i < xs.length := by
    have := (Array.getElem?_eq_some_iff.1 hi).1
    omega
  have h2 : xs[i]? = some xs[i] := List.getElem?_eq_getElem hlt
  refine ⟨n, xs[i], ?_⟩
  rw [← h2, ← h1]
  rfl

end Go.Proofs.Ytfppilpaaoklaaa
