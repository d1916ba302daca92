/- The frame of every law: what an argument that can be read gives, by its type; own words. -/
import Derived.Test.YtfppilpaaoklaaaBase
import Derived.Test.YtfppilpaaoklaaaRows
import Derived.ProofKit
import Derived.OpenShut
import Derived.ChangeOld
import Derived.Carry
namespace Go.Proofs.Ytfppilpaaoklaaa
set_option linter.unusedSimpArgs false
set_option linter.unusedVariables false
open Go.ChangeShapes Go.WideShapes Go.ChangeAt Go.RowKit

theorem ownKnobNone : ownKnob Try.prog.godebug = none := by kernel_rfl
theorem laidOutAll : laidOutB Try.prog = true := by kernel_rfl

/-- An argument of this type, which can be read as data. -/
def Opn (W : World) (t : TypeId) (v : Value) : Prop :=
  ∃ (H : Type) (enc : TypeId × Value → H) (base : Nat) (d : DataW H) (p : List MemPlace), Value.okWide Try.prog W .any base t v ∧ DataW.Trod enc Try.prog W 0 (fun _ => true) true t v d p

theorem wf_i64 {a : Int} (h : (Lit.int .i64 a).wf = true) : -9223372036854775808 ≤ a ∧ a ≤ 9223372036854775807 := by
  simp [Lit.wf, IntKind.min, IntKind.max, IntKind.signed, IntKind.bits] at h
  exact h
theorem wf_u64 {a : Int} (h : (Lit.int .u64 a).wf = true) : 0 ≤ a ∧ a ≤ 18446744073709551615 := by
  simp [Lit.wf, IntKind.min, IntKind.max, IntKind.signed, IntKind.bits] at h
  exact h
theorem wf_u8 {a : Int} (h : (Lit.int .u8 a).wf = true) : 0 ≤ a ∧ a ≤ 255 := by
  simp [Lit.wf, IntKind.min, IntKind.max, IntKind.signed, IntKind.bits] at h
  exact h

theorem Opn.i64 {W : World} {t : TypeId} {v : Value} (h : Opn W t v) (ht : Try.prog.underlying t = some (.int .i64)) : ∃ a : Int, v = .int .i64 a ∧ -9223372036854775808 ≤ a ∧ a ≤ 9223372036854775807 := by
  obtain ⟨H, enc, base, d, p, hv, hd⟩ := h
  obtain ⟨a, rfl, _, _, hw⟩ := open_int ht hv hd
  exact ⟨a, rfl, wf_i64 hw⟩
theorem Opn.u64 {W : World} {t : TypeId} {v : Value} (h : Opn W t v) (ht : Try.prog.underlying t = some (.int .u64)) : ∃ n : Nat, v = .int .u64 (n : Int) ∧ n < 18446744073709551616 := by
  obtain ⟨H, enc, base, d, p, hv, hd⟩ := h
  obtain ⟨a, rfl, _, _, hw⟩ := open_int ht hv hd
  have := wf_u64 hw
  exact ⟨a.toNat, by rw [Int.toNat_of_nonneg this.1], by omega⟩
theorem Opn.bool {W : World} {t : TypeId} {v : Value} (h : Opn W t v) (ht : Try.prog.underlying t = some .bool) : ∃ b : Bool, v = .bool b := by
  obtain ⟨H, enc, base, d, p, hv, hd⟩ := h
  obtain ⟨b, rfl, _, _⟩ := open_bool ht hv hd
  exact ⟨b, rfl⟩

/-- A byte out of a number that fits one. -/
theorem byte_of {a : Int} (h : 0 ≤ a ∧ a ≤ 255) : Value.int .u8 a = bv (UInt8.ofNat a.toNat) := by
  rw [bv_ofNat, Nat.mod_eq_of_lt (by omega), Int.toNat_of_nonneg h.1]

theorem Opn.bytes {W : World} {v : Value} (h : Opn W 26 v) : ∃ A n c bs, v = .slice A n c ∧ SlB W W.heap.size A n c bs ∧ c ≤ maxLen := by
  obtain ⟨H, enc, base, d, p, hv, hd⟩ := h
  obtain ⟨A, n, c, rfl⟩ := okWide_slice Try.underlying26 hv
  obtain ⟨fuel, hf⟩ := hd
  rcases open_ints Try.underlying26 Try.underlying5 (by kernel_rfl) hf with ⟨hcs, _⟩ | ⟨a, l, cap, zs, hcs, _, hl, hm, hz, _, hcell, hwz⟩
  · simp [Value.cells] at hcs
    obtain ⟨rfl, rfl, rfl⟩ := hcs
    exact ⟨none, 0, 0, [], rfl, SlB.none_ _ _ _ _, Nat.zero_le _⟩
  · simp [Value.cells] at hcs
    obtain ⟨rfl, rfl, rfl⟩ := hcs
    have hzl : zs.length = c := by simpa using hz
    refine ⟨some a, n, c, (zs.take n).map fun z => UInt8.ofNat z.toNat, rfl, ⟨?_, hl, ?_⟩, hm⟩
    · rw [List.length_map, List.length_take, hzl]; omega
    · intro j u hu
      rw [List.map_map, List.getElem?_map] at hu
      obtain ⟨z, hz', rfl⟩ := Option.map_eq_some_iff.1 hu
      have hjn : j < (zs.take n).length := (List.getElem?_eq_some_iff.1 hz').1
      rw [List.length_take, hzl] at hjn
      have hjz : j < zs.length := by omega
      rw [List.getElem?_take, if_pos (by omega)] at hz'
      have hc := hcell j hjz
      have hg : zs.getD j 0 = z := by simp [List.getD, hz']
      rw [hg] at hc
      refine ⟨a, rfl, by have := World.block_lt_of_cell? W _ hc; rwa [add_block] at this, ?_⟩
      rw [hc]
      show _ = some (bv _)
      rw [byte_of (wf_u8 (hwz z (List.mem_of_getElem? hz')))]

end Go.Proofs.Ytfppilpaaoklaaa
