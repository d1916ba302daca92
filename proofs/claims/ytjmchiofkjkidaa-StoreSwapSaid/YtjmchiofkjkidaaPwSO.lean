/- Stores, letters: what comes in. -/
import Derived.Test.YtjmchiofkjkidaaPwSL
namespace Go.Proofs.Ytjmchiofkjkidaa
set_option linter.unusedSimpArgs false
set_option linter.unusedVariables false
open Go Go.RowKit
set_option maxRecDepth 100000
theorem shape_bytes : Shape 27 (fun bs => [bytesL bs]) (fun bs => bs.length ≤ 140737488351232) :=
  (shape_slice (shape_u8 Try.underlying5) Try.underlying27 (b := 1) (by kernel_rfl)).map id (fun x => rfl) (fun x h => by simpa using h.2.1)
def LetOk (x : Let) : Prop := (-9223372036854775808 ≤ x.fr ∧ x.fr ≤ 9223372036854775807) ∧ (-9223372036854775808 ≤ x.dst ∧ x.dst ≤ 9223372036854775807) ∧ x.seq ≤ 18446744073709551615 ∧ x.bs.length ≤ 140737488351232
theorem shape_let : Shape 29 letC LetOk := by
  have b := shape_struct (n := 5) Try.underlying29 (by kernel_rfl) (shapeF_c 1 4 (shape_bool Try.underlying4) (shapeF_c 1 3 (shape_i64 Try.underlying3) (shapeF_c 1 2 (shape_i64 Try.underlying3) (shapeF_c 1 1 (shape_u64 Try.underlying22) (shapeF_c 1 0 shape_bytes shapeF_nil rfl rfl (by kernel_rfl)) rfl rfl (by kernel_rfl)) rfl rfl (by kernel_rfl)) rfl rfl (by kernel_rfl)) rfl rfl (by kernel_rfl))
  exact b.map (fun x => ⟨x.1, x.2.1, x.2.2.1, x.2.2.2.1, x.2.2.2.2.1⟩) (fun x => rfl) (fun x h => ⟨h.2.1, h.2.2.1, h.2.2.2.1, h.2.2.2.2.1⟩)
def StoOk (s : Sto) : Prop := stoFit 0 s ∧ ∀ b ∈ s.boxes, ∀ l ∈ b, LetOk l
theorem shape_sto : Shape 26 stoC StoOk := by
  have b := shape_struct (n := 2) Try.underlying26 (by kernel_rfl) (shapeF_c 1 1 (shape_slice (shape_u64 Try.underlying22) Try.underlying23 (b := 8) (by kernel_rfl)) (shapeF_c 1 0 (shape_slice (shape_slice shape_let Try.underlying43 (b := 56) (by kernel_rfl)) Try.underlying24 (b := 24) (by kernel_rfl)) shapeF_nil rfl rfl (by kernel_rfl)) rfl rfl (by kernel_rfl))
  refine b.map (fun x => ⟨x.1, x.2.1⟩) (fun x => rfl) (fun x h => ?_)
  obtain ⟨h1, h2, _⟩ := h
  exact ⟨⟨h1.1, h1.2.1, h2.2.1, fun b hb => ⟨by have := (h2.1 b hb).2.1; omega, fun l hl => ((h2.1 b hb).1 l hl).2.2.2⟩⟩, fun b hb => (h2.1 b hb).1⟩
theorem OpnR.sto {W : World} {v : Value} (h : OpnR W 26 v) : ∃ s, StoOk s ∧ RT ⟨fun _ => True, W.heap.size⟩ h0 μ0 W (stoT s) v := by
  obtain ⟨cs, hc⟩ := h.cells_agg Try.underlying26
  exact h.agg shape_sto cs hc _ (fun _ => trivial)
theorem OpnR.let {W : World} {v : Value} (h : OpnR W 29 v) : ∃ l, LetOk l ∧ RT ⟨fun _ => True, W.heap.size⟩ h0 μ0 W (letT l) v := by
  obtain ⟨cs, hc⟩ := h.cells_agg Try.underlying29
  exact h.agg shape_let cs hc _ (fun _ => trivial)
theorem OpnR.i64 {W : World} {v : Value} (h : OpnR W 3 v) : ∃ n : Int, (-9223372036854775808 ≤ n ∧ n ≤ 9223372036854775807) ∧ RT ⟨fun _ => True, W.heap.size⟩ h0 μ0 W (intT n) v :=
  h.leaf (shape_i64 Try.underlying3) (fun _ => rfl) (h.cells_int Try.underlying3) _ (fun _ => trivial)
theorem OpnR.u64 {W : World} {v : Value} (h : OpnR W 22 v) : ∃ n : Nat, n ≤ 18446744073709551615 ∧ RT ⟨fun _ => True, W.heap.size⟩ h0 μ0 W (numT n) v :=
  h.leaf (shape_u64 Try.underlying22) (fun _ => rfl) (h.cells_int Try.underlying22) _ (fun _ => trivial)
end Go.Proofs.Ytjmchiofkjkidaa
