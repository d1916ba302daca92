/- Queues as plain values: what comes in. -/
import Derived.Test.YtoogjgmlbphldaaPwQL
import Derived.Test.YtoogjgmlbphldaaPwO
namespace Go.Proofs.Ytoogjgmlbphldaa
set_option linter.unusedSimpArgs false
set_option linter.unusedVariables false
open Go Go.RowKit
set_option maxRecDepth 100000
theorem shape_bytes : Shape 22 (fun bs => [bytesL bs]) (fun bs => bs.length ≤ 140737488351232) :=
  (shape_slice (shape_u8 Try.underlying5) Try.underlying22 (b := 1) (by kernel_rfl)).map id (fun x => rfl) (fun x h => by simpa using h.2.1)
def LetOk (x : Let) : Prop := (-9223372036854775808 ≤ x.fr ∧ x.fr ≤ 9223372036854775807) ∧ (-9223372036854775808 ≤ x.dst ∧ x.dst ≤ 9223372036854775807) ∧ x.seq ≤ 18446744073709551615 ∧ x.bs.length ≤ 140737488351232
theorem shape_let : Shape 34 letC LetOk := by
  have b := shape_struct (n := 5) Try.underlying34 (by kernel_rfl) (shapeF_c 1 4 (shape_bool Try.underlying4) (shapeF_c 1 3 (shape_i64 Try.underlying3) (shapeF_c 1 2 (shape_i64 Try.underlying3) (shapeF_c 1 1 (shape_u64 Try.underlying23) (shapeF_c 1 0 shape_bytes shapeF_nil rfl rfl (by kernel_rfl)) rfl rfl (by kernel_rfl)) rfl rfl (by kernel_rfl)) rfl rfl (by kernel_rfl)) rfl rfl (by kernel_rfl))
  exact b.map (fun x => ⟨x.1, x.2.1, x.2.2.1, x.2.2.2.1, x.2.2.2.2.1⟩) (fun x => rfl) (fun x h => ⟨h.2.1, h.2.2.1, h.2.2.2.1, h.2.2.2.2.1⟩)
def QueOk (q : Que) : Prop := q.next ≤ 18446744073709551615 ∧ (∀ x ∈ q.items, LetOk x) ∧ q.items.length * 56 ≤ 140737488351232
theorem shape_que : Shape 28 (fun q => [.sc (.int .u64 (q.next : Int)), letsL q.items]) QueOk := by
  have b := shape_struct (n := 2) Try.underlying28 (by kernel_rfl) (shapeF_c 1 1 (shape_u64 Try.underlying23) (shapeF_c 1 0 (shape_slice shape_let Try.underlying26 (b := 56) (by kernel_rfl)) shapeF_nil rfl rfl (by kernel_rfl)) rfl rfl (by kernel_rfl))
  exact b.map (fun x => ⟨x.1, x.2.1⟩) (fun x => rfl) (fun x h => ⟨h.1, h.2.1.1, h.2.1.2.1⟩)
theorem shape_cf : Shape 25 cfC (fun _ => True) := by
  have b := shape_struct (n := 11) Try.underlying25 (by kernel_rfl) (shapeF_c 1 10 shape_bytes (shapeF_c 1 9 (shape_i64 Try.underlying3) (shapeF_c 1 8 (shape_i64 Try.underlying3) (shapeF_c 1 7 (shape_i64 Try.underlying3) (shapeF_c 1 6 (shape_i64 Try.underlying3) (shapeF_c 1 5 (shape_i64 Try.underlying3) (shapeF_c 1 4 (shape_i64 Try.underlying3) (shapeF_c 1 3 (shape_i64 Try.underlying3) (shapeF_c 1 2 (shape_i64 Try.underlying3) (shapeF_c 1 1 (shape_u64 Try.underlying23) (shapeF_c 1 0 (shape_u64 Try.underlying23) shapeF_nil rfl rfl (by kernel_rfl)) rfl rfl (by kernel_rfl)) rfl rfl (by kernel_rfl)) rfl rfl (by kernel_rfl)) rfl rfl (by kernel_rfl)) rfl rfl (by kernel_rfl)) rfl rfl (by kernel_rfl)) rfl rfl (by kernel_rfl)) rfl rfl (by kernel_rfl)) rfl rfl (by kernel_rfl)) rfl rfl (by kernel_rfl))
  exact b.map (fun x => ⟨x.1, x.2.1, x.2.2.1, x.2.2.2.1, x.2.2.2.2.1, x.2.2.2.2.2.1, x.2.2.2.2.2.2.1, x.2.2.2.2.2.2.2.1, x.2.2.2.2.2.2.2.2.1, x.2.2.2.2.2.2.2.2.2.1, x.2.2.2.2.2.2.2.2.2.2.1⟩) (fun x => rfl) (fun x h => trivial)
theorem OpnR.que {W : World} {v : Value} (h : OpnR W 28 v) : ∃ q, QueOk q ∧ RT ⟨fun _ => True, W.heap.size⟩ h0 μ0 W (queT q) v := by
  obtain ⟨cs, hc⟩ := h.cells_agg Try.underlying28
  exact h.agg shape_que cs hc _ (fun _ => trivial)
theorem OpnR.cf {W : World} {v : Value} (h : OpnR W 25 v) : ∃ c, RT ⟨fun _ => True, W.heap.size⟩ h0 μ0 W (cfT c) v := by
  obtain ⟨cs, hc⟩ := h.cells_agg Try.underlying25
  obtain ⟨c, _, r⟩ := h.agg shape_cf cs hc _ (fun _ => trivial)
  exact ⟨c, r⟩
theorem OpnR.byt {W : World} {v : Value} (h : OpnR W 22 v) : ∃ bs, bs.length ≤ 140737488351232 ∧ RT ⟨fun _ => True, W.heap.size⟩ h0 μ0 W (bytesT bs) v :=
  h.leaf shape_bytes (fun _ => rfl) (h.cells_slice Try.underlying22) _ (fun _ => trivial)
theorem OpnR.i64 {W : World} {v : Value} (h : OpnR W 3 v) : ∃ n : Int, (-9223372036854775808 ≤ n ∧ n ≤ 9223372036854775807) ∧ RT ⟨fun _ => True, W.heap.size⟩ h0 μ0 W (intT n) v :=
  h.leaf (shape_i64 Try.underlying3) (fun _ => rfl) (h.cells_int Try.underlying3) _ (fun _ => trivial)
theorem OpnR.u64 {W : World} {v : Value} (h : OpnR W 23 v) : ∃ n : Nat, n ≤ 18446744073709551615 ∧ RT ⟨fun _ => True, W.heap.size⟩ h0 μ0 W (.leaf (.sc (.int .u64 (n : Int)))) v :=
  h.leaf (shape_u64 Try.underlying23) (fun _ => rfl) (h.cells_int Try.underlying23) _ (fun _ => trivial)
end Go.Proofs.Ytoogjgmlbphldaa
