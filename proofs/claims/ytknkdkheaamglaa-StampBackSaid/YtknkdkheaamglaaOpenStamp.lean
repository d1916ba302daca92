/- A stamp that came in. -/
import Derived.Test.YtknkdkheaamglaaOpenF
import Derived.Test.YtknkdkheaamglaaStamp
namespace Go.Proofs.Ytknkdkheaamglaa
set_option linter.unusedSimpArgs false
set_option linter.unusedVariables false
open Go.ChangeShapes Go.WideShapes Go.ChangeAt Go.RowKit

theorem Opn.stamp {W : World} {v : Value} (h : Opn W 25 v) : ∃ e r A n c l, v = stV e r A n c ∧ e < 18446744073709551616 ∧ r < 18446744073709551616 ∧ SlI W W.heap.size A n c l ∧ n ≤ 9223372036854775807 := by
  obtain ⟨H, enc, base, d, p, hv, hd⟩ := h
  obtain ⟨v0, v1, v2, y0, y1, y2, n, rfl, _, _, h0, h1, h2⟩ := Go.Joins.open_agg3 Try.underlying25 (by kernel_rfl) (by kernel_rfl) hv hd
  obtain ⟨e, rfl, he⟩ := trod_u64 Try.underlying22 h0
  obtain ⟨r, rfl, hr⟩ := trod_u64 Try.underlying22 h1
  obtain ⟨A, m, c, l, rfl, hs, hm, _⟩ := trod_ints Try.underlying23 Try.underlying3 (by kernel_rfl) h2
  unfold maxLen at hm
  exact ⟨e, r, A, m, c, l, rfl, he, hr, hs, by have := hs.cap; omega⟩
end Go.Proofs.Ytknkdkheaamglaa
