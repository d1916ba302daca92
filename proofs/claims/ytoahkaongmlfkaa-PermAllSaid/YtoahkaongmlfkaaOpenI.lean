/- A list of ints that came in. -/
import Derived.Test.YtoahkaongmlfkaaOpenF
namespace Go.Proofs.Ytoahkaongmlfkaa
set_option linter.unusedSimpArgs false
set_option linter.unusedVariables false
open Go.ChangeShapes Go.WideShapes Go.ChangeAt Go.RowKit

theorem Opn.ints {W : World} {v : Value} (h : Opn W 22 v) : ∃ A n c zs, v = .slice A n c ∧ SlI W W.heap.size A n c zs ∧ c ≤ maxLen ∧ ∀ z ∈ zs, -9223372036854775808 ≤ z ∧ z ≤ 9223372036854775807 := by
  obtain ⟨H, enc, base, d, p, hv, hd⟩ := h
  obtain ⟨A, n, c, rfl⟩ := okWide_slice Try.underlying22 hv
  obtain ⟨fuel, hf⟩ := hd
  obtain ⟨A', m, c', zs, e, hs, hm, hz⟩ := trod_ints (v := .slice A n c) Try.underlying22 Try.underlying3 (by kernel_rfl) (by simpa [Value.cells] using hf)
  cases e
  exact ⟨A, n, c, zs, rfl, hs, hm, hz⟩
end Go.Proofs.Ytoahkaongmlfkaa
