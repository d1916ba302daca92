/- What follows of numbers and texts as bytes: plain lists and numbers. -/
import Derived.Test.YtbmdmioikdbigaaWordF
import Derived.Test.YtbmdmioikdbigaaWordN
import Derived.Test.YtbmdmioikdbigaaWordU
namespace Go.Proofs.Ytbmdmioikdbigaa
set_option linter.unusedSimpArgs false
set_option linter.unusedVariables false
open Go.RowKit

/-- What was filled is told again. -/
theorem unfill_fill (bs : List UInt8) (k : Nat) (h1 : 1 ≤ k) (h8 : k ≤ 255) (h : bs.length ≤ k) :
    unfillS (UInt8.ofNat bs.length :: bs ++ List.replicate (k - bs.length) 0) = (bs, 0) := by
  have hn : (UInt8.ofNat bs.length).toNat = bs.length := by rw [UInt8.toNat_ofNat']; omega
  rw [List.cons_append, unfillS_ok _ _ (by simp; omega) (by simp; omega) (by rw [hn]; simp) (by rw [hn, List.drop_left]; exact all_noughts _), hn, List.take_left]
/-- What was told is filled so again. -/
theorem fill_unfill (b x : List UInt8) (h : unfillS b = (x, 0)) : 2 ≤ b.length ∧ b.length ≤ 256 ∧ x.length ≤ b.length - 1 ∧ fillS x ((b.length - 1 : Nat) : Int) = (b, 0) := by
  unfold unfillS at h
  split at h
  · simp at h
  · rename_i hl
    split at h
    · simp at h
    · rename_i hf
      rcases b with _ | ⟨y, l⟩
      · simp at hl
      simp only [List.length_cons, List.headD_cons, Nat.add_comm 1, List.drop_succ_cons, List.drop_zero, Prod.mk.injEq, and_true, Nat.add_sub_cancel, not_or] at h hf hl ⊢
      subst h
      have hy : y.toNat ≤ l.length := by omega
      have hlen : (l.take y.toNat).length = y.toNat := by rw [List.length_take]; omega
      refine ⟨by omega, by omega, by omega, ?_⟩
      rw [fillS_ok _ _ (by omega) (by omega) (by omega), hlen]
      have h0 : (l.drop y.toNat).all (· == 0) = true := by simpa using hf.2
      have h1 := noughts_all _ h0
      rw [List.length_drop] at h1
      rw [← h1, List.cons_append, List.take_append_drop]
      congr 2
      simp
end Go.Proofs.Ytbmdmioikdbigaa
