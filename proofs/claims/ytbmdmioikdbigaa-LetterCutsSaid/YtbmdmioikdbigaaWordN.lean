/- What follows of numbers and texts as bytes: plain lists and numbers. -/
import Derived.Test.YtbmdmioikdbigaaWord
namespace Go.Proofs.Ytbmdmioikdbigaa
set_option linter.unusedSimpArgs false
set_option linter.unusedVariables false
open Go.RowKit

theorem getN_beB (k n : Nat) : getN (beB k n) = n % 256 ^ k := by
  induction k generalizing n with
  | zero => simp [beB, getN, Nat.mod_one]
  | succ k ih =>
    rw [beB, getN_snoc, ih, Nat.pow_succ', UInt8.toNat_ofNat']
    have h1 : n % (256 * 256 ^ k) = n % 256 + 256 * (n / 256 % 256 ^ k) := Nat.mod_mul
    rw [h1]
    simp; omega
theorem getN_beB_fit (k n : Nat) (h : n / 256 ^ k = 0) : getN (beB k n) = n := by
  rw [getN_beB, Nat.mod_eq_of_lt]
  have hp : 0 < 256 ^ k := Nat.pow_pos (by decide)
  exact (Nat.div_eq_zero_iff_lt hp).1 h
theorem snoc_cases (l : List UInt8) : l = [] ∨ ∃ r x, l = r ++ [x] := by
  rcases l.eq_nil_or_concat with h | ⟨r, x, h⟩
  · exact .inl h
  · exact .inr ⟨r, x, by simpa using h⟩
theorem beB_getN (bs : List UInt8) : beB bs.length (getN bs) = bs := by
  generalize hk : bs.length = k
  induction k generalizing bs with
  | zero => rw [List.eq_nil_of_length_eq_zero hk]; rfl
  | succ k ih =>
    rcases snoc_cases bs with rfl | ⟨r, x, rfl⟩
    · simp at hk
    · have hr : r.length = k := by simpa using hk
      have hx := x.toNat_lt
      rw [getN_snoc, beB, show (getN r * 256 + x.toNat) / 256 = getN r from by omega, ih r hr]
      congr 2
      apply UInt8.toNat_inj.1
      rw [UInt8.toNat_ofNat']
      omega
theorem getN_fits (bs : List UInt8) : getN bs / 256 ^ bs.length = 0 := Nat.div_eq_of_lt (getN_lt bs)

theorem getN_cons (x : UInt8) (l : List UInt8) : getN (x :: l) = x.toNat * 256 ^ l.length + getN l := by
  generalize hk : l.length = k
  induction k generalizing l with
  | zero => rw [List.eq_nil_of_length_eq_zero hk]; simp [getN]
  | succ k ih =>
    rcases snoc_cases l with rfl | ⟨r, y, rfl⟩
    · simp at hk
    · have hr : r.length = k := by simpa using hk
      rw [← List.cons_append, getN_snoc, getN_snoc, ih r hr, Nat.pow_succ, Nat.add_mul, Nat.mul_assoc, Nat.add_assoc]
theorem less_getN (a b : List UInt8) (h : a.length = b.length) : Op.bytesLess a b = decide (getN a < getN b) := by
  induction a generalizing b with
  | nil =>
    rw [List.eq_nil_of_length_eq_zero h.symm]
    rfl
  | cons x l ih =>
    rcases b with _ | ⟨y, r⟩
    · simp at h
    · have hl : l.length = r.length := by simpa using h
      rw [Op.bytesLess, ih r hl, getN_cons, getN_cons, hl]
      have h1 := getN_lt l
      have h2 := getN_lt r
      rw [hl] at h1
      have hp : 0 < 256 ^ r.length := Nat.pow_pos (by decide)
      generalize 256 ^ r.length = p at h1 h2 hp
      generalize getN l = u at h1
      generalize getN r = v at h2
      rw [Bool.eq_iff_iff]
      simp only [Bool.or_eq_true, Bool.and_eq_true, decide_eq_true_eq, beq_iff_eq, UInt8.lt_iff_toNat_lt]
      rw [← UInt8.toNat_inj]
      generalize x.toNat = s
      generalize y.toNat = t
      constructor
      · rintro (h | ⟨rfl, h⟩)
        · have : (s + 1) * p ≤ t * p := Nat.mul_le_mul_right _ h
          rw [Nat.add_mul] at this
          omega
        · omega
      · intro h
        rcases Nat.lt_trichotomy s t with h' | h' | h'
        · exact .inl h'
        · subst h'; exact .inr ⟨rfl, by omega⟩
        · have : (t + 1) * p ≤ s * p := Nat.mul_le_mul_right _ h'
          rw [Nat.add_mul] at this
          omega
theorem beB_inj (k n m : Nat) (hn : n / 256 ^ k = 0) (hm : m / 256 ^ k = 0) : (beB k n = beB k m) = (n = m) := by
  apply propext
  constructor
  · intro h
    rw [← getN_beB_fit k n hn, h, getN_beB_fit k m hm]
  · rintro rfl; rfl

theorem all_noughts (m : Nat) : (List.replicate m (0 : UInt8)).all (· == 0) = true := by
  rw [List.all_eq_true]
  intro x hx
  rw [List.eq_of_mem_replicate hx]; rfl
theorem noughts_all (l : List UInt8) (h : l.all (· == 0) = true) : l = List.replicate l.length 0 := by
  apply List.eq_replicate_iff.2
  refine ⟨rfl, fun x hx => ?_⟩
  have := List.all_eq_true.1 h x hx
  simpa using this
end Go.Proofs.Ytbmdmioikdbigaa
