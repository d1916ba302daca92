/- What follows of letters' bodies. -/
import Derived.Test.YtbmdmioikdbigaaLetT
namespace Go.Proofs.Ytbmdmioikdbigaa
set_option linter.unusedSimpArgs false
set_option linter.unusedVariables false
open Go.RowKit

theorem chkL_cov {f t : Int} {s n : Nat} (h : chkL true f t s n = 0) : f = 0 ∧ t = 0 ∧ s = 0 ∧ n = 0 := by
  unfold chkL at h
  rw [if_pos rfl] at h
  split at h
  · simp at h
  · omega
theorem chkL_errs (cov : Bool) (f t : Int) (s n : Nat) : chkL cov f t s n = 0 ∨ chkL cov f t s n = 1 ∨ chkL cov f t s n = 2 := by
  unfold chkL
  repeat' split
  all_goals simp

/-- What may be has a body, which is taken as it was put. -/
theorem putL_take {cov : Bool} {f t : Int} {s : Nat} {bs : List UInt8} (h : chkL cov f t s bs.length = 0) (hs : s < 18446744073709551616) :
    ∃ x, putL cov f t s bs = (x, 0) ∧ x.length = 78 ∧ takeL x = ((cov, f.toNat, t.toNat, s, bs), 0) ∧ (f.toNat : Int) = f ∧ (t.toNat : Int) = t ∧ bs.length ≤ 64 := by
  rcases cov with _ | _
  · obtain ⟨⟨h0, hf⟩, ⟨h0', ht⟩, h1, hn⟩ := chkL_ok h
    obtain ⟨f, rfl⟩ := Int.eq_ofNat_of_zero_le h0
    obtain ⟨t, rfl⟩ := Int.eq_ofNat_of_zero_le h0'
    exact ⟨_, putL_ok h, bodyL_len _ _ _ _ hn, takeL_body f t s bs h hs, rfl, rfl, hn⟩
  · obtain ⟨rfl, rfl, rfl, hn⟩ := chkL_cov h
    obtain rfl := List.eq_nil_of_length_eq_zero hn
    exact ⟨_, putL_cov h, by simp, takeL_cov rfl, rfl, rfl, by simp⟩
/-- What was taken is put as these bytes. -/
theorem take_putL (b : List UInt8) : takeL b = badL ∨ ∃ cov f t s tx, takeL b = ((cov, f, t, s, tx), 0) ∧ s < 18446744073709551616 ∧ tx.length ≤ 64 ∧ putL cov (f : Nat) (t : Nat) s tx = (b, 0) := by
  by_cases hl : b.length ≠ 78
  · exact .inl (takeL_len hl)
  have hl' : b.length = 78 := by omega
  by_cases hz : b = List.replicate 78 0
  · refine .inr ⟨true, 0, 0, 0, [], takeL_cov hz, by decide, by simp, ?_⟩
    rw [hz]; rfl
  by_cases h1 : b.getD 0 0 = 1
  case neg => exact .inl (takeL_form hl' hz (.inl h1))
  rcases hu : unfillS (b.drop 13) with ⟨tx, er⟩
  by_cases he : er = 0
  case neg => exact .inl (takeL_form hl' hz (.inr (by rw [hu]; exact he)))
  subst he
  by_cases hc : chkL false (getN ((b.drop 1).take 2) : Nat) (getN ((b.drop 3).take 2) : Nat) (getN ((b.drop 5).take 8)) (unfillS (b.drop 13)).1.length = 0
  case neg => exact .inl (takeL_chk hl' hz h1 (by rw [hu]) hc)
  have hb := body_back b hl' h1 tx hu
  have ht := takeL_ok hl' hz h1 (by rw [hu]) hc
  unfold partsL at ht
  rw [hu] at ht hc
  refine .inr ⟨_, _, _, _, _, ht, ?_, hb.2, ?_⟩
  · have := getN_lt ((b.drop 5).take 8)
    rw [show ((b.drop 5).take 8).length = 8 from by simp; omega] at this
    exact this
  · rw [putL_ok hc, hb.1]

theorem one_pure (c0 c1 : Bool) (f0 t0 f1 t1 : Int) (s0 s1 : Nat) (b0 b1 : List UInt8) (h0 : s0 < 18446744073709551616) (h1 : s1 < 18446744073709551616) :
    ∃ x0 e0 x1 e1, putL c0 f0 t0 s0 b0 = (x0, e0) ∧ putL c1 f1 t1 s1 b1 = (x1, e1) ∧ x0.length ≤ 78 ∧ x1.length ≤ 78 ∧
      ((e0 != 0) = true ∨ (e0 = 0 ∧ (e1 != 0) = true) ∨ (e0 = 0 ∧ e1 = 0 ∧ decide (x0 = x1) = sameL c0 f0 t0 s0 b0 c1 f1 t1 s1 b1)) := by
  by_cases k0 : chkL c0 f0 t0 s0 b0.length = 0
  case neg =>
    by_cases k1 : chkL c1 f1 t1 s1 b1.length = 0
    · obtain ⟨x, hp, hx, _⟩ := putL_take k1 h1
      exact ⟨_, _, _, _, putL_bad k0, hp, by simp, by omega, .inl (by simpa using k0)⟩
    · exact ⟨_, _, _, _, putL_bad k0, putL_bad k1, by simp, by simp, .inl (by simpa using k0)⟩
  obtain ⟨x, hp, hx, hk, hf, ht, _⟩ := putL_take k0 h0
  by_cases k1 : chkL c1 f1 t1 s1 b1.length = 0
  case neg => exact ⟨_, _, _, _, hp, putL_bad k1, by omega, by simp, .inr (.inl ⟨rfl, by simpa using k1⟩)⟩
  obtain ⟨x', hp', hx', hk', hf', ht', _⟩ := putL_take k1 h1
  refine ⟨_, _, _, _, hp, hp', by omega, by omega, .inr (.inr ⟨rfl, rfl, ?_⟩)⟩
  unfold sameL
  rw [decide_eq_decide]
  constructor
  · rintro rfl
    rw [hk] at hk'
    simp only [Prod.mk.injEq, and_true] at hk'
    obtain ⟨a, b, c, d, e⟩ := hk'
    exact ⟨a, by rw [← hf, ← hf', b], by rw [← ht, ← ht', c], d, e⟩
  · rintro ⟨rfl, rfl, rfl, rfl, rfl⟩
    rw [hp] at hp'
    exact congrArg Prod.fst hp'

theorem unfill_cut (bs : List UInt8) (k : Nat) (hn : bs.length ≤ 64) (h1 : 1 + bs.length ≤ k) (h : k < 65) : unfillS ((fillL bs).set k 7) = ([], 3) := by
  obtain ⟨j, rfl⟩ : ∃ j, k = j + 1 := ⟨k - 1, by omega⟩
  have hx : (UInt8.ofNat bs.length).toNat = bs.length := by rw [UInt8.toNat_ofNat']; omega
  unfold fillL
  rw [List.cons_append, List.set_cons_succ]
  refine unfillS_form _ _ (by simp; omega) (by simp; omega) (.inr ?_)
  rw [hx, List.all_eq_false]
  refine ⟨7, ?_, by decide⟩
  apply List.mem_of_getElem? (i := j - bs.length)
  rw [List.getElem?_drop, show bs.length + (j - bs.length) = j by omega, List.getElem?_set]
  simp
  omega
theorem takeL_cut (f t s : Nat) (bs : List UInt8) (k : Nat) (hn : bs.length ≤ 64) (h1 : 14 + bs.length ≤ k) (h : k < 78) : takeL ((bodyL f t s bs).set k 7) = badL := by
  have hlen := bodyL_len f t s bs hn
  have hl : ((bodyL f t s bs).set k 7).length = 78 := by rw [List.length_set, hlen]
  have h0 : ((bodyL f t s bs).set k 7).getD 0 0 = 1 := by
    obtain ⟨j, rfl⟩ : ∃ j, k = j + 1 := ⟨k - 1, by omega⟩
    rfl
  have d13 : ((bodyL f t s bs).set k 7).drop 13 = (fillL bs).set (k - 13) 7 := by
    have L1 : (beB 2 f).length = 2 := beB_len _ _
    have L2 : (beB 2 t).length = 2 := beB_len _ _
    have L3 : (beB 8 s).length = 8 := beB_len _ _
    have e : bodyL f t s bs = (1 :: (beB 2 f ++ (beB 2 t ++ beB 8 s))) ++ fillL bs := by unfold bodyL; simp
    have L : (1 :: (beB 2 f ++ (beB 2 t ++ beB 8 s))).length = 13 := by simp [L1, L2, L3]
    rw [e, List.set_append_right _ _ (by rw [L]; omega), L]
    exact List.drop_left' L
  refine takeL_form hl (not_noughts h0) (.inr ?_)
  rw [d13, unfill_cut bs _ hn (by omega) (by omega)]
  decide
theorem TellsL.badE {w w' : World} {e : Ending} (h : TellsL w badL e w') : ∃ A c, e = .returned (.tuple #[.agg #[.bool false, .int .i64 0, .int .i64 0, .int .u64 0, .slice A 0 c], .int .i64 3]) ∧ OwnB w' w.heap.size A 0 c [] ∧ Below w.heap.size w w' := h
theorem two_small (f : Nat) (h : f ≤ 7) : beB 2 f = [0, UInt8.ofNat f] := by
  simp [beB, Nat.div_eq_of_lt (show f < 256 by omega)]
end Go.Proofs.Ytbmdmioikdbigaa
