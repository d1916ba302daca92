/- The walk of the law WordOrder. -/
import Derived.Test.YtnkkmnffcbakpaaOpen
import Derived.Test.YtnkkmnffcbakpaaLive03
import Derived.Test.YtnkkmnffcbakpaaWordP
namespace Go.Proofs.Ytnkkmnffcbakpaa
set_option linter.unusedSimpArgs false
set_option linter.unusedVariables false
open Go.RowKit

set_option maxHeartbeats 1600000 in
theorem walk_WordOrder (W : World) (v0 v1 v2 : Value) (o0 : Opn W 22 v0) (o1 : Opn W 22 v1) (o2 : Opn W 3 v2) :
    Calls Try.prog 7 #[v0, v1, v2] W fun e w' => e = .returned (.bool true) ∧ Below W.heap.size W w' := by
  obtain ⟨n, rfl, hn⟩ := o0.u64 Try.underlying22
  obtain ⟨m, rfl, hm⟩ := o1.u64 Try.underlying22
  obtain ⟨wide, rfl, hw⟩ := o2.i64 Try.underlying3
  have P1 := fun w => wordPut_any w n wide hn
  have P2 := fun w => wordPut_any w m wide hm
  clear hn hm hw
  by_cases h : wide < 1 ∨ 8 < wide ∨ n / 256 ^ wide.toNat ≠ 0 ∨ m / 256 ^ wide.toNat ≠ 0
  · have hS : ∃ b1 e1 b2 e2, putS n wide = (b1, e1) ∧ putS m wide = (b2, e2) ∧ ((e1 != 0) = true ∧ b1 = [] ∨ (e1 != 0) = false ∧ (e2 != 0) = true ∧ b2 = []) := by
      unfold putS
      by_cases h1 : wide < 1 ∨ 8 < wide
      · rw [if_pos h1, if_pos h1]
        exact ⟨_, _, _, _, rfl, rfl, .inl ⟨rfl, rfl⟩⟩
      · rw [if_neg h1, if_neg h1]
        by_cases h2 : n / 256 ^ wide.toNat ≠ 0
        · rw [if_pos h2]
          exact ⟨_, _, _, _, rfl, rfl, .inl ⟨rfl, rfl⟩⟩
        · have h3 : m / 256 ^ wide.toNat ≠ 0 := by
            rcases h with h | h | h | h
            · exact absurd (.inl h) h1
            · exact absurd (.inr h) h1
            · exact absurd h h2
            · exact h
          rw [if_neg h2, if_pos h3]
          exact ⟨_, _, _, _, rfl, rfl, .inr ⟨rfl, rfl, rfl⟩⟩
    clear h
    obtain ⟨b1, e1, b2, e2, hs1, hs2, hor⟩ := hS
    rw [hs1] at P1
    rw [hs2] at P2
    clear hs1 hs2
    have HP1 := Lib.hid P1
    have HP2 := Lib.hid P2
    clear P1 P2
    rcases hor with ⟨he, rfl⟩ | ⟨he, he2, rfl⟩
    all_goals
      go_enter Try.func7, Try.ntmps7
      go_wp2_with (go_at_call 9; refine (live_any _).mono ?_; rintro e w1 ⟨rfl, hb1⟩)
      refine (HP1.out _).mono ?_
      intro e w2 ht
      obtain ⟨A1, c1, rfl, ho1, hb2⟩ := ht.pair
      clear ht
      go_wp2_with fail
      refine (HP2.out _).mono ?_
      intro e w3 ht
      obtain ⟨A2, c2, rfl, ho2, hb3⟩ := ht.pair
      clear ht
      go_wp2_with fail
      all_goals
        go_ret
        refine ⟨by simp, ?_⟩
        have hb12 := hb1.trans (hb2.mono hb1.size)
        exact hb12.trans (hb3.mono hb12.size)
  · obtain ⟨k, rfl⟩ := Int.eq_ofNat_of_zero_le (show 0 ≤ wide by omega)
    rw [Int.toNat_natCast] at h
    have h1 : 1 ≤ k := by omega
    have h8 : k ≤ 8 := by omega
    have hn0 : n / 256 ^ k = 0 := by
      rcases Nat.eq_zero_or_pos (n / 256 ^ k) with h' | h'
      · exact h'
      · exact absurd (.inr (.inr (.inl (by omega)))) h
    have hm0 : m / 256 ^ k = 0 := by
      rcases Nat.eq_zero_or_pos (m / 256 ^ k) with h' | h'
      · exact h'
      · exact absurd (.inr (.inr (.inr (by omega)))) h
    rw [putS_ok n k h1 h8 hn0] at P1
    rw [putS_ok m k h1 h8 hm0] at P2
    have hless : Op.bytesLess (strOf (beB k n)).toList (strOf (beB k m)).toList = decide ((n : Int) < m) := by
      rw [strOf_list, strOf_list, less_getN _ _ (by rw [beB_len, beB_len]), getN_beB_fit k n hn0, getN_beB_fit k m hm0]
      simp
    have hsame : decide (beB k n = beB k m) = ((n : Int) == m) := by
      rw [Bool.eq_iff_iff]
      simp only [decide_eq_true_eq, beq_iff_eq]
      rw [beB_inj k n m hn0 hm0]
      omega
    clear h hn0 hm0
    have HS := Lib.hid hsame
    clear hsame
    have HL := Lib.hid hless
    clear hless
    generalize beB k n = b1 at P1 HS HL
    generalize beB k m = b2 at P2 HS HL
    have HP1 := Lib.hid P1
    have HP2 := Lib.hid P2
    clear P1 P2
    go_enter Try.func7, Try.ntmps7
    go_wp2_with (go_at_call 9; refine (live_any _).mono ?_; rintro e w1 ⟨rfl, hb1⟩)
    refine (HP1.out _).mono ?_
    intro e w2 ht
    obtain ⟨A1, c1, rfl, ho1, hb2⟩ := ht.pair
    clear ht
    go_wp2_with fail
    refine (HP2.out _).mono ?_
    intro e w3 ht
    obtain ⟨A2, c2, rfl, ho2, hb3⟩ := ht.pair
    clear ht
    have s1 := run_string_of Try.underlying23 Try.underlying5 Try.underlying9 (ho1.sl.below hb3)
    have s2 := run_string_of Try.underlying23 Try.underlying5 Try.underlying9 ho2.sl
    have hq : (decide (n < m) == Op.bytesLess (strOf b1).toList (strOf b2).toList) = true := by rw [HL.out]; simp
    go_wp2_with fail
    refine (Same_any _ _ _ _ _ _ _ _ _ _ _ (ho1.sl.below hb3) ho2.sl).mono ?_
    rw [HS.out]
    rintro e w4 ⟨rfl, rfl⟩
    go_wp2_with fail
    go_ret
    refine ⟨by simp, ?_⟩
    · have hb12 := hb1.trans (hb2.mono hb1.size)
      exact hb12.trans (hb3.mono hb12.size)
end Go.Proofs.Ytnkkmnffcbakpaa
