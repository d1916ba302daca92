/- The walk of the law StampCuts. -/
import Derived.Test.YtknkdkheaamglaaOpenStamp
import Derived.Test.YtknkdkheaamglaaLive04
import Derived.Test.YtknkdkheaamglaaStampR
namespace Go.Proofs.Ytknkdkheaamglaa
set_option linter.unusedSimpArgs false
set_option linter.unusedVariables false
open Go.RowKit

theorem stampCheck_big (w : World) (e r n c : Nat) (A : Option Addr) (hn : 8 < n) :
    Calls Try.prog 13 #[stV e r A n c] w fun x w' => x = .returned (.int .i64 1) ∧ Below w.heap.size w w' := by
  go_enter Try.func13, Try.ntmps13
  go_wp2_with fail
  go_ret
  exact ⟨rfl, (Below.refl _ _).alloc (Nat.le_refl _) _⟩
theorem stampPut_big (w : World) (e r n c : Nat) (A : Option Addr) (hn : 8 < n) :
    Calls Try.prog 11 #[stV e r A n c] w (TellsB w ([], 1)) := by
  go_enter Try.func11, Try.ntmps11
  go_wp2_with fail
  refine (stampCheck_big _ _ _ _ _ _ hn).mono ?_
  rintro x w1 ⟨rfl, hb1⟩
  simp only [World.size_alloc] at hb1
  obtain ⟨R1, hba⟩ := box1 hb1
  go_wp2_with fail
  go_ret2
  exact TellsB.none_ hba
theorem stampPut_all (w : World) (B : Nat) (e r n c : Nat) (A : Option Addr) (l : List Int) (h : SlI w B A n c l) (hB : B ≤ w.heap.size) (he : e < 18446744073709551616) (hr : r < 18446744073709551616) :
    Calls Try.prog 11 #[stV e r A n c] w (TellsB w (putStS e r l)) := by
  by_cases hn : 8 < n
  · have : putStS e r l = ([], 1) := by
      unfold putStS
      rcases chkS_01 l with ⟨_, hk⟩ | ⟨h0, _⟩
      · unfold okChain at hk
        have := of_decide_eq_true hk
        rw [h.len] at this
        omega
      · rw [h0]; rfl
    rw [this]
    exact stampPut_big w e r n c A hn
  · exact stampPut_any w B e r n c A l h hB (by omega) he hr

theorem putSt_len (e r : Nat) (l : List Int) : (putSt e r l).length = 17 + l.length := by
  unfold putSt
  simp only [List.length_append, beB_len, List.length_cons, List.length_map]
  omega
theorem putSt_16 (e r : Nat) (l : List Int) : (putSt e r l)[16]? = some (UInt8.ofNat l.length) := by
  unfold putSt
  rw [List.getElem?_append_right (by rw [beB_len]; decide), beB_len, List.getElem?_append_right (by rw [beB_len]; decide), beB_len]
  rfl
theorem takeSt_cut (e r : Nat) (l : List Int) (k : Nat) (h8 : l.length ≤ 8) (hk : k < 17 + l.length) : takeSt ((putSt e r l).take k) = ((0, 0, []), 0, 3) := by
  have hl : ((putSt e r l).take k).length = k := by rw [List.length_take, putSt_len]; omega
  by_cases h17 : k < 17
  · exact takeSt_short _ (by rw [hl]; exact h17)
  · refine takeSt_many _ (by rw [hl]; omega) ?_
    have : ((putSt e r l).take k).getD 16 0 = UInt8.ofNat l.length := by
      rw [List.getD, List.getElem?_take, if_pos (by omega), putSt_16]; rfl
    rw [this, hl]
    have : (UInt8.ofNat l.length).toNat = l.length := by simp; omega
    rw [this]
    exact hk

set_option maxHeartbeats 1600000 in
theorem walk_StampCuts (W : World) (v0 v1 : Value) (o0 : Opn W 25 v0) (o1 : Opn W 3 v1) :
    Calls Try.prog 7 #[v0, v1] W fun e w' => e = .returned (.bool true) ∧ Below W.heap.size W w' := by
  obtain ⟨e0, r0, A0, n0, c0, l0, rfl, he0, hr0, hs0, hn0⟩ := o0.stamp
  obtain ⟨k, rfl, hk⟩ := o1.i64 Try.underlying3
  clear o0 o1
  have P1 := Lib.hid fun w (hb : Below W.heap.size W w) => stampPut_all w _ e0 r0 n0 c0 A0 l0 (hs0.below hb) hb.size he0 hr0
  have hor : (∃ b0, putStS e0 r0 l0 = (b0, 1)) ∨ (∃ b0, putStS e0 r0 l0 = (b0, 0) ∧ n0 ≤ 8 ∧ b0.length ≤ 300 ∧ ∀ j : Nat, j < b0.length → takeSt (b0.take j) = ((0, 0, []), 0, 3)) := by
    rcases chkS_01 l0 with ⟨h0, hk⟩ | ⟨h0, _⟩
    · refine .inr ⟨putSt e0 r0 l0, by unfold putStS; rw [if_pos h0], ?_⟩
      unfold okChain at hk
      have := of_decide_eq_true hk
      rw [putSt_len]
      refine ⟨by rw [← hs0.len]; omega, by omega, fun j hj => takeSt_cut _ _ _ _ (by omega) hj⟩
    · exact .inl ⟨[], by unfold putStS; rw [h0]; rfl⟩
  have S1 : Hid (sameS 0 0 [] 0 0 [] = true) := Lib.hid (by decide)
  clear hs0 he0 hr0 hn0
  rcases hor with ⟨b0, hp⟩ | ⟨b0, hp, h8, h300, hcut⟩
  · rw [hp] at P1
    by_cases hsh : n0 ≤ 60
    · have HSH : Hid (decide (n0 ≤ 60) = true) := Lib.hid (decide_eq_true hsh)
      clear hsh
      go_enter Try.func7, Try.ntmps7
      go_wp2_with (go_at_call 9; refine (live_any _).mono ?_; rintro e w1 ⟨rfl, hb1⟩; simp only [World.size_alloc] at hb1; obtain ⟨R0, hbw⟩ := box1 hb1; have k00 := R0.cell 0; have k01 := R0.cell 1; have k02 := R0.cell 2; simp at k00 k01 k02)
      refine (P1.out _ hbw).mono ?_
      intro x w3 ht
      obtain ⟨A3, g3, rfl, ho3, hb3⟩ := ht.pair
      clear ht
      replace k00 := cell_next hb3 k00
      replace k01 := cell_next hb3 k01
      replace k02 := cell_next hb3 k02
      replace hbw := after_next hbw hb3
      go_wp2_with fail
      refine (short1_any _ _ _ _ _ _).mono ?_
      rw [HSH.out]
      rintro e w2 ⟨rfl, hb2⟩
      go_wp2_with fail
      go_ret
      exact ⟨by simp, after_next hbw hb2⟩
    · have HSH : Hid (decide (n0 ≤ 60) = false) := Lib.hid (decide_eq_false hsh)
      clear hsh
      go_enter Try.func7, Try.ntmps7
      go_wp2_with (go_at_call 9; refine (live_any _).mono ?_; rintro e w1 ⟨rfl, hb1⟩; simp only [World.size_alloc] at hb1; obtain ⟨R0, hbw⟩ := box1 hb1; have k00 := R0.cell 0; have k01 := R0.cell 1; have k02 := R0.cell 2; simp at k00 k01 k02)
      refine (P1.out _ hbw).mono ?_
      intro x w3 ht
      obtain ⟨A3, g3, rfl, ho3, hb3⟩ := ht.pair
      clear ht
      replace k00 := cell_next hb3 k00
      replace k01 := cell_next hb3 k01
      replace k02 := cell_next hb3 k02
      replace hbw := after_next hbw hb3
      go_wp2_with fail
      refine (short1_any _ _ _ _ _ _).mono ?_
      rw [HSH.out]
      rintro e w2 ⟨rfl, hb2⟩
      go_wp2_with fail
      go_ret
      exact ⟨by simp, after_next hbw hb2⟩
  · rw [hp] at P1
    have HSH : Hid (decide (n0 ≤ 60) = true) := Lib.hid (decide_eq_true (by omega))
    have HCUT := Lib.hid hcut
    clear hcut hp
    by_cases hin : 0 ≤ k ∧ k < b0.length
    · obtain ⟨hk0, hk1⟩ := hin
      obtain ⟨j, rfl⟩ := Int.eq_ofNat_of_zero_le hk0
      have hj : j < b0.length := by omega
      go_enter Try.func7, Try.ntmps7
      go_wp2_with (go_at_call 9; refine (live_any _).mono ?_; rintro e w1 ⟨rfl, hb1⟩; simp only [World.size_alloc] at hb1; obtain ⟨R0, hbw⟩ := box1 hb1; have k00 := R0.cell 0; have k01 := R0.cell 1; have k02 := R0.cell 2; simp at k00 k01 k02)
      refine (P1.out _ hbw).mono ?_
      intro x w3 ht
      obtain ⟨A3, g3, rfl, ho3, hb3⟩ := ht.pair
      clear ht
      replace k00 := cell_next hb3 k00
      replace k01 := cell_next hb3 k01
      replace k02 := cell_next hb3 k02
      replace hbw := after_next hbw hb3
      have hcap := ho3.sl.cap
      have hcap' : (j : Int) ≤ g3 := by omega
      go_wp2_with fail
      refine (short1_any _ _ _ _ _ _).mono ?_
      rw [HSH.out]
      rintro e w2 ⟨rfl, hb2⟩
      replace hbw := after_next hbw hb2
      have s3 := (ho3.sl.next hb2).take (k := j) (m := g3) (by omega) (by omega)
      go_wp2_with fail
      refine (stampTake_any _ _ _ _ _ _ s3 (Nat.le_refl _) (by omega)).mono ?_
      rw [HCUT.out j hj]
      rintro x w5 ⟨A5, g5, rfl, s5, hb5⟩
      replace s5 := s5.lay (.cells #[.int .u64 (((0 : Nat) : Int)), .int .u64 (((0 : Nat) : Int)), .slice A5 0 g5] 25)
      go_wp2_with fail
      refine (refStampSame_any _ _ 0 _ _ _ _ _ _ _ _ _ _ _ _ s5 (SlI.none_ _ _ _ _) (Nat.le_refl _) (Nat.zero_le _) (by decide)).mono ?_
      rw [S1.out]
      rintro x w6 ⟨rfl, hb6⟩
      go_wp2_with fail
      go_ret
      exact ⟨by simp, after_next (after_lay (after_next hbw hb5) _) hb6⟩
    · have hor : (k < 0) ∨ (¬ k < 0 ∧ (b0.length : Int) ≤ k) := by omega
      rcases hor with h1 | ⟨h1, h2⟩
      all_goals
        go_enter Try.func7, Try.ntmps7
        go_wp2_with (go_at_call 9; refine (live_any _).mono ?_; rintro e w1 ⟨rfl, hb1⟩; simp only [World.size_alloc] at hb1; obtain ⟨R0, hbw⟩ := box1 hb1; have k00 := R0.cell 0; have k01 := R0.cell 1; have k02 := R0.cell 2; simp at k00 k01 k02)
        refine (P1.out _ hbw).mono ?_
        intro x w3 ht
        obtain ⟨A3, g3, rfl, ho3, hb3⟩ := ht.pair
        clear ht
        replace k00 := cell_next hb3 k00
        replace k01 := cell_next hb3 k01
        replace k02 := cell_next hb3 k02
        replace hbw := after_next hbw hb3
        go_wp2_with fail
        refine (short1_any _ _ _ _ _ _).mono ?_
        rw [HSH.out]
        rintro e w2 ⟨rfl, hb2⟩
        go_wp2_with fail
        go_ret
        exact ⟨by simp, after_next hbw hb2⟩
end Go.Proofs.Ytknkdkheaamglaa
