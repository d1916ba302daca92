/- The walk of the law LetterBack. -/
import Derived.Test.YtbmdmioikdbigaaOpen
import Derived.Test.YtbmdmioikdbigaaLive10
import Derived.Test.YtbmdmioikdbigaaLetQ
namespace Go.Proofs.Ytbmdmioikdbigaa
set_option linter.unusedSimpArgs false
set_option linter.unusedVariables false
open Go.RowKit

set_option maxHeartbeats 3200000 in
theorem walk_LetterBack (W : World) (v0 v1 : Value) (o0 : Opn W 26 v0) (o1 : Opn W 22 v1) :
    Calls Try.prog 4 #[v0, v1] W fun e w' => e = .returned (.bool true) ∧ Below W.heap.size W w' := by
  obtain ⟨c0, f0, t0, s0, A0, n0, g0, b0, rfl, hq0, hs0, hn0⟩ := o0.letter
  obtain ⟨A1, n1, g1, b1, rfl, hs1, hm1⟩ := o1.bytes
  clear o0 o1
  have hcap1 := hs1.cap
  unfold maxLen at hm1
  by_cases hl : 300 < n0 ∨ (¬ 300 < n0 ∧ 300 < n1)
  · rcases hl with h1 | ⟨h1, h2⟩
    all_goals
      go_enter Try.func4, Try.ntmps4
      go_wp2_with (go_at_call 8; refine (live10_any _).mono ?_; rintro e w1 ⟨rfl, hb1⟩; simp only [World.size_alloc] at hb1; obtain ⟨R0, hbw⟩ := box1 hb1; have k00 := R0.cell 0; have k01 := R0.cell 1; have k02 := R0.cell 2; have k03 := R0.cell 3; have k04 := R0.cell 4; simp at k00 k01 k02 k03 k04)
      go_ret
      exact ⟨rfl, hbw⟩
  have hl1 : ¬ 300 < n0 := by omega
  have hl2 : ¬ 300 < n1 := by omega
  clear hl
  have hlen := Lib.hid hs0.len
  have P0 := Lib.hid fun w (hb : Below W.heap.size W w) => letPut_any w _ c0 f0 t0 s0 n0 g0 A0 b0 (hs0.below hb) hb.size hq0
  have K0 := Lib.hid fun w => letCheck_any w c0 f0 t0 s0 n0 g0 A0
  have T1 := Lib.hid fun w (hb : Below W.heap.size W w) => letTake_any w _ _ _ _ _ (hs1.below hb) hb.size (by omega)
  have hsecond := take_putL b1
  have hfirst : (∃ e0, (e0 == 0) = false ∧ (e0 != 0) = true ∧ putL c0 f0 t0 s0 b0 = ([], e0) ∧ chkL c0 f0 t0 s0 n0 = e0) ∨ (∃ x0, putL c0 f0 t0 s0 b0 = (x0, 0) ∧ x0.length = 78 ∧ takeL x0 = ((c0, f0.toNat, t0.toNat, s0, b0), 0) ∧ (f0.toNat : Int) = f0 ∧ (t0.toNat : Int) = t0) := by
    by_cases hc : chkL c0 f0 t0 s0 b0.length = 0
    · obtain ⟨x, h1, h2, h3, h4, h5, _⟩ := putL_take hc hq0
      exact .inr ⟨x, h1, h2, h3, h4, h5⟩
    · exact .inl ⟨_, by simpa using hc, by simpa using hc, putL_bad hc, by rw [hlen.out]⟩
  have SELF : Hid (sameL c0 f0 t0 s0 b0 c0 f0 t0 s0 b0 = true) := Lib.hid (by unfold sameL; exact decide_eq_true ⟨rfl, rfl, rfl, rfl, rfl⟩)
  have ZZ : Hid (sameL false 0 0 0 [] false 0 0 0 [] = true) := Lib.hid (by decide)
  have HS0 := Lib.hid hs0
  have HS1 := Lib.hid hs1
  clear hs0 hs1
  rcases hfirst with ⟨e0, hz0, hz1, p0, q0⟩ | ⟨x0, p0, hx0, t0', hf, ht⟩
  · rw [p0] at P0
    rw [q0] at K0
    clear p0 q0
    have hz2 : (e0 != e0) = false := by simp
    rcases hsecond with h2 | ⟨cv, ff, tt, ss, tx, h2, hss, htx, hp⟩
    · rw [h2] at T1
      clear h2
      go_enter Try.func4, Try.ntmps4
      go_wp2_with (go_at_call 8; refine (live10_any _).mono ?_; rintro e w1 ⟨rfl, hb1⟩; simp only [World.size_alloc] at hb1; obtain ⟨R0, hbw⟩ := box1 hb1; have k00 := R0.cell 0; have k01 := R0.cell 1; have k02 := R0.cell 2; have k03 := R0.cell 3; have k04 := R0.cell 4; simp at k00 k01 k02 k03 k04)
      clear R0 hb1
      refine (P0.out _ hbw).mono ?_
      intro x w3 ht
      obtain ⟨A3, g3, rfl, ho3, hb3⟩ := ht.pair
      clear ht
      replace k00 := cell_next hb3 k00
      replace k01 := cell_next hb3 k01
      replace k02 := cell_next hb3 k02
      replace k03 := cell_next hb3 k03
      replace k04 := cell_next hb3 k04
      replace hbw := after_next hbw hb3
      go_wp2_with (go_at_call 15; refine (K0.out _).mono ?_; rintro x w4 ⟨rfl, hb4⟩; replace hbw := after_next hbw hb4)
      refine (T1.out _ hbw).mono ?_
      intro x w7 ht
      obtain ⟨A7, g7, rfl, ho7, hb7⟩ := ht.badE
      clear ht
      replace hbw := after_next hbw hb7
      go_wp2_with fail
      have hbw9 := after_lay hbw (.cells #[.bool false, .int .i64 0, .int .i64 0, .int .u64 (0 : Int), .slice A7 0 g7] 26)
      refine (refLetSame_any _ _ 0 false false 0 0 0 0 0 0 0 _ 0 0 _ none [] [] (ho7.sl.lay (.cells #[.bool false, .int .i64 0, .int .i64 0, .int .u64 (0 : Int), .slice A7 0 g7] 26)) (SlB.none_ _ _ _ _) (Nat.le_refl _) (Nat.zero_le _)).mono ?_
      rw [ZZ.out]
      rintro x w8 ⟨rfl, hb8⟩
      go_wp2_with fail
      go_ret
      exact ⟨by simp, after_next hbw9 hb8⟩
    · rw [h2] at T1
      have HP := Lib.hid hp
      clear h2 hp
      go_enter Try.func4, Try.ntmps4
      go_wp2_with (go_at_call 8; refine (live10_any _).mono ?_; rintro e w1 ⟨rfl, hb1⟩; simp only [World.size_alloc] at hb1; obtain ⟨R0, hbw⟩ := box1 hb1; have k00 := R0.cell 0; have k01 := R0.cell 1; have k02 := R0.cell 2; have k03 := R0.cell 3; have k04 := R0.cell 4; simp at k00 k01 k02 k03 k04)
      clear R0 hb1
      refine (P0.out _ hbw).mono ?_
      intro x w3 ht
      obtain ⟨A3, g3, rfl, ho3, hb3⟩ := ht.pair
      clear ht
      replace k00 := cell_next hb3 k00
      replace k01 := cell_next hb3 k01
      replace k02 := cell_next hb3 k02
      replace k03 := cell_next hb3 k03
      replace k04 := cell_next hb3 k04
      replace hbw := after_next hbw hb3
      go_wp2_with (go_at_call 15; refine (K0.out _).mono ?_; rintro x w4 ⟨rfl, hb4⟩; replace hbw := after_next hbw hb4)
      refine (T1.out _ hbw).mono ?_
      rintro x w7 ⟨A7, g7, rfl, ho7, hb7⟩
      replace ho7 : OwnB w7 _ A7 tx.length g7 tx := ho7
      replace hbw := after_next hbw hb7
      go_wp2_with fail
      have s7 := ho7.sl.lay (.cells #[.bool cv, .int .i64 (ff : Int), .int .i64 (tt : Int), .int .u64 (ss : Int), .slice A7 tx.length g7] 26)
      replace hbw := after_lay hbw (.cells #[.bool cv, .int .i64 (ff : Int), .int .i64 (tt : Int), .int .u64 (ss : Int), .slice A7 tx.length g7] 26)
      refine (letPut_any _ _ _ _ _ _ _ _ _ _ s7 (Nat.le_refl _) hss).mono ?_
      rw [HP.out]
      intro x w8 ht
      obtain ⟨A8, g8, rfl, ho8, hb8⟩ := ht.pair
      clear ht
      replace hbw := after_next hbw hb8
      go_wp2_with fail
      refine (Same_any _ _ _ _ _ _ _ _ _ _ _ ho8.sl (HS1.out.below hbw)).mono ?_
      rw [decide_eq_true rfl]
      rintro e w9 ⟨rfl, rfl⟩
      go_wp2_with fail
      go_ret
      exact ⟨by simp, hbw⟩
  · rw [p0] at P0
    have hfh := Lib.hid hf
    have hth := Lib.hid ht
    have TK := Lib.hid t0'
    have HX := Lib.hid hx0
    clear p0 t0' hf ht hx0
    rcases hsecond with h2 | ⟨cv, ff, tt, ss, tx, h2, hss, htx, hp⟩
    · rw [h2] at T1
      clear h2
      go_enter Try.func4, Try.ntmps4
      go_wp2_with (go_at_call 8; refine (live10_any _).mono ?_; rintro e w1 ⟨rfl, hb1⟩; simp only [World.size_alloc] at hb1; obtain ⟨R0, hbw⟩ := box1 hb1; have k00 := R0.cell 0; have k01 := R0.cell 1; have k02 := R0.cell 2; have k03 := R0.cell 3; have k04 := R0.cell 4; simp at k00 k01 k02 k03 k04)
      clear R0 hb1
      refine (P0.out _ hbw).mono ?_
      rintro x w3 ⟨A3, g3, rfl, ho3, hb3⟩
      replace ho3 : OwnB w3 _ A3 x0.length g3 x0 := ho3
      rw [HX.out] at ho3
      replace k00 := cell_next hb3 k00
      replace k01 := cell_next hb3 k01
      replace k02 := cell_next hb3 k02
      replace k03 := cell_next hb3 k03
      replace k04 := cell_next hb3 k04
      replace hbw := after_next hbw hb3
      have HX' := HX.out
      go_wp2_with fail
      try rw [HX']
      refine (letTake_any _ _ _ _ _ _ ho3.sl (Nat.le_refl _) (by omega)).mono ?_
      rw [TK.out]
      rintro x w4 ⟨A4, g4, rfl, ho4, hb4⟩
      replace ho4 : OwnB w4 _ A4 b0.length g4 b0 := ho4
      replace k00 := cell_next hb4 k00
      replace k01 := cell_next hb4 k01
      replace k02 := cell_next hb4 k02
      replace k03 := cell_next hb4 k03
      replace k04 := cell_next hb4 k04
      replace hbw := after_next hbw hb4
      simp only [hfh.out, hth.out]
      have s4 := ho4.sl.lay (.cells #[.bool c0, .int .i64 f0, .int .i64 t0, .int .u64 (s0 : Int), .slice A4 b0.length g4] 26)
      replace k00 := cell_lay (o := (.cells #[.bool c0, .int .i64 f0, .int .i64 t0, .int .u64 (s0 : Int), .slice A4 b0.length g4] 26)) k00
      replace k01 := cell_lay (o := (.cells #[.bool c0, .int .i64 f0, .int .i64 t0, .int .u64 (s0 : Int), .slice A4 b0.length g4] 26)) k01
      replace k02 := cell_lay (o := (.cells #[.bool c0, .int .i64 f0, .int .i64 t0, .int .u64 (s0 : Int), .slice A4 b0.length g4] 26)) k02
      replace k03 := cell_lay (o := (.cells #[.bool c0, .int .i64 f0, .int .i64 t0, .int .u64 (s0 : Int), .slice A4 b0.length g4] 26)) k03
      replace k04 := cell_lay (o := (.cells #[.bool c0, .int .i64 f0, .int .i64 t0, .int .u64 (s0 : Int), .slice A4 b0.length g4] 26)) k04
      replace hbw := after_lay hbw (.cells #[.bool c0, .int .i64 f0, .int .i64 t0, .int .u64 (s0 : Int), .slice A4 b0.length g4] 26)
      go_wp2_with fail
      refine (letSame_any _ _ _ _ _ _ _ _ _ _ _ _ _ _ _ _ _ _ _ (HS0.out.below hbw) s4 hbw.size (Nat.le_refl _)).mono ?_
      rw [SELF.out]
      rintro x w5 ⟨rfl, hb5⟩
      replace k00 := cell_next hb5 k00
      replace k01 := cell_next hb5 k01
      replace k02 := cell_next hb5 k02
      replace k03 := cell_next hb5 k03
      replace k04 := cell_next hb5 k04
      replace hbw := after_next hbw hb5
      go_wp2_with fail
      refine (T1.out _ hbw).mono ?_
      intro x w7 ht
      obtain ⟨A7, g7, rfl, ho7, hb7⟩ := ht.badE
      clear ht
      replace hbw := after_next hbw hb7
      go_wp2_with fail
      have hbw9 := after_lay hbw (.cells #[.bool false, .int .i64 0, .int .i64 0, .int .u64 (0 : Int), .slice A7 0 g7] 26)
      refine (refLetSame_any _ _ 0 false false 0 0 0 0 0 0 0 _ 0 0 _ none [] [] (ho7.sl.lay (.cells #[.bool false, .int .i64 0, .int .i64 0, .int .u64 (0 : Int), .slice A7 0 g7] 26)) (SlB.none_ _ _ _ _) (Nat.le_refl _) (Nat.zero_le _)).mono ?_
      rw [ZZ.out]
      rintro x w8 ⟨rfl, hb8⟩
      go_wp2_with fail
      go_ret
      exact ⟨by simp, after_next hbw9 hb8⟩
    · rw [h2] at T1
      have HP := Lib.hid hp
      clear h2 hp
      go_enter Try.func4, Try.ntmps4
      go_wp2_with (go_at_call 8; refine (live10_any _).mono ?_; rintro e w1 ⟨rfl, hb1⟩; simp only [World.size_alloc] at hb1; obtain ⟨R0, hbw⟩ := box1 hb1; have k00 := R0.cell 0; have k01 := R0.cell 1; have k02 := R0.cell 2; have k03 := R0.cell 3; have k04 := R0.cell 4; simp at k00 k01 k02 k03 k04)
      clear R0 hb1
      refine (P0.out _ hbw).mono ?_
      rintro x w3 ⟨A3, g3, rfl, ho3, hb3⟩
      replace ho3 : OwnB w3 _ A3 x0.length g3 x0 := ho3
      rw [HX.out] at ho3
      replace k00 := cell_next hb3 k00
      replace k01 := cell_next hb3 k01
      replace k02 := cell_next hb3 k02
      replace k03 := cell_next hb3 k03
      replace k04 := cell_next hb3 k04
      replace hbw := after_next hbw hb3
      have HX' := HX.out
      go_wp2_with fail
      try rw [HX']
      refine (letTake_any _ _ _ _ _ _ ho3.sl (Nat.le_refl _) (by omega)).mono ?_
      rw [TK.out]
      rintro x w4 ⟨A4, g4, rfl, ho4, hb4⟩
      replace ho4 : OwnB w4 _ A4 b0.length g4 b0 := ho4
      replace k00 := cell_next hb4 k00
      replace k01 := cell_next hb4 k01
      replace k02 := cell_next hb4 k02
      replace k03 := cell_next hb4 k03
      replace k04 := cell_next hb4 k04
      replace hbw := after_next hbw hb4
      simp only [hfh.out, hth.out]
      have s4 := ho4.sl.lay (.cells #[.bool c0, .int .i64 f0, .int .i64 t0, .int .u64 (s0 : Int), .slice A4 b0.length g4] 26)
      replace k00 := cell_lay (o := (.cells #[.bool c0, .int .i64 f0, .int .i64 t0, .int .u64 (s0 : Int), .slice A4 b0.length g4] 26)) k00
      replace k01 := cell_lay (o := (.cells #[.bool c0, .int .i64 f0, .int .i64 t0, .int .u64 (s0 : Int), .slice A4 b0.length g4] 26)) k01
      replace k02 := cell_lay (o := (.cells #[.bool c0, .int .i64 f0, .int .i64 t0, .int .u64 (s0 : Int), .slice A4 b0.length g4] 26)) k02
      replace k03 := cell_lay (o := (.cells #[.bool c0, .int .i64 f0, .int .i64 t0, .int .u64 (s0 : Int), .slice A4 b0.length g4] 26)) k03
      replace k04 := cell_lay (o := (.cells #[.bool c0, .int .i64 f0, .int .i64 t0, .int .u64 (s0 : Int), .slice A4 b0.length g4] 26)) k04
      replace hbw := after_lay hbw (.cells #[.bool c0, .int .i64 f0, .int .i64 t0, .int .u64 (s0 : Int), .slice A4 b0.length g4] 26)
      go_wp2_with fail
      refine (letSame_any _ _ _ _ _ _ _ _ _ _ _ _ _ _ _ _ _ _ _ (HS0.out.below hbw) s4 hbw.size (Nat.le_refl _)).mono ?_
      rw [SELF.out]
      rintro x w5 ⟨rfl, hb5⟩
      replace k00 := cell_next hb5 k00
      replace k01 := cell_next hb5 k01
      replace k02 := cell_next hb5 k02
      replace k03 := cell_next hb5 k03
      replace k04 := cell_next hb5 k04
      replace hbw := after_next hbw hb5
      go_wp2_with fail
      refine (T1.out _ hbw).mono ?_
      rintro x w7 ⟨A7, g7, rfl, ho7, hb7⟩
      replace ho7 : OwnB w7 _ A7 tx.length g7 tx := ho7
      replace hbw := after_next hbw hb7
      go_wp2_with fail
      have s7 := ho7.sl.lay (.cells #[.bool cv, .int .i64 (ff : Int), .int .i64 (tt : Int), .int .u64 (ss : Int), .slice A7 tx.length g7] 26)
      replace hbw := after_lay hbw (.cells #[.bool cv, .int .i64 (ff : Int), .int .i64 (tt : Int), .int .u64 (ss : Int), .slice A7 tx.length g7] 26)
      refine (letPut_any _ _ _ _ _ _ _ _ _ _ s7 (Nat.le_refl _) hss).mono ?_
      rw [HP.out]
      intro x w8 ht
      obtain ⟨A8, g8, rfl, ho8, hb8⟩ := ht.pair
      clear ht
      replace hbw := after_next hbw hb8
      go_wp2_with fail
      refine (Same_any _ _ _ _ _ _ _ _ _ _ _ ho8.sl (HS1.out.below hbw)).mono ?_
      rw [decide_eq_true rfl]
      rintro e w9 ⟨rfl, rfl⟩
      go_wp2_with fail
      go_ret
      exact ⟨by simp, hbw⟩
end Go.Proofs.Ytbmdmioikdbigaa
