/- The walk of the law LetterCuts. -/
import Derived.Test.YtbmdmioikdbigaaOpen
import Derived.Test.YtbmdmioikdbigaaLive10
import Derived.Test.YtbmdmioikdbigaaLetQ
namespace Go.Proofs.Ytbmdmioikdbigaa
set_option linter.unusedSimpArgs false
set_option linter.unusedVariables false
open Go.RowKit

set_option maxHeartbeats 3200000 in
theorem walk_LetterCuts (W : World) (v0 v1 v2 : Value) (o0 : Opn W 26 v0) (o1 : Opn W 22 v1) (o2 : Opn W 3 v2) :
    Calls Try.prog 7 #[v0, v1, v2] W fun e w' => e = .returned (.bool true) ∧ Below W.heap.size W w' := by
  obtain ⟨c0, f0, t0, s0, A0, n0, g0, b0, rfl, hq0, hs0, hn0⟩ := o0.letter
  obtain ⟨A1, n1, g1, b1, rfl, hs1, hm1⟩ := o1.bytes
  obtain ⟨at_, rfl, hat0, hat1⟩ := o2.i64 Try.underlying3
  clear o0 o1 o2
  have hcap1 := hs1.cap
  unfold maxLen at hm1
  by_cases hl : 300 < n0 ∨ (¬ 300 < n0 ∧ 300 < n1)
  · rcases hl with h1 | ⟨h1, h2⟩
    all_goals
      go_enter Try.func7, Try.ntmps7
      go_wp2_with (go_at_call 8; refine (live10_any _).mono ?_; rintro e w1 ⟨rfl, hb1⟩; simp only [World.size_alloc] at hb1; obtain ⟨R0, hbw⟩ := box1 hb1; have k00 := R0.cell 0; have k01 := R0.cell 1; have k02 := R0.cell 2; have k03 := R0.cell 3; have k04 := R0.cell 4; simp at k00 k01 k02 k03 k04)
      go_ret
      exact ⟨rfl, hbw⟩
  have hl1 : ¬ 300 < n0 := by omega
  have hl2 : ¬ 300 < n1 := by omega
  clear hl
  have hlen := Lib.hid hs0.len
  have P0 := Lib.hid fun w (hb : Below W.heap.size W w) => letPut_any w _ c0 f0 t0 s0 n0 g0 A0 b0 (hs0.below hb) hb.size hq0
  have T1 : n1 ≠ 78 → Hid (∀ w, Below W.heap.size W w → Calls Try.prog 9 #[.slice A1 n1 g1] w (TellsL w badL)) := fun h => Lib.hid fun w hb => by
    have := letTake_any w _ _ _ _ _ (hs1.below hb) hb.size (by omega)
    rw [takeL_len (by rw [hs1.len]; exact h)] at this
    exact this
  have hfirst : (∃ e0, (e0 != 0) = true ∧ putL c0 f0 t0 s0 b0 = ([], e0)) ∨ (∃ x0, putL c0 f0 t0 s0 b0 = (x0, 0) ∧ x0.length = 78 ∧ (c0 = true ∨ c0 = false ∧ n0 ≤ 64 ∧ ∃ f t : Nat, x0 = bodyL f t s0 b0)) := by
    by_cases hc : chkL c0 f0 t0 s0 b0.length = 0
    · obtain ⟨x, h1, h2, _, h4, h5, h6⟩ := putL_take hc hq0
      refine .inr ⟨x, h1, h2, ?_⟩
      rcases c0 with _ | _
      · refine .inr ⟨rfl, by rw [← hlen.out]; exact h6, f0.toNat, t0.toNat, ?_⟩
        rw [← h4, ← h5, putL_ok (by rw [h4, h5]; exact hc)] at h1
        exact (congrArg Prod.fst h1).symm
      · exact .inl rfl
    · exact .inl ⟨_, by simpa using hc, putL_bad hc⟩
  have HS0 := Lib.hid hs0
  clear hs0 hs1
  by_cases h78 : n1 = 78
  · have hne : ((n1 : Int) != 78) = false := by rw [h78]; rfl
    clear T1
    rcases hfirst with ⟨e0, hz, p0⟩ | ⟨x0, p0, hx0, hor⟩
    · rw [p0] at P0
      clear p0
      go_enter Try.func7, Try.ntmps7
      go_wp2_with (go_at_call 8; refine (live10_any _).mono ?_; rintro e w1 ⟨rfl, hb1⟩; simp only [World.size_alloc] at hb1; obtain ⟨R0, hbw⟩ := box1 hb1; have k00 := R0.cell 0; have k01 := R0.cell 1; have k02 := R0.cell 2; have k03 := R0.cell 3; have k04 := R0.cell 4; simp at k00 k01 k02 k03 k04)
      clear R0 hb1
      have hzW := hbw.size
      refine (P0.out _ hbw).mono ?_
      intro x w3 ht
      obtain ⟨A3, g3, rfl, ho3, hb3⟩ := ht.pair
      clear ht
      replace k00 := cell_next hb3 k00
      replace k01 := cell_next hb3 k01
      replace k02 := cell_next hb3 k02
      replace k03 := cell_next hb3 k03
      replace k04 := cell_next hb3 k04
      replace hbw := after_next hbw hb3
      go_wp2_with fail
      go_ret
      exact ⟨rfl, hbw⟩
    · rw [p0] at P0
      clear p0
      have HX := Lib.hid hx0
      clear hx0
      rcases hor with rfl | ⟨rfl, hn64, ff, tt, hxe⟩
      · go_enter Try.func7, Try.ntmps7
        go_wp2_with (go_at_call 8; refine (live10_any _).mono ?_; rintro e w1 ⟨rfl, hb1⟩; simp only [World.size_alloc] at hb1; obtain ⟨R0, hbw⟩ := box1 hb1; have k00 := R0.cell 0; have k01 := R0.cell 1; have k02 := R0.cell 2; have k03 := R0.cell 3; have k04 := R0.cell 4; simp at k00 k01 k02 k03 k04)
        clear R0 hb1
        have hzW := hbw.size
        refine (P0.out _ hbw).mono ?_
        rintro x w3 ⟨A3, g3, rfl, ho3, hb3⟩
        replace ho3 : OwnB w3 _ A3 x0.length g3 x0 := ho3
        have HX' := HX.out
        rw [HX'] at ho3
        replace k00 := cell_next hb3 k00
        replace k01 := cell_next hb3 k01
        replace k02 := cell_next hb3 k02
        replace k03 := cell_next hb3 k03
        replace k04 := cell_next hb3 k04
        replace hbw := after_next hbw hb3
        go_wp2_with fail
        go_ret
        exact ⟨rfl, hbw⟩
      · have HXE := Lib.hid hxe
        clear hxe
        by_cases ha : at_ < 14 + n0 ∨ (¬ at_ < 14 + n0 ∧ 78 ≤ at_)
        · rcases ha with ha | ⟨ha, ha2⟩
          all_goals
            have ha3 : ¬ 0 > 1 := by decide
            go_enter Try.func7, Try.ntmps7
            go_wp2_with (go_at_call 8; refine (live10_any _).mono ?_; rintro e w1 ⟨rfl, hb1⟩; simp only [World.size_alloc] at hb1; obtain ⟨R0, hbw⟩ := box1 hb1; have k00 := R0.cell 0; have k01 := R0.cell 1; have k02 := R0.cell 2; have k03 := R0.cell 3; have k04 := R0.cell 4; simp at k00 k01 k02 k03 k04)
            clear R0 hb1
            have hzW := hbw.size
            refine (P0.out _ hbw).mono ?_
            rintro x w3 ⟨A3, g3, rfl, ho3, hb3⟩
            replace ho3 : OwnB w3 _ A3 x0.length g3 x0 := ho3
            have HX' := HX.out
            rw [HX'] at ho3
            replace k00 := cell_next hb3 k00
            replace k01 := cell_next hb3 k01
            replace k02 := cell_next hb3 k02
            replace k03 := cell_next hb3 k03
            replace k04 := cell_next hb3 k04
            replace hbw := after_next hbw hb3
            go_wp2_with fail
            go_ret
            exact ⟨rfl, hbw⟩
        · obtain ⟨k, rfl⟩ := Int.eq_ofNat_of_zero_le (show 0 ≤ at_ by omega)
          have hk1 : 14 + n0 ≤ k := by omega
          have hk2 : k < 78 := by omega
          have ha3 : ¬ (k : Int) < 14 + n0 := by omega
          have ha4 : ¬ (78 : Int) ≤ k := by omega
          have TC : Hid (takeL (x0.set k 7) = badL) := Lib.hid (by rw [HXE.out]; exact takeL_cut _ _ _ _ _ (by rw [hlen.out]; exact hn64) (by rw [hlen.out]; exact hk1) hk2)
          clear ha
          go_enter Try.func7, Try.ntmps7
          go_wp2_with (go_at_call 8; refine (live10_any _).mono ?_; rintro e w1 ⟨rfl, hb1⟩; simp only [World.size_alloc] at hb1; obtain ⟨R0, hbw⟩ := box1 hb1; have k00 := R0.cell 0; have k01 := R0.cell 1; have k02 := R0.cell 2; have k03 := R0.cell 3; have k04 := R0.cell 4; simp at k00 k01 k02 k03 k04)
          clear R0 hb1
          have hzW := hbw.size
          refine (P0.out _ hbw).mono ?_
          rintro x w3 ⟨A3, g3, rfl, ho3, hb3⟩
          replace ho3 : OwnB w3 _ A3 x0.length g3 x0 := ho3
          have HX' := HX.out
          rw [HX'] at ho3
          replace k00 := cell_next hb3 k00
          replace k01 := cell_next hb3 k01
          replace k02 := cell_next hb3 k02
          replace k03 := cell_next hb3 k03
          replace k04 := cell_next hb3 k04
          replace hbw := after_next hbw hb3
          obtain ⟨gx, rfl, hgx, _⟩ := ho3.head (by decide)
          obtain ⟨y, hyc, _, _⟩ := ho3.cell hk2
          have hyf := ho3.free k
          have ho4 := ho3.store k (u := .int .u8 7) (x := 7) rfl
          have hb4 := hbw.setCell (p := ⟨gx, k, none⟩) (Nat.le_trans (by omega) hgx) (.int .u8 7)
          go_wp2_with fail
          try rw [HX']
          refine (letTake_any _ _ _ _ _ _ ho4.sl (Nat.le_refl _) (by omega)).mono ?_
          rw [TC.out]
          rintro x w5 ⟨A5, g5, rfl, ho5, hb5⟩
          replace hb4 := after_next hb4 hb5
          go_wp2_with fail
          go_ret
          exact ⟨rfl, after_lay hb4 _⟩
  · have hne : ((n1 : Int) != 78) = true := bne_iff_ne.2 (by omega)
    have T1' := T1 h78
    clear T1
    rcases hfirst with ⟨e0, hz, p0⟩ | ⟨x0, p0, hx0, hor⟩
    · rw [p0] at P0
      clear p0
      go_enter Try.func7, Try.ntmps7
      go_wp2_with (go_at_call 8; refine (live10_any _).mono ?_; rintro e w1 ⟨rfl, hb1⟩; simp only [World.size_alloc] at hb1; obtain ⟨R0, hbw⟩ := box1 hb1; have k00 := R0.cell 0; have k01 := R0.cell 1; have k02 := R0.cell 2; have k03 := R0.cell 3; have k04 := R0.cell 4; simp at k00 k01 k02 k03 k04)
      clear R0 hb1
      refine (T1'.out _ hbw).mono ?_
      intro x w2 ht
      obtain ⟨A2, g2, rfl, ho2, hb2⟩ := ht.badE
      clear ht
      replace k00 := cell_next hb2 k00
      replace k01 := cell_next hb2 k01
      replace k02 := cell_next hb2 k02
      replace k03 := cell_next hb2 k03
      replace k04 := cell_next hb2 k04
      replace hbw := after_next hbw hb2
      replace k00 := cell_lay (o := (.cells #[.bool false, .int .i64 0, .int .i64 0, .int .u64 (0 : Int), .slice A2 0 g2] 26)) k00
      replace k01 := cell_lay (o := (.cells #[.bool false, .int .i64 0, .int .i64 0, .int .u64 (0 : Int), .slice A2 0 g2] 26)) k01
      replace k02 := cell_lay (o := (.cells #[.bool false, .int .i64 0, .int .i64 0, .int .u64 (0 : Int), .slice A2 0 g2] 26)) k02
      replace k03 := cell_lay (o := (.cells #[.bool false, .int .i64 0, .int .i64 0, .int .u64 (0 : Int), .slice A2 0 g2] 26)) k03
      replace k04 := cell_lay (o := (.cells #[.bool false, .int .i64 0, .int .i64 0, .int .u64 (0 : Int), .slice A2 0 g2] 26)) k04
      replace hbw := after_lay hbw (.cells #[.bool false, .int .i64 0, .int .i64 0, .int .u64 (0 : Int), .slice A2 0 g2] 26)
      go_wp2_with fail
      have hzW := hbw.size
      refine (P0.out _ hbw).mono ?_
      intro x w3 ht
      obtain ⟨A3, g3, rfl, ho3, hb3⟩ := ht.pair
      clear ht
      replace k00 := cell_next hb3 k00
      replace k01 := cell_next hb3 k01
      replace k02 := cell_next hb3 k02
      replace k03 := cell_next hb3 k03
      replace k04 := cell_next hb3 k04
      replace hbw := after_next hbw hb3
      go_wp2_with fail
      go_ret
      exact ⟨rfl, hbw⟩
    · rw [p0] at P0
      clear p0
      have HX := Lib.hid hx0
      clear hx0
      rcases hor with rfl | ⟨rfl, hn64, ff, tt, hxe⟩
      · go_enter Try.func7, Try.ntmps7
        go_wp2_with (go_at_call 8; refine (live10_any _).mono ?_; rintro e w1 ⟨rfl, hb1⟩; simp only [World.size_alloc] at hb1; obtain ⟨R0, hbw⟩ := box1 hb1; have k00 := R0.cell 0; have k01 := R0.cell 1; have k02 := R0.cell 2; have k03 := R0.cell 3; have k04 := R0.cell 4; simp at k00 k01 k02 k03 k04)
        clear R0 hb1
        refine (T1'.out _ hbw).mono ?_
        intro x w2 ht
        obtain ⟨A2, g2, rfl, ho2, hb2⟩ := ht.badE
        clear ht
        replace k00 := cell_next hb2 k00
        replace k01 := cell_next hb2 k01
        replace k02 := cell_next hb2 k02
        replace k03 := cell_next hb2 k03
        replace k04 := cell_next hb2 k04
        replace hbw := after_next hbw hb2
        replace k00 := cell_lay (o := (.cells #[.bool false, .int .i64 0, .int .i64 0, .int .u64 (0 : Int), .slice A2 0 g2] 26)) k00
        replace k01 := cell_lay (o := (.cells #[.bool false, .int .i64 0, .int .i64 0, .int .u64 (0 : Int), .slice A2 0 g2] 26)) k01
        replace k02 := cell_lay (o := (.cells #[.bool false, .int .i64 0, .int .i64 0, .int .u64 (0 : Int), .slice A2 0 g2] 26)) k02
        replace k03 := cell_lay (o := (.cells #[.bool false, .int .i64 0, .int .i64 0, .int .u64 (0 : Int), .slice A2 0 g2] 26)) k03
        replace k04 := cell_lay (o := (.cells #[.bool false, .int .i64 0, .int .i64 0, .int .u64 (0 : Int), .slice A2 0 g2] 26)) k04
        replace hbw := after_lay hbw (.cells #[.bool false, .int .i64 0, .int .i64 0, .int .u64 (0 : Int), .slice A2 0 g2] 26)
        go_wp2_with fail
        have hzW := hbw.size
        refine (P0.out _ hbw).mono ?_
        rintro x w3 ⟨A3, g3, rfl, ho3, hb3⟩
        replace ho3 : OwnB w3 _ A3 x0.length g3 x0 := ho3
        have HX' := HX.out
        rw [HX'] at ho3
        replace k00 := cell_next hb3 k00
        replace k01 := cell_next hb3 k01
        replace k02 := cell_next hb3 k02
        replace k03 := cell_next hb3 k03
        replace k04 := cell_next hb3 k04
        replace hbw := after_next hbw hb3
        go_wp2_with fail
        go_ret
        exact ⟨rfl, hbw⟩
      · have HXE := Lib.hid hxe
        clear hxe
        by_cases ha : at_ < 14 + n0 ∨ (¬ at_ < 14 + n0 ∧ 78 ≤ at_)
        · rcases ha with ha | ⟨ha, ha2⟩
          all_goals
            have ha3 : ¬ 0 > 1 := by decide
            go_enter Try.func7, Try.ntmps7
            go_wp2_with (go_at_call 8; refine (live10_any _).mono ?_; rintro e w1 ⟨rfl, hb1⟩; simp only [World.size_alloc] at hb1; obtain ⟨R0, hbw⟩ := box1 hb1; have k00 := R0.cell 0; have k01 := R0.cell 1; have k02 := R0.cell 2; have k03 := R0.cell 3; have k04 := R0.cell 4; simp at k00 k01 k02 k03 k04)
            clear R0 hb1
            refine (T1'.out _ hbw).mono ?_
            intro x w2 ht
            obtain ⟨A2, g2, rfl, ho2, hb2⟩ := ht.badE
            clear ht
            replace k00 := cell_next hb2 k00
            replace k01 := cell_next hb2 k01
            replace k02 := cell_next hb2 k02
            replace k03 := cell_next hb2 k03
            replace k04 := cell_next hb2 k04
            replace hbw := after_next hbw hb2
            replace k00 := cell_lay (o := (.cells #[.bool false, .int .i64 0, .int .i64 0, .int .u64 (0 : Int), .slice A2 0 g2] 26)) k00
            replace k01 := cell_lay (o := (.cells #[.bool false, .int .i64 0, .int .i64 0, .int .u64 (0 : Int), .slice A2 0 g2] 26)) k01
            replace k02 := cell_lay (o := (.cells #[.bool false, .int .i64 0, .int .i64 0, .int .u64 (0 : Int), .slice A2 0 g2] 26)) k02
            replace k03 := cell_lay (o := (.cells #[.bool false, .int .i64 0, .int .i64 0, .int .u64 (0 : Int), .slice A2 0 g2] 26)) k03
            replace k04 := cell_lay (o := (.cells #[.bool false, .int .i64 0, .int .i64 0, .int .u64 (0 : Int), .slice A2 0 g2] 26)) k04
            replace hbw := after_lay hbw (.cells #[.bool false, .int .i64 0, .int .i64 0, .int .u64 (0 : Int), .slice A2 0 g2] 26)
            go_wp2_with fail
            have hzW := hbw.size
            refine (P0.out _ hbw).mono ?_
            rintro x w3 ⟨A3, g3, rfl, ho3, hb3⟩
            replace ho3 : OwnB w3 _ A3 x0.length g3 x0 := ho3
            have HX' := HX.out
            rw [HX'] at ho3
            replace k00 := cell_next hb3 k00
            replace k01 := cell_next hb3 k01
            replace k02 := cell_next hb3 k02
            replace k03 := cell_next hb3 k03
            replace k04 := cell_next hb3 k04
            replace hbw := after_next hbw hb3
            go_wp2_with fail
            go_ret
            exact ⟨rfl, hbw⟩
        · obtain ⟨k, rfl⟩ := Int.eq_ofNat_of_zero_le (show 0 ≤ at_ by omega)
          have hk1 : 14 + n0 ≤ k := by omega
          have hk2 : k < 78 := by omega
          have ha3 : ¬ (k : Int) < 14 + n0 := by omega
          have ha4 : ¬ (78 : Int) ≤ k := by omega
          have TC : Hid (takeL (x0.set k 7) = badL) := Lib.hid (by rw [HXE.out]; exact takeL_cut _ _ _ _ _ (by rw [hlen.out]; exact hn64) (by rw [hlen.out]; exact hk1) hk2)
          clear ha
          go_enter Try.func7, Try.ntmps7
          go_wp2_with (go_at_call 8; refine (live10_any _).mono ?_; rintro e w1 ⟨rfl, hb1⟩; simp only [World.size_alloc] at hb1; obtain ⟨R0, hbw⟩ := box1 hb1; have k00 := R0.cell 0; have k01 := R0.cell 1; have k02 := R0.cell 2; have k03 := R0.cell 3; have k04 := R0.cell 4; simp at k00 k01 k02 k03 k04)
          clear R0 hb1
          refine (T1'.out _ hbw).mono ?_
          intro x w2 ht
          obtain ⟨A2, g2, rfl, ho2, hb2⟩ := ht.badE
          clear ht
          replace k00 := cell_next hb2 k00
          replace k01 := cell_next hb2 k01
          replace k02 := cell_next hb2 k02
          replace k03 := cell_next hb2 k03
          replace k04 := cell_next hb2 k04
          replace hbw := after_next hbw hb2
          replace k00 := cell_lay (o := (.cells #[.bool false, .int .i64 0, .int .i64 0, .int .u64 (0 : Int), .slice A2 0 g2] 26)) k00
          replace k01 := cell_lay (o := (.cells #[.bool false, .int .i64 0, .int .i64 0, .int .u64 (0 : Int), .slice A2 0 g2] 26)) k01
          replace k02 := cell_lay (o := (.cells #[.bool false, .int .i64 0, .int .i64 0, .int .u64 (0 : Int), .slice A2 0 g2] 26)) k02
          replace k03 := cell_lay (o := (.cells #[.bool false, .int .i64 0, .int .i64 0, .int .u64 (0 : Int), .slice A2 0 g2] 26)) k03
          replace k04 := cell_lay (o := (.cells #[.bool false, .int .i64 0, .int .i64 0, .int .u64 (0 : Int), .slice A2 0 g2] 26)) k04
          replace hbw := after_lay hbw (.cells #[.bool false, .int .i64 0, .int .i64 0, .int .u64 (0 : Int), .slice A2 0 g2] 26)
          go_wp2_with fail
          have hzW := hbw.size
          refine (P0.out _ hbw).mono ?_
          rintro x w3 ⟨A3, g3, rfl, ho3, hb3⟩
          replace ho3 : OwnB w3 _ A3 x0.length g3 x0 := ho3
          have HX' := HX.out
          rw [HX'] at ho3
          replace k00 := cell_next hb3 k00
          replace k01 := cell_next hb3 k01
          replace k02 := cell_next hb3 k02
          replace k03 := cell_next hb3 k03
          replace k04 := cell_next hb3 k04
          replace hbw := after_next hbw hb3
          obtain ⟨gx, rfl, hgx, _⟩ := ho3.head (by decide)
          obtain ⟨y, hyc, _, _⟩ := ho3.cell hk2
          have hyf := ho3.free k
          have ho4 := ho3.store k (u := .int .u8 7) (x := 7) rfl
          have hb4 := hbw.setCell (p := ⟨gx, k, none⟩) (Nat.le_trans (by omega) hgx) (.int .u8 7)
          go_wp2_with fail
          try rw [HX']
          refine (letTake_any _ _ _ _ _ _ ho4.sl (Nat.le_refl _) (by omega)).mono ?_
          rw [TC.out]
          rintro x w5 ⟨A5, g5, rfl, ho5, hb5⟩
          replace hb4 := after_next hb4 hb5
          go_wp2_with fail
          go_ret
          exact ⟨rfl, after_lay hb4 _⟩
end Go.Proofs.Ytbmdmioikdbigaa
