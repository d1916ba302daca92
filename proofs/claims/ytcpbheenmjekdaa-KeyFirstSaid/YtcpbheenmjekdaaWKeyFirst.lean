/- The walk of the law KeyFirst. -/
import Derived.Test.YtcpbheenmjekdaaLive07
import Derived.Test.YtcpbheenmjekdaaKeyF
import Derived.Test.YtcpbheenmjekdaaStampK
import Derived.Test.YtcpbheenmjekdaaStampS
import Derived.Test.YtcpbheenmjekdaaCfg
namespace Go.Proofs.Ytcpbheenmjekdaa
set_option linter.unusedSimpArgs false
set_option linter.unusedVariables false
open Go.RowKit

theorem okChain_first (m : Nat) (h1 : 1 ≤ m) (h8 : m ≤ 8) : okChain (chainL m) = true := by
  have : ∀ m : Nat, m < 9 → 1 ≤ m → okChain (chainL m) = true := by decide
  exact this m (by omega) h1

set_option maxHeartbeats 3200000 in
theorem walk_KeyFirst (W : World) (v0 : Value) (o0 : Opn W 25 v0) :
    Calls Try.prog 6 #[v0] W fun e w' => e = .returned (.bool true) ∧ Below W.heap.size W w' := by
  obtain ⟨A, n, g, s, c, rfl, hs, hm, hfit⟩ := o0.cfg
  clear o0 hs hm hfit
  have K1 := Lib.hid fun w => keyCheck_any w A n g c
  have F1 := Lib.hid fun w => keyFirst_any w A n g c
  rcases hok : okCfg n c with _ | _
  · have HF : Hid (firstC n c = (0, 0, [])) := Lib.hid (by unfold firstC; rw [hok]; rfl)
    have HC : Hid (chkC n c = 1) := Lib.hid (by unfold chkC; rw [hok]; rfl)
    rw [HC.out] at K1
    rw [HF.out] at F1
    clear hok HF HC
    have ZZ : Hid (sameS 0 0 [] 0 0 [] = true) := Lib.hid (by decide)
    go_enter Try.func6, Try.ntmps6
    go_wp2_with (go_at_call 7; refine (live07_any _).mono ?_; rintro e w1 ⟨rfl, hb1⟩; simp only [World.size_alloc] at hb1; obtain ⟨R0, hbw⟩ := box1 hb1; have k00 := R0.cell 0; have k01 := R0.cell 1; have k02 := R0.cell 2; have k03 := R0.cell 3; have k04 := R0.cell 4; have k05 := R0.cell 5; have k06 := R0.cell 6; have k07 := R0.cell 7; have k08 := R0.cell 8; have k09 := R0.cell 9; have k10 := R0.cell 10; simp at k00 k01 k02 k03 k04 k05 k06 k07 k08 k09 k10)
    clear R0 hb1
    with_reducible refine (F1.out _).mono ?_
    rintro e w4 ⟨A4, g4, rfl, s4, hb4⟩
    replace s4 : SlI w4 w4.heap.size A4 0 g4 [] := s4
    replace k00 := cell_next hb4 k00
    replace k01 := cell_next hb4 k01
    replace k02 := cell_next hb4 k02
    replace k03 := cell_next hb4 k03
    replace k04 := cell_next hb4 k04
    replace k05 := cell_next hb4 k05
    replace k06 := cell_next hb4 k06
    replace k07 := cell_next hb4 k07
    replace k08 := cell_next hb4 k08
    replace k09 := cell_next hb4 k09
    replace k10 := cell_next hb4 k10
    replace hbw := after_next hbw hb4
    have R1 := Row.new w4 32 #[.int .u64 0, .int .u64 0, .slice A4 0 g4]
    replace s4 := s4.lay (.cells #[.int .u64 0, .int .u64 0, .slice A4 0 g4] 32)
    replace k00 := cell_lay (o := (.cells #[.int .u64 0, .int .u64 0, .slice A4 0 g4] 32)) k00
    replace k01 := cell_lay (o := (.cells #[.int .u64 0, .int .u64 0, .slice A4 0 g4] 32)) k01
    replace k02 := cell_lay (o := (.cells #[.int .u64 0, .int .u64 0, .slice A4 0 g4] 32)) k02
    replace k03 := cell_lay (o := (.cells #[.int .u64 0, .int .u64 0, .slice A4 0 g4] 32)) k03
    replace k04 := cell_lay (o := (.cells #[.int .u64 0, .int .u64 0, .slice A4 0 g4] 32)) k04
    replace k05 := cell_lay (o := (.cells #[.int .u64 0, .int .u64 0, .slice A4 0 g4] 32)) k05
    replace k06 := cell_lay (o := (.cells #[.int .u64 0, .int .u64 0, .slice A4 0 g4] 32)) k06
    replace k07 := cell_lay (o := (.cells #[.int .u64 0, .int .u64 0, .slice A4 0 g4] 32)) k07
    replace k08 := cell_lay (o := (.cells #[.int .u64 0, .int .u64 0, .slice A4 0 g4] 32)) k08
    replace k09 := cell_lay (o := (.cells #[.int .u64 0, .int .u64 0, .slice A4 0 g4] 32)) k09
    replace k10 := cell_lay (o := (.cells #[.int .u64 0, .int .u64 0, .slice A4 0 g4] 32)) k10
    replace hbw := after_lay hbw (.cells #[.int .u64 0, .int .u64 0, .slice A4 0 g4] 32)
    go_wp2_with fail
    with_reducible refine (K1.out _).mono ?_
    rintro e w5 ⟨rfl, hb5⟩
    replace R1 := R1.below hb5 R1.lt
    replace s4 := s4.next hb5
    replace hbw := after_next hbw hb5
    have c0 := R1.cell 0
    have c1 := R1.cell 1
    have c2 := R1.cell 2
    simp at c0 c1 c2
    go_wp2_with fail
    refine (refStampSame_any _ _ 0 0 0 0 0 0 _ 0 0 _ none [] [] s4 (SlI.none_ _ _ _ _) (Nat.le_refl _) (Nat.zero_le _) (by decide)).mono ?_
    rw [ZZ.out]
    rintro e w6 ⟨rfl, hb6⟩
    go_wp2_with fail
    go_ret
    exact ⟨by simp, after_next hbw hb6⟩
  · have hsm := okCfg_small hok
    have ⟨a0, a1, b0, b1, _, _⟩ := hsm
    have HF : Hid (firstC n c = (1, c.round, chainL c.chain.toNat)) := Lib.hid (by unfold firstC; rw [hok]; rfl)
    have HC : Hid (chkC n c = 0) := Lib.hid (by unfold chkC; rw [hok]; rfl)
    obtain ⟨m, hm⟩ := Int.eq_ofNat_of_zero_le (show 0 ≤ c.chain by omega)
    rw [hm, Int.toNat_natCast] at HF
    rw [HC.out] at K1
    rw [HF.out] at F1
    have S1 := Lib.hid fun w x => keyServer_any w A n g c hsm x
    clear hok HF HC hsm
    have hm1 : 1 ≤ m := by omega
    have hm8 : m ≤ 8 := by omega
    have HM := Lib.hid hm
    clear hm
    have CH : Hid (chkS (chainL m) = 0) := Lib.hid (by unfold chkS; rw [okChain_first m hm1 hm8]; rfl)
    have CL : Hid ((chainL m).length = m) := Lib.hid (chainL_len m)
    have GET : Hid (∀ k, k < m → (chainL m)[k]? = some ((k + 1 : Nat) : Int)) := Lib.hid fun k hk => by unfold chainL; simp [hk]
    generalize chainL m = l at *
    go_enter Try.func6, Try.ntmps6
    go_wp2_with (go_at_call 7; refine (live07_any _).mono ?_; rintro e w1 ⟨rfl, hb1⟩; simp only [World.size_alloc] at hb1; obtain ⟨R0, hbw⟩ := box1 hb1; have k00 := R0.cell 0; have k01 := R0.cell 1; have k02 := R0.cell 2; have k03 := R0.cell 3; have k04 := R0.cell 4; have k05 := R0.cell 5; have k06 := R0.cell 6; have k07 := R0.cell 7; have k08 := R0.cell 8; have k09 := R0.cell 9; have k10 := R0.cell 10; simp at k00 k01 k02 k03 k04 k05 k06 k07 k08 k09 k10)
    clear R0 hb1
    with_reducible refine (F1.out _).mono ?_
    rintro e w4 ⟨A4, g4, rfl, s4, hb4⟩
    replace s4 : SlI w4 w4.heap.size A4 l.length g4 l := s4
    have CL' := CL.out
    rw [CL'] at s4
    replace k00 := cell_next hb4 k00
    replace k01 := cell_next hb4 k01
    replace k02 := cell_next hb4 k02
    replace k03 := cell_next hb4 k03
    replace k04 := cell_next hb4 k04
    replace k05 := cell_next hb4 k05
    replace k06 := cell_next hb4 k06
    replace k07 := cell_next hb4 k07
    replace k08 := cell_next hb4 k08
    replace k09 := cell_next hb4 k09
    replace k10 := cell_next hb4 k10
    replace hbw := after_next hbw hb4
    have R1 := Row.new w4 32 #[.int .u64 1, .int .u64 (c.round : Int), .slice A4 m g4]
    replace s4 := s4.lay (.cells #[.int .u64 1, .int .u64 (c.round : Int), .slice A4 m g4] 32)
    replace k00 := cell_lay (o := (.cells #[.int .u64 1, .int .u64 (c.round : Int), .slice A4 m g4] 32)) k00
    replace k01 := cell_lay (o := (.cells #[.int .u64 1, .int .u64 (c.round : Int), .slice A4 m g4] 32)) k01
    replace k02 := cell_lay (o := (.cells #[.int .u64 1, .int .u64 (c.round : Int), .slice A4 m g4] 32)) k02
    replace k03 := cell_lay (o := (.cells #[.int .u64 1, .int .u64 (c.round : Int), .slice A4 m g4] 32)) k03
    replace k04 := cell_lay (o := (.cells #[.int .u64 1, .int .u64 (c.round : Int), .slice A4 m g4] 32)) k04
    replace k05 := cell_lay (o := (.cells #[.int .u64 1, .int .u64 (c.round : Int), .slice A4 m g4] 32)) k05
    replace k06 := cell_lay (o := (.cells #[.int .u64 1, .int .u64 (c.round : Int), .slice A4 m g4] 32)) k06
    replace k07 := cell_lay (o := (.cells #[.int .u64 1, .int .u64 (c.round : Int), .slice A4 m g4] 32)) k07
    replace k08 := cell_lay (o := (.cells #[.int .u64 1, .int .u64 (c.round : Int), .slice A4 m g4] 32)) k08
    replace k09 := cell_lay (o := (.cells #[.int .u64 1, .int .u64 (c.round : Int), .slice A4 m g4] 32)) k09
    replace k10 := cell_lay (o := (.cells #[.int .u64 1, .int .u64 (c.round : Int), .slice A4 m g4] 32)) k10
    replace hbw := after_lay hbw (.cells #[.int .u64 1, .int .u64 (c.round : Int), .slice A4 m g4] 32)
    go_wp2_with fail
    try rw [CL']
    with_reducible refine (K1.out _).mono ?_
    rintro e w5 ⟨rfl, hb5⟩
    replace R1 := R1.below hb5 R1.lt
    replace s4 := s4.next hb5
    replace k00 := cell_next hb5 k00
    replace k01 := cell_next hb5 k01
    replace k02 := cell_next hb5 k02
    replace k03 := cell_next hb5 k03
    replace k04 := cell_next hb5 k04
    replace k05 := cell_next hb5 k05
    replace k06 := cell_next hb5 k06
    replace k07 := cell_next hb5 k07
    replace k08 := cell_next hb5 k08
    replace k09 := cell_next hb5 k09
    replace k10 := cell_next hb5 k10
    replace hbw := after_next hbw hb5
    have c0 := R1.cell 0
    have c1 := R1.cell 1
    have c2 := R1.cell 2
    simp at c0 c1 c2
    go_wp2_with fail
    refine (stampCheck_any _ _ 1 c.round m g4 A4 l s4 (Nat.le_refl _) (by omega)).mono ?_
    rw [CH.out]
    rintro e w6 ⟨rfl, hb6⟩
    replace R1 := R1.below hb6 R1.lt
    replace s4 := s4.next hb6
    replace k00 := cell_next hb6 k00
    replace k01 := cell_next hb6 k01
    replace k02 := cell_next hb6 k02
    replace k03 := cell_next hb6 k03
    replace k04 := cell_next hb6 k04
    replace k05 := cell_next hb6 k05
    replace k06 := cell_next hb6 k06
    replace k07 := cell_next hb6 k07
    replace k08 := cell_next hb6 k08
    replace k09 := cell_next hb6 k09
    replace k10 := cell_next hb6 k10
    replace hbw := after_next hbw hb6
    clear c0 c1 c2 CL' hb4 hb5 hb6
    have c0 := R1.cell 0
    have c1 := R1.cell 1
    have c2 := R1.cell 2
    simp at c0 c1 c2
    have hmc : ((m : Int) != c.chain) = false := by rw [HM.out]; simp
    have hrr : ((c.round : Int) != (c.round : Int)) = false := by simp
    go_wp2_with fail
    go_loopw [42] (fun i wr => ∃ k : Nat, k ≤ m ∧ i = .int .i64 k ∧ Below w6.heap.size w6 wr) (fun i _ => m - (intOf i).toNat)
    case atStart => exact ⟨0, Nat.zero_le _, rfl, Below.refl _ _⟩
    case round =>
      obtain ⟨k, hk, rfl, hbr⟩ := hrel
      by_cases hlt : k < m
      · obtain ⟨p, z, rfl, _, hcell, hz⟩ := (s4.below hbr).at_ hlt
        have hz' := GET.out k hlt
        rw [hz] at hz'
        injection hz' with hz'
        subst hz'
        clear hz
        have q00 := cell_next hbr k00
        have q01 := cell_next hbr k01
        have q02 := cell_next hbr k02
        have q03 := cell_next hbr k03
        have q04 := cell_next hbr k04
        have q05 := cell_next hbr k05
        have q06 := cell_next hbr k06
        have q07 := cell_next hbr k07
        have q08 := cell_next hbr k08
        have q09 := cell_next hbr k09
        have q10 := cell_next hbr k10
        have hin : Hid (inB ((k + 1 : Nat) : Int) 1 (c.chain + c.standby) = true) := Lib.hid (by unfold inB; rw [HM.out]; simp; omega)
        have hgt : ¬ c.chain < ((k + 1 : Nat) : Int) := by rw [HM.out]; omega
        have hwn : ((k + 1 : Nat) : Int) = (k : Int) + 1 := by omega
        have HGT := Lib.hid hgt
        clear hgt hwn
        generalize ((k + 1 : Nat) : Int) = z at *
        have hgt := HGT.out
        go_wp2_with fail
        with_reducible refine (S1.out _ _).mono ?_
        rw [hin.out]
        rintro e w7 ⟨rfl, hb7⟩
        replace q00 := cell_next hb7 q00
        replace q01 := cell_next hb7 q01
        replace q02 := cell_next hb7 q02
        replace q03 := cell_next hb7 q03
        replace q04 := cell_next hb7 q04
        replace q05 := cell_next hb7 q05
        replace q06 := cell_next hb7 q06
        replace q07 := cell_next hb7 q07
        replace q08 := cell_next hb7 q08
        replace q09 := cell_next hb7 q09
        replace q10 := cell_next hb7 q10
        go_wp2_with fail
        go_roundw
        case rel => exact ⟨k + 1, by omega, by simp, after_next hbr hb7⟩
        case measure => simp [intOf]; omega
      · obtain rfl : k = m := by omega
        go_wp2_with fail
        go_ret
        exact ⟨rfl, after_next hbw hbr⟩
end Go.Proofs.Ytcpbheenmjekdaa
