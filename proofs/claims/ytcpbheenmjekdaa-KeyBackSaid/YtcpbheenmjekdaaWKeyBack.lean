/- The walk of the law KeyBack. -/
import Derived.Test.YtcpbheenmjekdaaLive07
namespace Go.Proofs.Ytcpbheenmjekdaa
set_option linter.unusedSimpArgs false
set_option linter.unusedVariables false
open Go.RowKit

def cntB (l : List Bool) : Int := (l.filter id).length

def preB (a b d : Bool) : Nat → Int
  | 0 => 0
  | 1 => cntB [a]
  | 2 => cntB [a, b]
  | _ => cntB [a, b, d]
theorem preB_in (a b d : Bool) (k : Nat) : 0 ≤ preB a b d k ∧ preB a b d k ≤ 3 := by
  match k with
  | 0 => cases a <;> cases b <;> cases d <;> exact ⟨by decide, by decide⟩
  | 1 => cases a <;> cases b <;> cases d <;> exact ⟨by decide, by decide⟩
  | 2 => cases a <;> cases b <;> cases d <;> exact ⟨by decide, by decide⟩
  | k + 3 =>
    show 0 ≤ cntB [a, b, d] ∧ cntB [a, b, d] ≤ 3
    cases a <;> cases b <;> cases d <;> exact ⟨by decide, by decide⟩

theorem back_facts (c : CfgD) (hc : CfgSmall c) (n : Int) : ∃ who is at', clientC c n = (who, is) ∧ nodeC c n = at' ∧ (is = true → nodeC c who = n) ∧ (is = false → who = 0) ∧
    ((0 ≤ at' ∧ clientC c at' = (n, true)) ∨ at' = -1) ∧ cntB [n == 0, inB n 1 (c.chain + c.standby), is] ≤ 1 ∧
    ((cntB [n == 0, inB n 1 (c.chain + c.standby), is] == 1) == (decide (0 ≤ n) && decide (n < nodesC c))) = true := by
  obtain ⟨a0, a1, b0, b1, d0, d1⟩ := hc
  refine ⟨(clientC c n).1, (clientC c n).2, nodeC c n, rfl, rfl, ?_, ?_, ?_, ?_⟩
  · unfold clientC nodesC
    split
    · intro h; cases h
    · intro _; unfold nodeC; rw [if_neg (by simp only; omega)]; simp only; omega
  · unfold clientC
    split
    · intro _; rfl
    · intro h; cases h
  · unfold nodeC
    split
    · exact .inr rfl
    · refine .inl ⟨by omega, ?_⟩
      unfold clientC nodesC
      rw [if_neg (by omega)]
      simp only [Prod.mk.injEq, and_true]; omega
  · have h1 : (n == 0) = decide (n = 0) := rfl
    unfold clientC nodesC inB
    by_cases c1 : n < 0
    · rw [if_pos (by omega), h1, decide_eq_false (show ¬ n = 0 by omega), decide_eq_false (show ¬ 1 ≤ n by omega), decide_eq_false (show ¬ 0 ≤ n by omega)]
      simp [cntB]
    by_cases c2 : n = 0
    · rw [if_pos (by omega), h1, decide_eq_true c2, decide_eq_false (show ¬ 1 ≤ n by omega), decide_eq_true (show 0 ≤ n by omega), decide_eq_true (show n < 1 + c.chain + c.standby + c.clients by omega)]
      simp [cntB]
    rw [h1, decide_eq_false c2, decide_eq_true (show 1 ≤ n by omega), decide_eq_true (show 0 ≤ n by omega)]
    by_cases c3 : n ≤ c.chain + c.standby
    · rw [if_pos (by omega), decide_eq_true c3, decide_eq_true (show n < 1 + c.chain + c.standby + c.clients by omega)]
      simp [cntB]
    rw [decide_eq_false c3]
    by_cases c4 : n < 1 + c.chain + c.standby + c.clients
    · rw [if_neg (by omega), decide_eq_true c4]
      simp [cntB]
    · rw [if_pos (by omega), decide_eq_false c4]
      simp [cntB]

set_option maxHeartbeats 1600000 in
theorem walk_KeyBack (W : World) (v0 v1 : Value) (o0 : Opn W 25 v0) (o1 : Opn W 3 v1) :
    Calls Try.prog 5 #[v0, v1] W fun e w' => e = .returned (.bool true) ∧ Below W.heap.size W w' := by
  obtain ⟨A, n, g, s, c, rfl, hs, hg, hfit⟩ := o0.cfg
  obtain ⟨x, rfl, hx⟩ := o1.i64 Try.underlying3
  clear o0 o1 hs hg hfit hx
  have K := Lib.hid fun w => keyCheck_any w A n g c
  cases hk : okCfg n c
  · have hc : chkC n c = 1 := by unfold chkC; rw [hk]; rfl
    rw [hc] at K
    go_enter Try.func5, Try.ntmps5
    go_wp2_with (go_at_call 7; refine (live07_any _).mono ?_; rintro e w1 ⟨rfl, hb1⟩; simp only [World.size_alloc] at hb1; obtain ⟨R0, hbw⟩ := box1 hb1; have k00 := R0.cell 0; have k01 := R0.cell 1; have k02 := R0.cell 2; have k03 := R0.cell 3; have k04 := R0.cell 4; have k05 := R0.cell 5; have k06 := R0.cell 6; have k07 := R0.cell 7; have k08 := R0.cell 8; have k09 := R0.cell 9; have k10 := R0.cell 10; simp at k00 k01 k02 k03 k04 k05 k06 k07 k08 k09 k10)
    refine (K.out _).mono ?_
    rintro e w2 ⟨rfl, hb2⟩
    go_wp2_with fail
    go_ret
    exact ⟨by simp, after_next hbw hb2⟩
  · have hc : chkC n c = 0 := by unfold chkC; rw [hk]; rfl
    rw [hc] at K
    have hsm := okCfg_small hk
    obtain ⟨who, is, at', hwho, hat, f1, f2, f3, f4, f5⟩ := back_facts c hsm x
    have C1 := Lib.hid fun w => keyClient_any w A n g c hsm x
    have C2 := Lib.hid fun w => keyClient_any w A n g c hsm at'
    have N1 := Lib.hid fun w => keyNodes_any w A n g c hsm
    have S1 := Lib.hid fun w => keyServer_any w A n g c hsm x
    have D1 := Lib.hid fun w => keyNode_any w A n g c hsm x
    have D2 := Lib.hid fun w => keyNode_any w A n g c hsm who
    rw [hwho] at C1
    rw [hat] at D1
    generalize nodesC c = nd at N1 f5
    generalize inB x 1 (c.chain + c.standby) = sv at S1 f4 f5
    have F4 := Lib.hid f4
    have F5 := Lib.hid f5
    clear hk hc hsm f4 f5 hwho hat
    have hor : (is = true ∧ nodeC c who = x) ∨ (is = false ∧ who = 0) := by
      cases is
      · exact .inr ⟨rfl, f2 rfl⟩
      · exact .inl ⟨rfl, f1 rfl⟩
    clear f1 f2
    rcases hor with ⟨rfl, hno⟩ | ⟨rfl, rfl⟩
    · rw [hno] at D2
      clear hno
      rcases f3 with ⟨hat0, hcl⟩ | rfl
      · rw [hcl] at C2
        have hge : at' ≥ 0 := hat0
        clear hcl
        go_enter Try.func5, Try.ntmps5
        go_wp2_with (go_at_call 7; refine (live07_any _).mono ?_; rintro e w1 ⟨rfl, hb1⟩; simp only [World.size_alloc] at hb1; obtain ⟨R0, hbw⟩ := box1 hb1; have k00 := R0.cell 0; have k01 := R0.cell 1; have k02 := R0.cell 2; have k03 := R0.cell 3; have k04 := R0.cell 4; have k05 := R0.cell 5; have k06 := R0.cell 6; have k07 := R0.cell 7; have k08 := R0.cell 8; have k09 := R0.cell 9; have k10 := R0.cell 10; simp at k00 k01 k02 k03 k04 k05 k06 k07 k08 k09 k10)
        refine (K.out _).mono ?_
        rintro e w2 ⟨rfl, hb2⟩
        replace k00 := cell_next hb2 k00
        replace k01 := cell_next hb2 k01
        replace k02 := cell_next hb2 k02
        replace k03 := cell_next hb2 k03
        replace k04 := cell_next hb2 k04
        replace k05 := cell_next hb2 k05
        replace k06 := cell_next hb2 k06
        replace k07 := cell_next hb2 k07
        replace k08 := cell_next hb2 k08
        replace k09 := cell_next hb2 k09
        replace k10 := cell_next hb2 k10
        replace hbw := after_next hbw hb2
        go_wp2_with fail
        refine (C1.out _).mono ?_
        rintro e w3 ⟨rfl, hb3⟩
        replace k00 := cell_next hb3 k00
        replace k01 := cell_next hb3 k01
        replace k02 := cell_next hb3 k02
        replace k03 := cell_next hb3 k03
        replace k04 := cell_next hb3 k04
        replace k05 := cell_next hb3 k05
        replace k06 := cell_next hb3 k06
        replace k07 := cell_next hb3 k07
        replace k08 := cell_next hb3 k08
        replace k09 := cell_next hb3 k09
        replace k10 := cell_next hb3 k10
        replace hbw := after_next hbw hb3
        clear R0 hb1 hb2 hb3
        go_wp2_with (first | (go_at_call 19; first | (with_reducible refine (D1.out _).mono ?_; rintro e w4 ⟨rfl, hb4⟩; replace k00 := cell_next hb4 k00; replace k01 := cell_next hb4 k01; replace k02 := cell_next hb4 k02; replace k03 := cell_next hb4 k03; replace k04 := cell_next hb4 k04; replace k05 := cell_next hb4 k05; replace k06 := cell_next hb4 k06; replace k07 := cell_next hb4 k07; replace k08 := cell_next hb4 k08; replace k09 := cell_next hb4 k09; replace k10 := cell_next hb4 k10; replace hbw := after_next hbw hb4; clear hb4) | (with_reducible refine (D2.out _).mono ?_; rintro e w4 ⟨rfl, hb4⟩; replace k00 := cell_next hb4 k00; replace k01 := cell_next hb4 k01; replace k02 := cell_next hb4 k02; replace k03 := cell_next hb4 k03; replace k04 := cell_next hb4 k04; replace k05 := cell_next hb4 k05; replace k06 := cell_next hb4 k06; replace k07 := cell_next hb4 k07; replace k08 := cell_next hb4 k08; replace k09 := cell_next hb4 k09; replace k10 := cell_next hb4 k10; replace hbw := after_next hbw hb4; clear hb4)) | (go_at_call 13; with_reducible refine (C2.out _).mono ?_; rintro e w4 ⟨rfl, hb4⟩; replace k00 := cell_next hb4 k00; replace k01 := cell_next hb4 k01; replace k02 := cell_next hb4 k02; replace k03 := cell_next hb4 k03; replace k04 := cell_next hb4 k04; replace k05 := cell_next hb4 k05; replace k06 := cell_next hb4 k06; replace k07 := cell_next hb4 k07; replace k08 := cell_next hb4 k08; replace k09 := cell_next hb4 k09; replace k10 := cell_next hb4 k10; replace hbw := after_next hbw hb4; clear hb4) | (go_at_call 17; with_reducible refine (S1.out _).mono ?_; rintro e w6 ⟨rfl, hb6⟩; replace k00 := cell_next hb6 k00; replace k01 := cell_next hb6 k01; replace k02 := cell_next hb6 k02; replace k03 := cell_next hb6 k03; replace k04 := cell_next hb6 k04; replace k05 := cell_next hb6 k05; replace k06 := cell_next hb6 k06; replace k07 := cell_next hb6 k07; replace k08 := cell_next hb6 k08; replace k09 := cell_next hb6 k09; replace k10 := cell_next hb6 k10; replace hbw := after_next hbw hb6; clear hb6))
        generalize (x == 0) = x0 at F4 F5 ⊢
        have L0 : (w6.alloc (.cells #[.bool x0, .bool sv, .bool true] 4)).cell? ⟨w6.heap.size, 0, none⟩ = some (.bool x0) := (Row.new w6 4 #[.bool x0, .bool sv, .bool true]).cell 0
        have L1 : (w6.alloc (.cells #[.bool x0, .bool sv, .bool true] 4)).cell? ⟨w6.heap.size, 1, none⟩ = some (.bool sv) := (Row.new w6 4 #[.bool x0, .bool sv, .bool true]).cell 1
        have L2 : (w6.alloc (.cells #[.bool x0, .bool sv, .bool true] 4)).cell? ⟨w6.heap.size, 2, none⟩ = some (.bool true) := (Row.new w6 4 #[.bool x0, .bool sv, .bool true]).cell 2
        replace k00 := cell_lay (o := .cells #[.bool x0, .bool sv, .bool true] 4) k00
        replace k01 := cell_lay (o := .cells #[.bool x0, .bool sv, .bool true] 4) k01
        replace k02 := cell_lay (o := .cells #[.bool x0, .bool sv, .bool true] 4) k02
        replace k03 := cell_lay (o := .cells #[.bool x0, .bool sv, .bool true] 4) k03
        replace k04 := cell_lay (o := .cells #[.bool x0, .bool sv, .bool true] 4) k04
        replace k05 := cell_lay (o := .cells #[.bool x0, .bool sv, .bool true] 4) k05
        replace k06 := cell_lay (o := .cells #[.bool x0, .bool sv, .bool true] 4) k06
        replace k07 := cell_lay (o := .cells #[.bool x0, .bool sv, .bool true] 4) k07
        replace k08 := cell_lay (o := .cells #[.bool x0, .bool sv, .bool true] 4) k08
        replace k09 := cell_lay (o := .cells #[.bool x0, .bool sv, .bool true] 4) k09
        replace k10 := cell_lay (o := .cells #[.bool x0, .bool sv, .bool true] 4) k10
        replace hbw := after_lay hbw (.cells #[.bool x0, .bool sv, .bool true] 4)
        generalize w6.alloc (.cells #[.bool x0, .bool sv, .bool true] 4) = w7 at *
        go_loopw [10, 68] (fun o i wr => ∃ k : Nat, k ≤ 3 ∧ i = .int .i64 k ∧ o = .int .i64 (preB x0 sv true k) ∧ w7 = wr) (fun _ i _ => 3 - (intOf i).toNat)
        case atStart => exact ⟨0, by decide, rfl, rfl, rfl⟩
        case round =>
          obtain ⟨k, hk, rfl, rfl, rfl⟩ := hrel
          have hp := preB_in x0 sv true k
          have hwp : IntKind.i64.wrap (preB x0 sv true k + 1) = preB x0 sv true k + 1 := IntWalk.i64_in _ ⟨by omega, by omega⟩
          by_cases hlt : k < 3
          · rcases (show k = 0 ∨ k = 1 ∨ k = 2 by omega) with rfl | rfl | rfl
            · cases x0
              all_goals
                go_wp2_with fail
                go_roundw
                case rel => exact ⟨1, by decide, rfl, by first | rfl | (cases sv <;> rfl), trivial⟩
                case measure => simp [intOf]
            · cases sv
              all_goals
                go_wp2_with fail
                go_roundw
                case rel => exact ⟨2, by decide, rfl, by cases x0 <;> rfl, trivial⟩
                case measure => simp [intOf]
            · go_wp2_with fail
              go_roundw
              case rel => exact ⟨3, by decide, rfl, by cases x0 <;> cases sv <;> rfl, trivial⟩
              case measure => simp [intOf]
          · obtain rfl : k = 3 := by omega
            have f4 := F4.out
            have f5 := F5.out
            have hz : preB x0 sv true 3 = cntB [x0, sv, true] := rfl
            rw [← hz] at f4 f5
            clear hz hp hwp F4 F5
            generalize preB x0 sv true 3 = z at *
            by_cases hx : 0 ≤ x
            · have hx' : x ≥ 0 := hx
              rw [decide_eq_true hx, Bool.true_and] at f5
              have f5' := f5
              rw [beq_iff_eq] at f5'
              go_wp2_with (go_at_call 15; refine (N1.out _).mono ?_; rintro e w8 ⟨rfl, hb8⟩)
              go_ret
              exact ⟨by simp [*], after_next hbw hb8⟩
            · have hx' : ¬ x ≥ 0 := hx
              rw [decide_eq_false hx, Bool.false_and] at f5
              go_wp2_with fail
              go_ret
              exact ⟨by simp_all, hbw⟩
      · go_enter Try.func5, Try.ntmps5
        go_wp2_with (go_at_call 7; refine (live07_any _).mono ?_; rintro e w1 ⟨rfl, hb1⟩; simp only [World.size_alloc] at hb1; obtain ⟨R0, hbw⟩ := box1 hb1; have k00 := R0.cell 0; have k01 := R0.cell 1; have k02 := R0.cell 2; have k03 := R0.cell 3; have k04 := R0.cell 4; have k05 := R0.cell 5; have k06 := R0.cell 6; have k07 := R0.cell 7; have k08 := R0.cell 8; have k09 := R0.cell 9; have k10 := R0.cell 10; simp at k00 k01 k02 k03 k04 k05 k06 k07 k08 k09 k10)
        refine (K.out _).mono ?_
        rintro e w2 ⟨rfl, hb2⟩
        replace k00 := cell_next hb2 k00
        replace k01 := cell_next hb2 k01
        replace k02 := cell_next hb2 k02
        replace k03 := cell_next hb2 k03
        replace k04 := cell_next hb2 k04
        replace k05 := cell_next hb2 k05
        replace k06 := cell_next hb2 k06
        replace k07 := cell_next hb2 k07
        replace k08 := cell_next hb2 k08
        replace k09 := cell_next hb2 k09
        replace k10 := cell_next hb2 k10
        replace hbw := after_next hbw hb2
        go_wp2_with fail
        refine (C1.out _).mono ?_
        rintro e w3 ⟨rfl, hb3⟩
        replace k00 := cell_next hb3 k00
        replace k01 := cell_next hb3 k01
        replace k02 := cell_next hb3 k02
        replace k03 := cell_next hb3 k03
        replace k04 := cell_next hb3 k04
        replace k05 := cell_next hb3 k05
        replace k06 := cell_next hb3 k06
        replace k07 := cell_next hb3 k07
        replace k08 := cell_next hb3 k08
        replace k09 := cell_next hb3 k09
        replace k10 := cell_next hb3 k10
        replace hbw := after_next hbw hb3
        clear R0 hb1 hb2 hb3
        go_wp2_with (first | (go_at_call 19; first | (with_reducible refine (D1.out _).mono ?_; rintro e w4 ⟨rfl, hb4⟩; replace k00 := cell_next hb4 k00; replace k01 := cell_next hb4 k01; replace k02 := cell_next hb4 k02; replace k03 := cell_next hb4 k03; replace k04 := cell_next hb4 k04; replace k05 := cell_next hb4 k05; replace k06 := cell_next hb4 k06; replace k07 := cell_next hb4 k07; replace k08 := cell_next hb4 k08; replace k09 := cell_next hb4 k09; replace k10 := cell_next hb4 k10; replace hbw := after_next hbw hb4; clear hb4) | (with_reducible refine (D2.out _).mono ?_; rintro e w4 ⟨rfl, hb4⟩; replace k00 := cell_next hb4 k00; replace k01 := cell_next hb4 k01; replace k02 := cell_next hb4 k02; replace k03 := cell_next hb4 k03; replace k04 := cell_next hb4 k04; replace k05 := cell_next hb4 k05; replace k06 := cell_next hb4 k06; replace k07 := cell_next hb4 k07; replace k08 := cell_next hb4 k08; replace k09 := cell_next hb4 k09; replace k10 := cell_next hb4 k10; replace hbw := after_next hbw hb4; clear hb4)) | (go_at_call 13; with_reducible refine (C2.out _).mono ?_; rintro e w4 ⟨rfl, hb4⟩; replace k00 := cell_next hb4 k00; replace k01 := cell_next hb4 k01; replace k02 := cell_next hb4 k02; replace k03 := cell_next hb4 k03; replace k04 := cell_next hb4 k04; replace k05 := cell_next hb4 k05; replace k06 := cell_next hb4 k06; replace k07 := cell_next hb4 k07; replace k08 := cell_next hb4 k08; replace k09 := cell_next hb4 k09; replace k10 := cell_next hb4 k10; replace hbw := after_next hbw hb4; clear hb4) | (go_at_call 17; with_reducible refine (S1.out _).mono ?_; rintro e w6 ⟨rfl, hb6⟩; replace k00 := cell_next hb6 k00; replace k01 := cell_next hb6 k01; replace k02 := cell_next hb6 k02; replace k03 := cell_next hb6 k03; replace k04 := cell_next hb6 k04; replace k05 := cell_next hb6 k05; replace k06 := cell_next hb6 k06; replace k07 := cell_next hb6 k07; replace k08 := cell_next hb6 k08; replace k09 := cell_next hb6 k09; replace k10 := cell_next hb6 k10; replace hbw := after_next hbw hb6; clear hb6))
        generalize (x == 0) = x0 at F4 F5 ⊢
        have L0 : (w6.alloc (.cells #[.bool x0, .bool sv, .bool true] 4)).cell? ⟨w6.heap.size, 0, none⟩ = some (.bool x0) := (Row.new w6 4 #[.bool x0, .bool sv, .bool true]).cell 0
        have L1 : (w6.alloc (.cells #[.bool x0, .bool sv, .bool true] 4)).cell? ⟨w6.heap.size, 1, none⟩ = some (.bool sv) := (Row.new w6 4 #[.bool x0, .bool sv, .bool true]).cell 1
        have L2 : (w6.alloc (.cells #[.bool x0, .bool sv, .bool true] 4)).cell? ⟨w6.heap.size, 2, none⟩ = some (.bool true) := (Row.new w6 4 #[.bool x0, .bool sv, .bool true]).cell 2
        replace k00 := cell_lay (o := .cells #[.bool x0, .bool sv, .bool true] 4) k00
        replace k01 := cell_lay (o := .cells #[.bool x0, .bool sv, .bool true] 4) k01
        replace k02 := cell_lay (o := .cells #[.bool x0, .bool sv, .bool true] 4) k02
        replace k03 := cell_lay (o := .cells #[.bool x0, .bool sv, .bool true] 4) k03
        replace k04 := cell_lay (o := .cells #[.bool x0, .bool sv, .bool true] 4) k04
        replace k05 := cell_lay (o := .cells #[.bool x0, .bool sv, .bool true] 4) k05
        replace k06 := cell_lay (o := .cells #[.bool x0, .bool sv, .bool true] 4) k06
        replace k07 := cell_lay (o := .cells #[.bool x0, .bool sv, .bool true] 4) k07
        replace k08 := cell_lay (o := .cells #[.bool x0, .bool sv, .bool true] 4) k08
        replace k09 := cell_lay (o := .cells #[.bool x0, .bool sv, .bool true] 4) k09
        replace k10 := cell_lay (o := .cells #[.bool x0, .bool sv, .bool true] 4) k10
        replace hbw := after_lay hbw (.cells #[.bool x0, .bool sv, .bool true] 4)
        generalize w6.alloc (.cells #[.bool x0, .bool sv, .bool true] 4) = w7 at *
        go_loopw [10, 68] (fun o i wr => ∃ k : Nat, k ≤ 3 ∧ i = .int .i64 k ∧ o = .int .i64 (preB x0 sv true k) ∧ w7 = wr) (fun _ i _ => 3 - (intOf i).toNat)
        case atStart => exact ⟨0, by decide, rfl, rfl, rfl⟩
        case round =>
          obtain ⟨k, hk, rfl, rfl, rfl⟩ := hrel
          have hp := preB_in x0 sv true k
          have hwp : IntKind.i64.wrap (preB x0 sv true k + 1) = preB x0 sv true k + 1 := IntWalk.i64_in _ ⟨by omega, by omega⟩
          by_cases hlt : k < 3
          · rcases (show k = 0 ∨ k = 1 ∨ k = 2 by omega) with rfl | rfl | rfl
            · cases x0
              all_goals
                go_wp2_with fail
                go_roundw
                case rel => exact ⟨1, by decide, rfl, by first | rfl | (cases sv <;> rfl), trivial⟩
                case measure => simp [intOf]
            · cases sv
              all_goals
                go_wp2_with fail
                go_roundw
                case rel => exact ⟨2, by decide, rfl, by cases x0 <;> rfl, trivial⟩
                case measure => simp [intOf]
            · go_wp2_with fail
              go_roundw
              case rel => exact ⟨3, by decide, rfl, by cases x0 <;> cases sv <;> rfl, trivial⟩
              case measure => simp [intOf]
          · obtain rfl : k = 3 := by omega
            have f4 := F4.out
            have f5 := F5.out
            have hz : preB x0 sv true 3 = cntB [x0, sv, true] := rfl
            rw [← hz] at f4 f5
            clear hz hp hwp F4 F5
            generalize preB x0 sv true 3 = z at *
            by_cases hx : 0 ≤ x
            · have hx' : x ≥ 0 := hx
              rw [decide_eq_true hx, Bool.true_and] at f5
              have f5' := f5
              rw [beq_iff_eq] at f5'
              go_wp2_with (go_at_call 15; refine (N1.out _).mono ?_; rintro e w8 ⟨rfl, hb8⟩)
              go_ret
              exact ⟨by simp [*], after_next hbw hb8⟩
            · have hx' : ¬ x ≥ 0 := hx
              rw [decide_eq_false hx, Bool.false_and] at f5
              go_wp2_with fail
              go_ret
              exact ⟨by simp_all, hbw⟩
    · clear D2
      rcases f3 with ⟨hat0, hcl⟩ | rfl
      · rw [hcl] at C2
        have hge : at' ≥ 0 := hat0
        clear hcl
        go_enter Try.func5, Try.ntmps5
        go_wp2_with (go_at_call 7; refine (live07_any _).mono ?_; rintro e w1 ⟨rfl, hb1⟩; simp only [World.size_alloc] at hb1; obtain ⟨R0, hbw⟩ := box1 hb1; have k00 := R0.cell 0; have k01 := R0.cell 1; have k02 := R0.cell 2; have k03 := R0.cell 3; have k04 := R0.cell 4; have k05 := R0.cell 5; have k06 := R0.cell 6; have k07 := R0.cell 7; have k08 := R0.cell 8; have k09 := R0.cell 9; have k10 := R0.cell 10; simp at k00 k01 k02 k03 k04 k05 k06 k07 k08 k09 k10)
        refine (K.out _).mono ?_
        rintro e w2 ⟨rfl, hb2⟩
        replace k00 := cell_next hb2 k00
        replace k01 := cell_next hb2 k01
        replace k02 := cell_next hb2 k02
        replace k03 := cell_next hb2 k03
        replace k04 := cell_next hb2 k04
        replace k05 := cell_next hb2 k05
        replace k06 := cell_next hb2 k06
        replace k07 := cell_next hb2 k07
        replace k08 := cell_next hb2 k08
        replace k09 := cell_next hb2 k09
        replace k10 := cell_next hb2 k10
        replace hbw := after_next hbw hb2
        go_wp2_with fail
        refine (C1.out _).mono ?_
        rintro e w3 ⟨rfl, hb3⟩
        replace k00 := cell_next hb3 k00
        replace k01 := cell_next hb3 k01
        replace k02 := cell_next hb3 k02
        replace k03 := cell_next hb3 k03
        replace k04 := cell_next hb3 k04
        replace k05 := cell_next hb3 k05
        replace k06 := cell_next hb3 k06
        replace k07 := cell_next hb3 k07
        replace k08 := cell_next hb3 k08
        replace k09 := cell_next hb3 k09
        replace k10 := cell_next hb3 k10
        replace hbw := after_next hbw hb3
        clear R0 hb1 hb2 hb3
        go_wp2_with (first | (go_at_call 19; first | (with_reducible refine (D1.out _).mono ?_; rintro e w4 ⟨rfl, hb4⟩; replace k00 := cell_next hb4 k00; replace k01 := cell_next hb4 k01; replace k02 := cell_next hb4 k02; replace k03 := cell_next hb4 k03; replace k04 := cell_next hb4 k04; replace k05 := cell_next hb4 k05; replace k06 := cell_next hb4 k06; replace k07 := cell_next hb4 k07; replace k08 := cell_next hb4 k08; replace k09 := cell_next hb4 k09; replace k10 := cell_next hb4 k10; replace hbw := after_next hbw hb4; clear hb4) | (with_reducible refine (D2.out _).mono ?_; rintro e w4 ⟨rfl, hb4⟩; replace k00 := cell_next hb4 k00; replace k01 := cell_next hb4 k01; replace k02 := cell_next hb4 k02; replace k03 := cell_next hb4 k03; replace k04 := cell_next hb4 k04; replace k05 := cell_next hb4 k05; replace k06 := cell_next hb4 k06; replace k07 := cell_next hb4 k07; replace k08 := cell_next hb4 k08; replace k09 := cell_next hb4 k09; replace k10 := cell_next hb4 k10; replace hbw := after_next hbw hb4; clear hb4)) | (go_at_call 13; with_reducible refine (C2.out _).mono ?_; rintro e w4 ⟨rfl, hb4⟩; replace k00 := cell_next hb4 k00; replace k01 := cell_next hb4 k01; replace k02 := cell_next hb4 k02; replace k03 := cell_next hb4 k03; replace k04 := cell_next hb4 k04; replace k05 := cell_next hb4 k05; replace k06 := cell_next hb4 k06; replace k07 := cell_next hb4 k07; replace k08 := cell_next hb4 k08; replace k09 := cell_next hb4 k09; replace k10 := cell_next hb4 k10; replace hbw := after_next hbw hb4; clear hb4) | (go_at_call 17; with_reducible refine (S1.out _).mono ?_; rintro e w6 ⟨rfl, hb6⟩; replace k00 := cell_next hb6 k00; replace k01 := cell_next hb6 k01; replace k02 := cell_next hb6 k02; replace k03 := cell_next hb6 k03; replace k04 := cell_next hb6 k04; replace k05 := cell_next hb6 k05; replace k06 := cell_next hb6 k06; replace k07 := cell_next hb6 k07; replace k08 := cell_next hb6 k08; replace k09 := cell_next hb6 k09; replace k10 := cell_next hb6 k10; replace hbw := after_next hbw hb6; clear hb6))
        generalize (x == 0) = x0 at F4 F5 ⊢
        have L0 : (w6.alloc (.cells #[.bool x0, .bool sv, .bool false] 4)).cell? ⟨w6.heap.size, 0, none⟩ = some (.bool x0) := (Row.new w6 4 #[.bool x0, .bool sv, .bool false]).cell 0
        have L1 : (w6.alloc (.cells #[.bool x0, .bool sv, .bool false] 4)).cell? ⟨w6.heap.size, 1, none⟩ = some (.bool sv) := (Row.new w6 4 #[.bool x0, .bool sv, .bool false]).cell 1
        have L2 : (w6.alloc (.cells #[.bool x0, .bool sv, .bool false] 4)).cell? ⟨w6.heap.size, 2, none⟩ = some (.bool false) := (Row.new w6 4 #[.bool x0, .bool sv, .bool false]).cell 2
        replace k00 := cell_lay (o := .cells #[.bool x0, .bool sv, .bool false] 4) k00
        replace k01 := cell_lay (o := .cells #[.bool x0, .bool sv, .bool false] 4) k01
        replace k02 := cell_lay (o := .cells #[.bool x0, .bool sv, .bool false] 4) k02
        replace k03 := cell_lay (o := .cells #[.bool x0, .bool sv, .bool false] 4) k03
        replace k04 := cell_lay (o := .cells #[.bool x0, .bool sv, .bool false] 4) k04
        replace k05 := cell_lay (o := .cells #[.bool x0, .bool sv, .bool false] 4) k05
        replace k06 := cell_lay (o := .cells #[.bool x0, .bool sv, .bool false] 4) k06
        replace k07 := cell_lay (o := .cells #[.bool x0, .bool sv, .bool false] 4) k07
        replace k08 := cell_lay (o := .cells #[.bool x0, .bool sv, .bool false] 4) k08
        replace k09 := cell_lay (o := .cells #[.bool x0, .bool sv, .bool false] 4) k09
        replace k10 := cell_lay (o := .cells #[.bool x0, .bool sv, .bool false] 4) k10
        replace hbw := after_lay hbw (.cells #[.bool x0, .bool sv, .bool false] 4)
        generalize w6.alloc (.cells #[.bool x0, .bool sv, .bool false] 4) = w7 at *
        go_loopw [10, 68] (fun o i wr => ∃ k : Nat, k ≤ 3 ∧ i = .int .i64 k ∧ o = .int .i64 (preB x0 sv false k) ∧ w7 = wr) (fun _ i _ => 3 - (intOf i).toNat)
        case atStart => exact ⟨0, by decide, rfl, rfl, rfl⟩
        case round =>
          obtain ⟨k, hk, rfl, rfl, rfl⟩ := hrel
          have hp := preB_in x0 sv false k
          have hwp : IntKind.i64.wrap (preB x0 sv false k + 1) = preB x0 sv false k + 1 := IntWalk.i64_in _ ⟨by omega, by omega⟩
          by_cases hlt : k < 3
          · rcases (show k = 0 ∨ k = 1 ∨ k = 2 by omega) with rfl | rfl | rfl
            · cases x0
              all_goals
                go_wp2_with fail
                go_roundw
                case rel => exact ⟨1, by decide, rfl, by first | rfl | (cases sv <;> rfl), trivial⟩
                case measure => simp [intOf]
            · cases sv
              all_goals
                go_wp2_with fail
                go_roundw
                case rel => exact ⟨2, by decide, rfl, by cases x0 <;> rfl, trivial⟩
                case measure => simp [intOf]
            · go_wp2_with fail
              go_roundw
              case rel => exact ⟨3, by decide, rfl, by cases x0 <;> cases sv <;> rfl, trivial⟩
              case measure => simp [intOf]
          · obtain rfl : k = 3 := by omega
            have f4 := F4.out
            have f5 := F5.out
            have hz : preB x0 sv false 3 = cntB [x0, sv, false] := rfl
            rw [← hz] at f4 f5
            clear hz hp hwp F4 F5
            generalize preB x0 sv false 3 = z at *
            by_cases hx : 0 ≤ x
            · have hx' : x ≥ 0 := hx
              rw [decide_eq_true hx, Bool.true_and] at f5
              have f5' := f5
              rw [beq_iff_eq] at f5'
              go_wp2_with (go_at_call 15; refine (N1.out _).mono ?_; rintro e w8 ⟨rfl, hb8⟩)
              go_ret
              exact ⟨by simp [*], after_next hbw hb8⟩
            · have hx' : ¬ x ≥ 0 := hx
              rw [decide_eq_false hx, Bool.false_and] at f5
              go_wp2_with fail
              go_ret
              exact ⟨by simp_all, hbw⟩
      · go_enter Try.func5, Try.ntmps5
        go_wp2_with (go_at_call 7; refine (live07_any _).mono ?_; rintro e w1 ⟨rfl, hb1⟩; simp only [World.size_alloc] at hb1; obtain ⟨R0, hbw⟩ := box1 hb1; have k00 := R0.cell 0; have k01 := R0.cell 1; have k02 := R0.cell 2; have k03 := R0.cell 3; have k04 := R0.cell 4; have k05 := R0.cell 5; have k06 := R0.cell 6; have k07 := R0.cell 7; have k08 := R0.cell 8; have k09 := R0.cell 9; have k10 := R0.cell 10; simp at k00 k01 k02 k03 k04 k05 k06 k07 k08 k09 k10)
        refine (K.out _).mono ?_
        rintro e w2 ⟨rfl, hb2⟩
        replace k00 := cell_next hb2 k00
        replace k01 := cell_next hb2 k01
        replace k02 := cell_next hb2 k02
        replace k03 := cell_next hb2 k03
        replace k04 := cell_next hb2 k04
        replace k05 := cell_next hb2 k05
        replace k06 := cell_next hb2 k06
        replace k07 := cell_next hb2 k07
        replace k08 := cell_next hb2 k08
        replace k09 := cell_next hb2 k09
        replace k10 := cell_next hb2 k10
        replace hbw := after_next hbw hb2
        go_wp2_with fail
        refine (C1.out _).mono ?_
        rintro e w3 ⟨rfl, hb3⟩
        replace k00 := cell_next hb3 k00
        replace k01 := cell_next hb3 k01
        replace k02 := cell_next hb3 k02
        replace k03 := cell_next hb3 k03
        replace k04 := cell_next hb3 k04
        replace k05 := cell_next hb3 k05
        replace k06 := cell_next hb3 k06
        replace k07 := cell_next hb3 k07
        replace k08 := cell_next hb3 k08
        replace k09 := cell_next hb3 k09
        replace k10 := cell_next hb3 k10
        replace hbw := after_next hbw hb3
        clear R0 hb1 hb2 hb3
        go_wp2_with (first | (go_at_call 19; first | (with_reducible refine (D1.out _).mono ?_; rintro e w4 ⟨rfl, hb4⟩; replace k00 := cell_next hb4 k00; replace k01 := cell_next hb4 k01; replace k02 := cell_next hb4 k02; replace k03 := cell_next hb4 k03; replace k04 := cell_next hb4 k04; replace k05 := cell_next hb4 k05; replace k06 := cell_next hb4 k06; replace k07 := cell_next hb4 k07; replace k08 := cell_next hb4 k08; replace k09 := cell_next hb4 k09; replace k10 := cell_next hb4 k10; replace hbw := after_next hbw hb4; clear hb4) | (with_reducible refine (D2.out _).mono ?_; rintro e w4 ⟨rfl, hb4⟩; replace k00 := cell_next hb4 k00; replace k01 := cell_next hb4 k01; replace k02 := cell_next hb4 k02; replace k03 := cell_next hb4 k03; replace k04 := cell_next hb4 k04; replace k05 := cell_next hb4 k05; replace k06 := cell_next hb4 k06; replace k07 := cell_next hb4 k07; replace k08 := cell_next hb4 k08; replace k09 := cell_next hb4 k09; replace k10 := cell_next hb4 k10; replace hbw := after_next hbw hb4; clear hb4)) | (go_at_call 13; with_reducible refine (C2.out _).mono ?_; rintro e w4 ⟨rfl, hb4⟩; replace k00 := cell_next hb4 k00; replace k01 := cell_next hb4 k01; replace k02 := cell_next hb4 k02; replace k03 := cell_next hb4 k03; replace k04 := cell_next hb4 k04; replace k05 := cell_next hb4 k05; replace k06 := cell_next hb4 k06; replace k07 := cell_next hb4 k07; replace k08 := cell_next hb4 k08; replace k09 := cell_next hb4 k09; replace k10 := cell_next hb4 k10; replace hbw := after_next hbw hb4; clear hb4) | (go_at_call 17; with_reducible refine (S1.out _).mono ?_; rintro e w6 ⟨rfl, hb6⟩; replace k00 := cell_next hb6 k00; replace k01 := cell_next hb6 k01; replace k02 := cell_next hb6 k02; replace k03 := cell_next hb6 k03; replace k04 := cell_next hb6 k04; replace k05 := cell_next hb6 k05; replace k06 := cell_next hb6 k06; replace k07 := cell_next hb6 k07; replace k08 := cell_next hb6 k08; replace k09 := cell_next hb6 k09; replace k10 := cell_next hb6 k10; replace hbw := after_next hbw hb6; clear hb6))
        generalize (x == 0) = x0 at F4 F5 ⊢
        have L0 : (w6.alloc (.cells #[.bool x0, .bool sv, .bool false] 4)).cell? ⟨w6.heap.size, 0, none⟩ = some (.bool x0) := (Row.new w6 4 #[.bool x0, .bool sv, .bool false]).cell 0
        have L1 : (w6.alloc (.cells #[.bool x0, .bool sv, .bool false] 4)).cell? ⟨w6.heap.size, 1, none⟩ = some (.bool sv) := (Row.new w6 4 #[.bool x0, .bool sv, .bool false]).cell 1
        have L2 : (w6.alloc (.cells #[.bool x0, .bool sv, .bool false] 4)).cell? ⟨w6.heap.size, 2, none⟩ = some (.bool false) := (Row.new w6 4 #[.bool x0, .bool sv, .bool false]).cell 2
        replace k00 := cell_lay (o := .cells #[.bool x0, .bool sv, .bool false] 4) k00
        replace k01 := cell_lay (o := .cells #[.bool x0, .bool sv, .bool false] 4) k01
        replace k02 := cell_lay (o := .cells #[.bool x0, .bool sv, .bool false] 4) k02
        replace k03 := cell_lay (o := .cells #[.bool x0, .bool sv, .bool false] 4) k03
        replace k04 := cell_lay (o := .cells #[.bool x0, .bool sv, .bool false] 4) k04
        replace k05 := cell_lay (o := .cells #[.bool x0, .bool sv, .bool false] 4) k05
        replace k06 := cell_lay (o := .cells #[.bool x0, .bool sv, .bool false] 4) k06
        replace k07 := cell_lay (o := .cells #[.bool x0, .bool sv, .bool false] 4) k07
        replace k08 := cell_lay (o := .cells #[.bool x0, .bool sv, .bool false] 4) k08
        replace k09 := cell_lay (o := .cells #[.bool x0, .bool sv, .bool false] 4) k09
        replace k10 := cell_lay (o := .cells #[.bool x0, .bool sv, .bool false] 4) k10
        replace hbw := after_lay hbw (.cells #[.bool x0, .bool sv, .bool false] 4)
        generalize w6.alloc (.cells #[.bool x0, .bool sv, .bool false] 4) = w7 at *
        go_loopw [10, 68] (fun o i wr => ∃ k : Nat, k ≤ 3 ∧ i = .int .i64 k ∧ o = .int .i64 (preB x0 sv false k) ∧ w7 = wr) (fun _ i _ => 3 - (intOf i).toNat)
        case atStart => exact ⟨0, by decide, rfl, rfl, rfl⟩
        case round =>
          obtain ⟨k, hk, rfl, rfl, rfl⟩ := hrel
          have hp := preB_in x0 sv false k
          have hwp : IntKind.i64.wrap (preB x0 sv false k + 1) = preB x0 sv false k + 1 := IntWalk.i64_in _ ⟨by omega, by omega⟩
          by_cases hlt : k < 3
          · rcases (show k = 0 ∨ k = 1 ∨ k = 2 by omega) with rfl | rfl | rfl
            · cases x0
              all_goals
                go_wp2_with fail
                go_roundw
                case rel => exact ⟨1, by decide, rfl, by first | rfl | (cases sv <;> rfl), trivial⟩
                case measure => simp [intOf]
            · cases sv
              all_goals
                go_wp2_with fail
                go_roundw
                case rel => exact ⟨2, by decide, rfl, by cases x0 <;> rfl, trivial⟩
                case measure => simp [intOf]
            · go_wp2_with fail
              go_roundw
              case rel => exact ⟨3, by decide, rfl, by cases x0 <;> cases sv <;> rfl, trivial⟩
              case measure => simp [intOf]
          · obtain rfl : k = 3 := by omega
            have f4 := F4.out
            have f5 := F5.out
            have hz : preB x0 sv false 3 = cntB [x0, sv, false] := rfl
            rw [← hz] at f4 f5
            clear hz hp hwp F4 F5
            generalize preB x0 sv false 3 = z at *
            by_cases hx : 0 ≤ x
            · have hx' : x ≥ 0 := hx
              rw [decide_eq_true hx, Bool.true_and] at f5
              have f5' := f5
              rw [beq_iff_eq] at f5'
              go_wp2_with (go_at_call 15; refine (N1.out _).mono ?_; rintro e w8 ⟨rfl, hb8⟩)
              go_ret
              exact ⟨by simp [*], after_next hbw hb8⟩
            · have hx' : ¬ x ≥ 0 := hx
              rw [decide_eq_false hx, Bool.false_and] at f5
              go_wp2_with fail
              go_ret
              exact ⟨by simp_all, hbw⟩
end Go.Proofs.Ytcpbheenmjekdaa
