/- The walk of the law BoundCounts. -/
import Derived.Test.YthnkfhgiiimjfaaCfg
import Derived.Test.YthnkfhgiiimjfaaFine
namespace Go.Proofs.Ythnkfhgiiimjfaa
set_option linter.unusedSimpArgs false
set_option linter.unusedVariables false
open Go.RowKit

theorem prod_in {x y : Int} (h0 : 0 ≤ x) (h1 : x ≤ 3000000) (h2 : 0 ≤ y) (h3 : y ≤ 10000) : 0 ≤ x * y ∧ x * y ≤ 30000000000 := by
  refine ⟨Int.mul_nonneg h0 h2, ?_⟩
  calc x * y ≤ 3000000 * 10000 := Int.mul_le_mul h1 h3 h2 (by decide)
    _ = 30000000000 := by decide

theorem Ticks_any (w : World) (A : Option Addr) (n g : Nat) (c : CfgD) (a b : Int) (ha : 0 ≤ a) (hb : 0 ≤ b) (h : a + b ≤ 2500000) (h2 : 0 ≤ c.long) (h3 : c.long ≤ 10000) :
    Calls Try.prog 14 #[cfV A n g c, .int .i64 a, .int .i64 b] w fun e w' => e = .returned (.int .i64 (1 + (a + b + 2) * c.long)) ∧ Below w.heap.size w w' := by
  have hp := prod_in (x := a + b + 2) (y := c.long) (by omega) (by omega) h2 h3
  have hw1 : IntKind.i64.wrap ((a + b + 2) * c.long) = (a + b + 2) * c.long := IntWalk.i64_in _ ⟨by omega, by omega⟩
  have hw2 : IntKind.i64.wrap (1 + (a + b + 2) * c.long) = 1 + (a + b + 2) * c.long := IntWalk.i64_in _ ⟨by omega, by omega⟩
  have R1 := Lib.hid fun w => Rounds_any w a b ha hb (by omega)
  have R0 := Row.new w 25 #[.slice A n g, .int .i64 c.chain, .int .i64 c.standby, .int .i64 c.clients, .int .i64 c.queue, .int .i64 c.close, .int .i64 c.long, .int .i64 c.again, .int .i64 c.window, .int .u64 (c.round : Int), .int .u64 (c.seq : Int)]
  have hbw := (Below.refl w.heap.size w).alloc (Nat.le_refl _) (.cells #[.slice A n g, .int .i64 c.chain, .int .i64 c.standby, .int .i64 c.clients, .int .i64 c.queue, .int .i64 c.close, .int .i64 c.long, .int .i64 c.again, .int .i64 c.window, .int .u64 (c.round : Int), .int .u64 (c.seq : Int)] 25)
  go_enter Try.func14, Try.ntmps14
  go_wp2_with fail
  generalize w.alloc (.cells #[.slice A n g, .int .i64 c.chain, .int .i64 c.standby, .int .i64 c.clients, .int .i64 c.queue, .int .i64 c.close, .int .i64 c.long, .int .i64 c.again, .int .i64 c.window, .int .u64 (c.round : Int), .int .u64 (c.seq : Int)] 25) = w1 at *
  have k06 := R0.cell 6
  simp at k06
  refine wp_region_S (fun w' => Below w1.heap.size w1 w') (by kernel_rfl) (by kernel_rfl) (by kernel_rfl) (after_draw (Below.refl _ _)) ?_
  dsimp only
  repeat (first
    | ((with_reducible show seqS _ _ _ _ ({ dst := _, op := .call { callee := .value _, args := _, argTypes := _ }, type := _, pos := _, after := _, guard := _ } :: _) _)
       refine seqS.cons (v := ?_) (YieldsS.calledE (by rfl) (fun w hS => ?_)) ?_
       rotate_left
       · refine ⟨?_, ?_, ?_, ?_⟩
         rotate_left 2
         · go_simp
           constructor <;> with_reducible rfl
         first | (with_reducible refine (R1.out w).mono ?_)
         rintro e w' ⟨rfl, rfl⟩
         refine And.intro ?_ hS
         with_reducible rfl
       simp only [Act.put, List.setIfInBounds_toArray, List.set_cons_zero, List.set_cons_succ])
    | (refine seqS.cons (v := ?_) (YieldsS.pure (by rfl) (fun w hS => ?_)) ?_
       rotate_left
       · have q06 := cell_next hS k06
         go_simp
         with_reducible rfl
       simp only [Act.put, List.setIfInBounds_toArray, List.set_cons_zero, List.set_cons_succ])
    | (refine seqS.cons (YieldsS.idle (by rfl)) ?_
       simp only [Act.put, List.setIfInBounds_toArray, List.set_cons_zero, List.set_cons_succ]))
  refine seqS.done (fun w2 hS2 => ?_)
  go_wp2_with fail
  go_ret
  exact ⟨by simp [*], after_next hbw hS2⟩

set_option maxHeartbeats 1600000 in
theorem walk_BoundCounts (W : World) (v0 v1 v2 : Value) (o0 : Opn W 25 v0) (o1 : Opn W 3 v1) (o2 : Opn W 3 v2) :
    Calls Try.prog 5 #[v0, v1, v2] W fun e w' => e = .returned (.bool true) ∧ Below W.heap.size W w' := by
  obtain ⟨A, n, g, s, c, rfl, hs, hg, hfit⟩ := o0.cfg
  obtain ⟨a, rfl, ha⟩ := o1.i64 Try.underlying3
  obtain ⟨b, rfl, hb⟩ := o2.i64 Try.underlying3
  clear o0 o1 o2 hs hg hfit
  by_cases h1 : a < 0 ∨ (¬ a < 0 ∧ b < 0) ∨ (¬ a < 0 ∧ ¬ b < 0 ∧ 1048576 < a) ∨ (¬ a < 0 ∧ ¬ b < 0 ∧ ¬ 1048576 < a ∧ 1048576 < b)
  · rcases h1 with h1 | ⟨h1, h2⟩ | ⟨h1, h2, h3⟩ | ⟨h1, h2, h3, h4⟩
    all_goals
      go_enter Try.func5, Try.ntmps5
      go_wp2_with (go_at_call 7; refine (live22_any _).mono ?_; rintro e w1 ⟨rfl, rfl⟩)
      go_ret
      exact ⟨by simp [*], (Below.refl _ _).alloc (Nat.le_refl _) _⟩
  have ha0 : ¬ a < 0 := by omega
  have hb0 : ¬ b < 0 := by omega
  have ha1 : ¬ 1048576 < a := by omega
  have hb1 : ¬ 1048576 < b := by omega
  clear h1
  have K := Lib.hid fun w => refCfgCheck_any w A n g c
  cases hk : okCfg n c
  · have hc : chkC n c = 1 := by unfold chkC; rw [hk]; rfl
    rw [hc] at K
    go_enter Try.func5, Try.ntmps5
    go_wp2_with (first | (go_at_call 7; refine (live22_any _).mono ?_; rintro e w1 ⟨rfl, rfl⟩) | (go_at_call 12; refine (K.out _).mono ?_; rintro e w2 ⟨rfl, hb2⟩))
    go_ret
    exact ⟨by simp, after_next ((Below.refl _ _).alloc (Nat.le_refl _) _) hb2⟩
  · have hc : chkC n c = 0 := by unfold chkC; rw [hk]; rfl
    rw [hc] at K
    unfold okCfg at hk
    have hk' := of_decide_eq_true hk
    have hl0 : 0 ≤ c.long := by omega
    have hl1 : c.long ≤ 10000 := by omega
    clear hk hk' hc
    have hp := prod_in (x := a + b + 2) (y := c.long) (by omega) (by omega) hl0 hl1
    have R00 := Lib.hid fun w => Rounds_any w a b (by omega) (by omega) (by omega)
    have R10 := Lib.hid fun w => Rounds_any w (a + 1) b (by omega) (by omega) (by omega)
    have R01 := Lib.hid fun w => Rounds_any w a (b + 1) (by omega) (by omega) (by omega)
    have T00 := Lib.hid fun w => Ticks_any w A n g c a b (by omega) (by omega) (by omega) hl0 hl1
    have T10 := Lib.hid fun w => Ticks_any w A n g c (a + 1) b (by omega) (by omega) (by omega) hl0 hl1
    have T01 := Lib.hid fun w => Ticks_any w A n g c a (b + 1) (by omega) (by omega) (by omega) hl0 hl1
    rw [show a + 1 + b + 2 = a + b + 2 + 1 by omega] at R10 T10
    rw [show a + (b + 1) + 2 = a + b + 2 + 1 by omega] at R01 T01
    rw [show 1 + (a + b + 2 + 1) * c.long = 1 + (a + b + 2) * c.long + c.long by rw [Int.add_mul (a + b + 2) 1, Int.one_mul]; omega] at T10 T01
    have wa : IntKind.i64.wrap (a + 1) = a + 1 := IntWalk.i64_in _ ⟨by omega, by omega⟩
    have wb : IntKind.i64.wrap (b + 1) = b + 1 := IntWalk.i64_in _ ⟨by omega, by omega⟩
    have hn2 : 2 ≤ a + b + 2 := by omega
    have wn : IntKind.i64.wrap (a + b + 2 + 1) = a + b + 2 + 1 := IntWalk.i64_in _ ⟨by omega, by omega⟩
    have wt : IntKind.i64.wrap (1 + (a + b + 2) * c.long + c.long) = 1 + (a + b + 2) * c.long + c.long := IntWalk.i64_in _ ⟨by omega, by omega⟩
    have wp : IntKind.i64.wrap ((a + b + 2) * c.long) = (a + b + 2) * c.long := IntWalk.i64_in _ ⟨by omega, by omega⟩
    have wq : IntKind.i64.wrap (1 + (a + b + 2) * c.long) = 1 + (a + b + 2) * c.long := IntWalk.i64_in _ ⟨by omega, by omega⟩
    generalize hx : a + b + 2 = x at *
    generalize ht : 1 + x * c.long = t at *
    have ht' : (t == 1 + x * c.long) = true := by rw [ht]; simp
    have hxn : x ≥ 2 := hn2
    clear hx hp hl0 hl1
    go_enter Try.func5, Try.ntmps5
    have R0 := Row.new W 25 #[.slice A n g, .int .i64 c.chain, .int .i64 c.standby, .int .i64 c.clients, .int .i64 c.queue, .int .i64 c.close, .int .i64 c.long, .int .i64 c.again, .int .i64 c.window, .int .u64 (c.round : Int), .int .u64 (c.seq : Int)]
    have hbw := (Below.refl W.heap.size W).alloc (Nat.le_refl _) (.cells #[.slice A n g, .int .i64 c.chain, .int .i64 c.standby, .int .i64 c.clients, .int .i64 c.queue, .int .i64 c.close, .int .i64 c.long, .int .i64 c.again, .int .i64 c.window, .int .u64 (c.round : Int), .int .u64 (c.seq : Int)] 25)
    go_wp2_with (first | (go_at_call 7; refine (live22_any _).mono ?_; rintro e w1 ⟨rfl, rfl⟩) | (go_at_call 12; refine (K.out _).mono ?_; rintro e w2 ⟨rfl, hb2⟩; replace R0 := R0.below hb2 (by simp); replace hbw := after_next hbw hb2; clear hb2; have k00 := R0.cell 0; have k01 := R0.cell 1; have k02 := R0.cell 2; have k03 := R0.cell 3; have k04 := R0.cell 4; have k05 := R0.cell 5; have k06 := R0.cell 6; have k07 := R0.cell 7; have k08 := R0.cell 8; have k09 := R0.cell 9; have k10 := R0.cell 10; simp at k00 k01 k02 k03 k04 k05 k06 k07 k08 k09 k10) | (go_at_call 13; with_reducible refine (R00.out _).mono ?_; rintro e w3 ⟨rfl, rfl⟩))
    refine (T00.out _).mono ?_
    rintro e w4 ⟨rfl, hb4⟩
    replace k00 := cell_next hb4 k00
    replace k01 := cell_next hb4 k01
    replace k02 := cell_next hb4 k02
    replace k03 := cell_next hb4 k03
    replace k04 := cell_next hb4 k04
    replace k05 := cell_next hb4 k05
    replace k06 := cell_next hb4 k06
    replace k07 := cell_next hb4 k07
    replace k08 := cell_next hb4 k08
    replace k09 := cell_next hb4 k09
    replace k10 := cell_next hb4 k10
    replace hbw := after_next hbw hb4
    go_wp2_with fail
    refine wp_region_S (fun w' => Below w4.heap.size w4 w') (by kernel_rfl) (by kernel_rfl) (by kernel_rfl) (after_draw (Below.refl _ _)) ?_
    dsimp only
    repeat (first
      | ((with_reducible show seqS _ _ _ _ ({ dst := _, op := .call { callee := .value _, args := _, argTypes := _ }, type := _, pos := _, after := _, guard := _ } :: _) _)
         refine seqS.cons (v := ?_) (YieldsS.calledE (by rfl) (fun w hS => ?_)) ?_
         rotate_left
         · refine ⟨?_, ?_, ?_, ?_⟩
           rotate_left 2
           · go_simp
             constructor <;> with_reducible rfl
           first | (with_reducible refine (R10.out w).mono ?_) | (with_reducible refine (R01.out w).mono ?_) | (with_reducible refine (T10.out w).mono ?_) | (with_reducible refine (T01.out w).mono ?_)
           rintro e w' ⟨rfl, hb⟩
           replace hb : Below w.heap.size w w' := by first | exact hb | exact hb ▸ Below.refl _ _
           refine And.intro ?_ (after_next hS hb)
           with_reducible rfl
         simp only [Act.put, List.setIfInBounds_toArray, List.set_cons_zero, List.set_cons_succ])
      | (refine seqS.cons (v := ?_) (YieldsS.pure (by rfl) (fun w hS => ?_)) ?_
         rotate_left
         · have q00 := cell_next hS k00
           have q01 := cell_next hS k01
           have q02 := cell_next hS k02
           have q03 := cell_next hS k03
           have q04 := cell_next hS k04
           have q05 := cell_next hS k05
           have q06 := cell_next hS k06
           have q07 := cell_next hS k07
           have q08 := cell_next hS k08
           have q09 := cell_next hS k09
           have q10 := cell_next hS k10
           go_simp
           with_reducible rfl
         simp only [Act.put, List.setIfInBounds_toArray, List.set_cons_zero, List.set_cons_succ])
      | (refine seqS.cons (YieldsS.idle (by rfl)) ?_
         simp only [Act.put, List.setIfInBounds_toArray, List.set_cons_zero, List.set_cons_succ]))
    refine seqS.done (fun w5 hS5 => ?_)
    go_wp2_with fail
    go_ret
    exact ⟨by simp, after_next hbw hS5⟩
end Go.Proofs.Ythnkfhgiiimjfaa
