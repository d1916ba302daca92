/- The walk of the law KeyNodes. -/
import Derived.Test.YtcpbheenmjekdaaLive07
namespace Go.Proofs.Ytcpbheenmjekdaa
set_option linter.unusedSimpArgs false
set_option linter.unusedVariables false
open Go.RowKit

set_option maxHeartbeats 1600000 in
theorem walk_KeyNodes (W : World) (v0 v1 : Value) (o0 : Opn W 25 v0) (o1 : Opn W 3 v1) :
    Calls Try.prog 4 #[v0, v1] W fun e w' => e = .returned (.bool true) ∧ Below W.heap.size W w' := by
  obtain ⟨A, n, g, s, c, rfl, hs, hg, hfit⟩ := o0.cfg
  obtain ⟨x, rfl, hx⟩ := o1.i64 Try.underlying3
  clear o0 o1 hs hg hfit hx
  have K := Lib.hid fun w => refCfgCheck_any w A n g c
  cases hk : okCfg n c
  · have hc : chkC n c = 1 := by unfold chkC; rw [hk]; rfl
    rw [hc] at K
    go_enter Try.func4, Try.ntmps4
    go_wp2_with (go_at_call 7; refine (live07_any _).mono ?_; rintro e w1 ⟨rfl, hb1⟩; simp only [World.size_alloc] at hb1; obtain ⟨R0, hbw⟩ := box1 hb1; have k00 := R0.cell 0; have k01 := R0.cell 1; have k02 := R0.cell 2; have k03 := R0.cell 3; have k04 := R0.cell 4; have k05 := R0.cell 5; have k06 := R0.cell 6; have k07 := R0.cell 7; have k08 := R0.cell 8; have k09 := R0.cell 9; have k10 := R0.cell 10; simp at k00 k01 k02 k03 k04 k05 k06 k07 k08 k09 k10)
    refine (K.out _).mono ?_
    rintro e w2 ⟨rfl, hb2⟩
    go_wp2_with fail
    go_ret
    exact ⟨by simp, after_next hbw hb2⟩
  · have hc : chkC n c = 0 := by unfold chkC; rw [hk]; rfl
    rw [hc] at K
    have hsm := okCfg_small hk
    have C1 := Lib.hid fun w => keyClient_any w A n g c hsm x
    have C2 := Lib.hid fun w => refClient_any w A n g c hsm x
    have N1 := Lib.hid fun w => keyNodes_any w A n g c hsm
    have N2 := Lib.hid fun w => refNodes_any w A n g c hsm
    have S1 := Lib.hid fun w => keyServer_any w A n g c hsm x
    have S2 := Lib.hid fun w => refServer_any w A n g c hsm x
    have D1 := Lib.hid fun w => keyNode_any w A n g c hsm x
    have D2 := Lib.hid fun w => refNode_any w A n g c hsm x
    generalize clientC c x = cl at C1 C2
    obtain ⟨cl1, cl2⟩ := cl
    generalize nodesC c = nd at N1 N2
    generalize inB x 1 (c.chain + c.standby) = sv at S1 S2
    generalize nodeC c x = no at D1 D2
    clear hk hc hsm
    go_enter Try.func4, Try.ntmps4
    go_wp2_with (go_at_call 7; refine (live07_any _).mono ?_; rintro e w1 ⟨rfl, hb1⟩; simp only [World.size_alloc] at hb1; obtain ⟨R0, hbw⟩ := box1 hb1; have k00 := R0.cell 0; have k01 := R0.cell 1; have k02 := R0.cell 2; have k03 := R0.cell 3; have k04 := R0.cell 4; have k05 := R0.cell 5; have k06 := R0.cell 6; have k07 := R0.cell 7; have k08 := R0.cell 8; have k09 := R0.cell 9; have k10 := R0.cell 10; simp at k00 k01 k02 k03 k04 k05 k06 k07 k08 k09 k10)
    refine (K.out _).mono ?_
    rintro e w2 ⟨rfl, hb2⟩
    replace k00 := cell_next hb2 k00
    replace k01 := cell_next hb2 k01
    replace k02 := cell_next hb2 k02
    replace k03 := cell_next hb2 k03
    replace k04 := cell_next hb2 k04
    replace k05 := cell_next hb2 k05
    replace k06 := cell_next hb2 k06
    replace k07 := cell_next hb2 k07
    replace k08 := cell_next hb2 k08
    replace k09 := cell_next hb2 k09
    replace k10 := cell_next hb2 k10
    replace hbw := after_next hbw hb2
    go_wp2_with fail
    refine (C1.out _).mono ?_
    rintro e w3 ⟨rfl, hb3⟩
    replace k00 := cell_next hb3 k00
    replace k01 := cell_next hb3 k01
    replace k02 := cell_next hb3 k02
    replace k03 := cell_next hb3 k03
    replace k04 := cell_next hb3 k04
    replace k05 := cell_next hb3 k05
    replace k06 := cell_next hb3 k06
    replace k07 := cell_next hb3 k07
    replace k08 := cell_next hb3 k08
    replace k09 := cell_next hb3 k09
    replace k10 := cell_next hb3 k10
    replace hbw := after_next hbw hb3
    go_wp2_with fail
    refine (C2.out _).mono ?_
    rintro e w4 ⟨rfl, hb4⟩
    replace k00 := cell_next hb4 k00
    replace k01 := cell_next hb4 k01
    replace k02 := cell_next hb4 k02
    replace k03 := cell_next hb4 k03
    replace k04 := cell_next hb4 k04
    replace k05 := cell_next hb4 k05
    replace k06 := cell_next hb4 k06
    replace k07 := cell_next hb4 k07
    replace k08 := cell_next hb4 k08
    replace k09 := cell_next hb4 k09
    replace k10 := cell_next hb4 k10
    replace hbw := after_next hbw hb4
    go_wp2_with fail
    refine wp_region_S (fun w' => Below w4.heap.size w4 w') (by kernel_rfl) (by kernel_rfl) (by kernel_rfl) (after_draw (Below.refl _ _)) ?_
    dsimp only
    repeat (first
      | ((with_reducible show seqS _ _ _ _ ({ dst := _, op := .call { callee := .value _, args := _, argTypes := _ }, type := _, pos := _, after := _, guard := _ } :: _) _)
         refine seqS.cons (v := ?_) (YieldsS.calledE (by rfl) (fun w hS => ?_)) ?_
         rotate_left
         · refine ⟨?_, ?_, ?_, ?_⟩
           rotate_left 2
           · go_simp
             constructor <;> with_reducible rfl
           first | (with_reducible refine (N1.out w).mono ?_) | (with_reducible refine (N2.out w).mono ?_) | (with_reducible refine (S1.out w).mono ?_) | (with_reducible refine (S2.out w).mono ?_) | (with_reducible refine (D1.out w).mono ?_) | (with_reducible refine (D2.out w).mono ?_)
           rintro e w' ⟨rfl, hb⟩
           refine And.intro ?_ (after_next hS hb)
           with_reducible rfl
         simp only [Act.put, List.setIfInBounds_toArray, List.set_cons_zero, List.set_cons_succ])
      | (refine seqS.cons (v := ?_) (YieldsS.pure (by rfl) (fun w hS => ?_)) ?_
         rotate_left
         · have q00 := cell_next hS k00
           have q01 := cell_next hS k01
           have q02 := cell_next hS k02
           have q03 := cell_next hS k03
           have q04 := cell_next hS k04
           have q05 := cell_next hS k05
           have q06 := cell_next hS k06
           have q07 := cell_next hS k07
           have q08 := cell_next hS k08
           have q09 := cell_next hS k09
           have q10 := cell_next hS k10
           go_simp
           with_reducible rfl
         simp only [Act.put, List.setIfInBounds_toArray, List.set_cons_zero, List.set_cons_succ])
      | (refine seqS.cons (YieldsS.idle (by rfl)) ?_
         simp only [Act.put, List.setIfInBounds_toArray, List.set_cons_zero, List.set_cons_succ]))
    refine seqS.done (fun w5 hS5 => ?_)
    go_wp2_with fail
    go_ret
    exact ⟨by simp, after_next hbw hS5⟩
end Go.Proofs.Ytcpbheenmjekdaa
