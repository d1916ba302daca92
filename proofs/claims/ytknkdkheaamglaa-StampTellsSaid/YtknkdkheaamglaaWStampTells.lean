/- The walk of the law StampTells. -/
import Derived.Test.YtknkdkheaamglaaOpenStamp
import Derived.Test.YtknkdkheaamglaaLive04
import Derived.Test.YtknkdkheaamglaaStampR
namespace Go.Proofs.Ytknkdkheaamglaa
set_option linter.unusedSimpArgs false
set_option linter.unusedVariables false
open Go.RowKit

set_option maxHeartbeats 1600000 in
theorem walk_StampTells (W : World) (v0 v1 : Value) (o0 : Opn W 25 v0) (o1 : Opn W 25 v1) :
    Calls Try.prog 3 #[v0, v1] W fun e w' => e = .returned (.bool true) ∧ Below W.heap.size W w' := by
  obtain ⟨e0, r0, A0, n0, c0, l0, rfl, he0, hr0, hs0, hn0⟩ := o0.stamp
  obtain ⟨e1, r1, A1, n1, c1, l1, rfl, he1, hr1, hs1, hn1⟩ := o1.stamp
  clear o0 o1
  by_cases hsh : n0 ≤ 60 ∧ n1 ≤ 60
  · have HSH : Hid (decide (n0 ≤ 60 ∧ n1 ≤ 60) = true) := Lib.hid (decide_eq_true hsh)
    have K1 := Lib.hid fun w (hb : Below W.heap.size W w) => stampCheck_any w _ e0 r0 n0 c0 A0 l0 (hs0.below hb) hb.size (by omega)
    have K2 := Lib.hid fun w (hb : Below W.heap.size W w) => refCheck_any w _ e0 r0 n0 c0 A0 l0 (hs0.below hb) hb.size (by omega)
    have C1 := Lib.hid fun w => Compare_any w e0 r0 e1 r1 n0 c0 n1 c1 A0 A1
    have C2 := Lib.hid fun w => refCompare_any w e0 r0 e1 r1 n0 c0 n1 c1 A0 A1
    have M1 := Lib.hid fun w (hb : Below W.heap.size W w) => stampSame_any w _ _ e0 r0 e1 r1 n0 c0 n1 c1 A0 A1 l0 l1 (hs0.below hb) (hs1.below hb) hb.size hb.size (by omega)
    have M2 := Lib.hid fun w (hb : Below W.heap.size W w) => refStampSame_any w _ _ e0 r0 e1 r1 n0 c0 n1 c1 A0 A1 l0 l1 (hs0.below hb) (hs1.below hb) hb.size hb.size (by omega)
    have P1 := Lib.hid fun w (hb : Below W.heap.size W w) => stampPut_any w _ e0 r0 n0 c0 A0 l0 (hs0.below hb) hb.size (by omega) he0 hr0
    have P2 := Lib.hid fun w (hb : Below W.heap.size W w) => refStampPut_any w _ e0 r0 n0 c0 A0 l0 (hs0.below hb) hb.size (by omega) he0 hr0
    generalize putStS e0 r0 l0 = pr at P1 P2
    obtain ⟨b, err⟩ := pr
    generalize chkS l0 = ch at K1 K2
    generalize cmpS e0 r0 e1 r1 = cm at C1 C2
    generalize sameS e0 r0 l0 e1 r1 l1 = sm at M1 M2
    clear hsh hs0 hs1 he0 hr0 he1 hr1 hn0 hn1
    go_enter Try.func3, Try.ntmps3
    go_wp2_with (go_at_call 9; refine (live_any _).mono ?_; rintro e w1 ⟨rfl, hb1⟩; simp only [World.size_alloc] at hb1; obtain ⟨R0, R1, hbw⟩ := box2 hb1; have k00 := R0.cell 0; have k01 := R0.cell 1; have k02 := R0.cell 2; have k10 := R1.cell 0; have k11 := R1.cell 1; have k12 := R1.cell 2; simp at k00 k01 k02 k10 k11 k12)
    refine (short2_any _ _ _ _ _ _ _ _ _ _ _).mono ?_
    rw [HSH.out]
    rintro e w2 ⟨rfl, hb2⟩
    replace k00 := cell_next hb2 k00
    replace k01 := cell_next hb2 k01
    replace k02 := cell_next hb2 k02
    replace k10 := cell_next hb2 k10
    replace k11 := cell_next hb2 k11
    replace k12 := cell_next hb2 k12
    replace hbw := after_next hbw hb2
    clear R0 R1 hb1 hb2
    go_wp2_with fail
    refine (P1.out _ hbw).mono ?_
    intro x w3 ht
    obtain ⟨A3, g3, rfl, ho3, hb3⟩ := ht.pair
    clear ht
    replace k00 := cell_next hb3 k00
    replace k01 := cell_next hb3 k01
    replace k02 := cell_next hb3 k02
    replace k10 := cell_next hb3 k10
    replace k11 := cell_next hb3 k11
    replace k12 := cell_next hb3 k12
    replace hbw := after_next hbw hb3
    go_wp2_with fail
    refine (P2.out _ hbw).mono ?_
    intro x w4 ht
    obtain ⟨A4, g4, rfl, ho4, hb4⟩ := ht.pair
    clear ht
    replace k00 := cell_next hb4 k00
    replace k01 := cell_next hb4 k01
    replace k02 := cell_next hb4 k02
    replace k10 := cell_next hb4 k10
    replace k11 := cell_next hb4 k11
    replace k12 := cell_next hb4 k12
    replace hbw := after_next hbw hb4
    have s3 := ho3.sl.next hb4
    have s4 := ho4.sl
    have SM : Hid (∀ w, Below w4.heap.size w4 w → Calls Try.prog 19 #[.slice A3 b.length g3, .slice A4 b.length g4] w fun e w' => e = .returned (.bool true) ∧ Below w.heap.size w w') := Lib.hid (fun w hb => (Same_any w _ _ _ _ _ _ _ _ _ _ (s3.below hb) (s4.below hb)).mono (fun e w' h => by
      obtain ⟨h1, h2⟩ := h
      subst h2
      exact ⟨by rw [h1]; simp, Below.refl _ _⟩))
    go_wp2_with fail
    refine wp_region_S (fun w' => Below w4.heap.size w4 w') (by kernel_rfl) (by kernel_rfl) (by kernel_rfl) (after_draw (Below.refl _ _)) ?_
    dsimp only
    repeat (first
      | ((with_reducible show seqS _ _ _ _ ({ dst := _, op := .call { callee := .value _, args := _, argTypes := _ }, type := _, pos := _, after := _, guard := _ } :: _) _)
         refine seqS.cons (v := ?_) (YieldsS.calledE (by rfl) (fun w hS => ?_)) ?_
         rotate_left
         · refine ⟨?_, ?_, ?_, ?_⟩
           rotate_left 2
           · go_simp
             constructor <;> with_reducible rfl
           first | (with_reducible refine (K1.out w (after_next hbw hS)).mono ?_) | (with_reducible refine (K2.out w (after_next hbw hS)).mono ?_) | (with_reducible refine (C1.out w).mono ?_) | (with_reducible refine (C2.out w).mono ?_) | (with_reducible refine (M1.out w (after_next hbw hS)).mono ?_) | (with_reducible refine (M2.out w (after_next hbw hS)).mono ?_) | (with_reducible refine (SM.out w hS).mono ?_)
           rintro e w' ⟨rfl, hb⟩
           refine And.intro ?_ (after_next hS hb)
           with_reducible rfl
         simp only [Act.put, List.setIfInBounds_toArray, List.set_cons_zero, List.set_cons_succ])
      | (refine seqS.cons (v := ?_) (YieldsS.pure (by rfl) (fun w hS => ?_)) ?_
         rotate_left
         · have q00 := cell_next hS k00
           have q01 := cell_next hS k01
           have q02 := cell_next hS k02
           have q10 := cell_next hS k10
           have q11 := cell_next hS k11
           have q12 := cell_next hS k12
           go_simp
           with_reducible rfl
         simp only [Act.put, List.setIfInBounds_toArray, List.set_cons_zero, List.set_cons_succ])
      | (refine seqS.cons (YieldsS.idle (by rfl)) ?_
         simp only [Act.put, List.setIfInBounds_toArray, List.set_cons_zero, List.set_cons_succ]))
    refine seqS.done (fun w5 hS5 => ?_)
    go_wp2_with fail
    go_ret
    exact ⟨by simp, after_next hbw hS5⟩
  · have HSH : Hid (decide (n0 ≤ 60 ∧ n1 ≤ 60) = false) := Lib.hid (decide_eq_false hsh)
    clear hsh
    go_enter Try.func3, Try.ntmps3
    go_wp2_with (go_at_call 9; refine (live_any _).mono ?_; rintro e w1 ⟨rfl, hb1⟩; simp only [World.size_alloc] at hb1; obtain ⟨R0, R1, hbw⟩ := box2 hb1; have k00 := R0.cell 0; have k01 := R0.cell 1; have k02 := R0.cell 2; have k10 := R1.cell 0; have k11 := R1.cell 1; have k12 := R1.cell 2; simp at k00 k01 k02 k10 k11 k12)
    refine (short2_any _ _ _ _ _ _ _ _ _ _ _).mono ?_
    rw [HSH.out]
    rintro e w2 ⟨rfl, hb2⟩
    go_wp2_with fail
    go_ret
    exact ⟨rfl, after_next hbw hb2⟩
end Go.Proofs.Ytknkdkheaamglaa
