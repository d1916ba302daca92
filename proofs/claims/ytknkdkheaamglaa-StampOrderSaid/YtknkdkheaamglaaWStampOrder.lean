/- The walk of the law StampOrder. -/
import Derived.Test.YtknkdkheaamglaaOpenStamp
import Derived.Test.YtknkdkheaamglaaLive04
import Derived.Test.YtknkdkheaamglaaReg
namespace Go.Proofs.Ytknkdkheaamglaa
set_option linter.unusedSimpArgs false
set_option linter.unusedVariables false
open Go.RowKit

theorem cmpS_neg (e r e' r' : Nat) : cmpS e r e' r' = -cmpS e' r' e r := by
  unfold cmpS cmpN
  split <;> split <;> (try omega) <;> (repeat' split) <;> omega

theorem cmpS_range (e r e' r' : Nat) : -1 ≤ cmpS e r e' r' ∧ cmpS e r e' r' ≤ 1 := by
  unfold cmpS cmpN
  split <;> (repeat' split) <;> omega

set_option maxHeartbeats 1600000 in
theorem walk_StampOrder (W : World) (v0 v1 v2 : Value) (o0 : Opn W 25 v0) (o1 : Opn W 25 v1) (o2 : Opn W 25 v2) :
    Calls Try.prog 6 #[v0, v1, v2] W fun e w' => e = .returned (.bool true) ∧ Below W.heap.size W w' := by
  obtain ⟨e0, r0, A0, n0, c0, l0, rfl, he0, hr0, hs0, hn0⟩ := o0.stamp
  obtain ⟨e1, r1, A1, n1, c1, l1, rfl, he1, hr1, hs1, hn1⟩ := o1.stamp
  obtain ⟨e2, r2, A2, n2, c2, l2, rfl, he2, hr2, hs2, hn2⟩ := o2.stamp
  by_cases hsh : n0 ≤ 60 ∧ n1 ≤ 60 ∧ n2 ≤ 60
  · have HSH : Hid (decide (n0 ≤ 60 ∧ n1 ≤ 60 ∧ n2 ≤ 60) = true) := Lib.hid (decide_eq_true hsh)
    have C01 := Lib.hid fun w => Compare_any w e0 r0 e1 r1 n0 c0 n1 c1 A0 A1
    have C10 := Lib.hid fun w => Compare_any w e1 r1 e0 r0 n1 c1 n0 c0 A1 A0
    have C12 := Lib.hid fun w => Compare_any w e1 r1 e2 r2 n1 c1 n2 c2 A1 A2
    have C02 := Lib.hid fun w => Compare_any w e0 r0 e2 r2 n0 c0 n2 c2 A0 A2
    have S01 := Lib.hid fun w (hb : Below W.heap.size W w) => stampSame_any w _ _ e0 r0 e1 r1 n0 c0 n1 c1 A0 A1 l0 l1 (hs0.below hb) (hs1.below hb) hb.size hb.size (by omega)
    have S10 := Lib.hid fun w (hb : Below W.heap.size W w) => stampSame_any w _ _ e1 r1 e0 r0 n1 c1 n0 c0 A1 A0 l1 l0 (hs1.below hb) (hs0.below hb) hb.size hb.size (by omega)
    have S00 := Lib.hid fun w (hb : Below W.heap.size W w) => stampSame_any w _ _ e0 r0 e0 r0 n0 c0 n0 c0 A0 A0 l0 l0 (hs0.below hb) (hs0.below hb) hb.size hb.size (by omega)
    have f1 : cmpS e0 r0 e1 r1 = -cmpS e1 r1 e0 r0 := cmpS_neg _ _ _ _
    have f2 : ∃ p q u : Bool, ((e0 : Int) == (e1 : Int)) = p ∧ (p = true → ((r0 : Int) == (r1 : Int)) = q) ∧ (cmpS e0 r0 e1 r1 == 0) = (p && q) ∧ (cmpS e0 r0 e1 r1 != 0) = !(p && q) ∧ sameS e0 r0 l0 e1 r1 l1 = u ∧ sameS e1 r1 l1 e0 r0 l0 = u ∧ (u = true → p = true ∧ q = true) := by
      refine ⟨_, _, _, rfl, fun _ => rfl, ?_, ?_, rfl, ?_, ?_⟩
      · rw [Bool.eq_iff_iff, beq_iff_eq, cmpS_zero, Bool.and_eq_true, beq_iff_eq, beq_iff_eq]; omega
      · rw [Bool.eq_iff_iff, bne_iff_ne, ne_eq, cmpS_zero, Bool.not_eq_true', ← Bool.not_eq_true, Bool.and_eq_true, beq_iff_eq, beq_iff_eq]; omega
      · unfold sameS; congr 1; rw [eq_iff_iff]; constructor <;> (rintro ⟨h1, h2, h3⟩; exact ⟨h1.symm, h2.symm, h3.symm⟩)
      · intro h
        unfold sameS at h
        have := of_decide_eq_true h
        rw [beq_iff_eq, beq_iff_eq]; omega
    have fw : IntKind.i64.wrap (-cmpS e1 r1 e0 r0) = -cmpS e1 r1 e0 r0 := by
      have := cmpS_range e1 r1 e0 r0
      exact IntWalk.i64_in _ ⟨by omega, by omega⟩
    have f3 : cmpS e0 r0 e1 r1 ≤ 0 → cmpS e1 r1 e2 r2 ≤ 0 → cmpS e0 r0 e2 r2 ≤ 0 := by
      unfold cmpS cmpN
      split <;> split <;> (try omega) <;> (repeat' split) <;> omega
    have f4 : sameS e0 r0 l0 e0 r0 l0 = true := by unfold sameS; exact decide_eq_true ⟨rfl, rfl, rfl⟩
    obtain ⟨p, q, u, fp, fq, fz, fnz, fu, fv, fpq⟩ := f2
    rw [f4] at S00
    rw [fu] at S01
    rw [fv] at S10
    clear hs0 hs1 hs2 o0 o1 o2 he0 hr0 he1 hr1 he2 hr2 hn0 hn1 hn2 fu fv f4
    generalize cmpS e0 r0 e1 r1 = x01 at C01 f1 fz fnz f3
    generalize cmpS e1 r1 e0 r0 = x10 at C10 f1 fw
    generalize cmpS e1 r1 e2 r2 = x12 at C12 f3
    generalize cmpS e0 r0 e2 r2 = x02 at C02 f3
    clear hsh
    have f1' : (x01 != -x10) = false := by rw [f1]; simp
    have F3 := Lib.hid f3
    have FQ := Lib.hid fq
    have FPQ := Lib.hid fpq
    clear f1 f3 fq fpq
    go_enter Try.func6, Try.ntmps6
    go_wp2_with (go_at_call 9; refine (live_any _).mono ?_; rintro e w1 ⟨rfl, hb1⟩; simp only [World.size_alloc] at hb1; obtain ⟨R0, R1, R2, hbw⟩ := box3 hb1; have k00 := R0.cell 0; have k01 := R0.cell 1; have k02 := R0.cell 2; have k10 := R1.cell 0; have k11 := R1.cell 1; have k12 := R1.cell 2; have k20 := R2.cell 0; have k21 := R2.cell 1; have k22 := R2.cell 2; simp at k00 k01 k02 k10 k11 k12 k20 k21 k22)
    refine (short3_any _ _ _ _ _ _ _ _ _ _ _ _ _ _ _ _).mono ?_
    rw [HSH.out]
    rintro e w2 ⟨rfl, hb2⟩
    replace k00 := cell_next hb2 k00
    replace k01 := cell_next hb2 k01
    replace k02 := cell_next hb2 k02
    replace k10 := cell_next hb2 k10
    replace k11 := cell_next hb2 k11
    replace k12 := cell_next hb2 k12
    replace k20 := cell_next hb2 k20
    replace k21 := cell_next hb2 k21
    replace k22 := cell_next hb2 k22
    replace hbw := after_next hbw hb2
    clear R0 R1 R2 hb1 hb2
    go_wp2_with fail
    have hq : ∃ q', ((r0 : Int) == (r1 : Int)) = q' ∧ (p = true → q' = q) := ⟨_, rfl, FQ.out⟩
    obtain ⟨q', fq, fqq⟩ := hq
    have FQQ := Lib.hid fqq
    clear fqq
    have hcase : (p = false ∧ u = false) ∨ (p = true ∧ q = false ∧ q' = false ∧ u = false) ∨ (p = true ∧ q = true ∧ q' = true) := by
      rcases p with _ | _
      · refine .inl ⟨rfl, ?_⟩
        rcases u with _ | _
        · rfl
        · exact absurd (FPQ.out rfl).1 (by decide)
      · rcases q with _ | _
        · refine .inr (.inl ⟨rfl, rfl, FQQ.out rfl, ?_⟩)
          rcases u with _ | _
          · rfl
          · exact absurd (FPQ.out rfl).2 (by decide)
        · exact .inr (.inr ⟨rfl, rfl, FQQ.out rfl⟩)
    have fend : (0 < x01) ∨ (¬ 0 < x01 ∧ 0 < x12) ∨ (¬ 0 < x01 ∧ ¬ 0 < x12 ∧ x02 ≤ 0) := by
      by_cases h1 : 0 < x01
      · exact .inl h1
      · by_cases h2 : 0 < x12
        · exact .inr (.inl ⟨h1, h2⟩)
        · exact .inr (.inr ⟨h1, h2, F3.out (by omega) (by omega)⟩)
    have FEND := Lib.hid fend
    clear fend
    rcases hcase with ⟨rfl, rfl⟩ | ⟨rfl, rfl, rfl, rfl⟩ | ⟨rfl, rfl, rfl⟩
    all_goals first | (replace fz : (x01 == 0) = false := fz; replace fnz : (x01 != 0) = true := fnz) | (replace fz : (x01 == 0) = true := fz; replace fnz : (x01 != 0) = false := fnz)
    · refine wp_region_S (fun w' => Below w2.heap.size w2 w') (by kernel_rfl) (by kernel_rfl) (by kernel_rfl) (after_draw (Below.refl _ _)) ?_
      dsimp only
      repeat (first
        | ((with_reducible show seqS _ _ _ _ ({ dst := _, op := .call { callee := .value _, args := _, argTypes := _ }, type := _, pos := _, after := _, guard := _ } :: _) _)
           refine seqS.cons (v := ?_) (YieldsS.calledE (by rfl) (fun w hS => ?_)) ?_
           rotate_left
           · refine ⟨?_, ?_, ?_, ?_⟩
             rotate_left 2
             · go_simp
               constructor <;> with_reducible rfl
             first | (with_reducible refine (C01.out w).mono ?_) | (with_reducible refine (C10.out w).mono ?_)
             rintro e w' ⟨rfl, hb⟩
             refine And.intro ?_ (after_next hS hb)
             with_reducible rfl
           simp only [Act.put, List.setIfInBounds_toArray, List.set_cons_zero, List.set_cons_succ])
        | (refine seqS.cons (v := ?_) (YieldsS.pure (by rfl) (fun w hS => ?_)) ?_
           rotate_left
           · have q00 := cell_next hS k00
             have q01 := cell_next hS k01
             have q02 := cell_next hS k02
             have q10 := cell_next hS k10
             have q11 := cell_next hS k11
             have q12 := cell_next hS k12
             go_simp
             with_reducible rfl
           simp only [Act.put, List.setIfInBounds_toArray, List.set_cons_zero, List.set_cons_succ])
        | (refine seqS.cons (YieldsS.idle (by rfl)) ?_
           simp only [Act.put, List.setIfInBounds_toArray, List.set_cons_zero, List.set_cons_succ]))
      refine seqS.done (fun w3 hS3 => ?_)
      replace k00 := cell_next hS3 k00
      replace k01 := cell_next hS3 k01
      replace k02 := cell_next hS3 k02
      replace k10 := cell_next hS3 k10
      replace k11 := cell_next hS3 k11
      replace k12 := cell_next hS3 k12
      replace k20 := cell_next hS3 k20
      replace k21 := cell_next hS3 k21
      replace k22 := cell_next hS3 k22
      replace hbw := after_next hbw hS3
      clear hS3
      go_wp2_with fail
      refine wp_region_S (fun w' => Below w3.heap.size w3 w') (by kernel_rfl) (by kernel_rfl) (by kernel_rfl) (after_draw (Below.refl _ _)) ?_
      dsimp only
      repeat (first
        | ((with_reducible show seqS _ _ _ _ ({ dst := _, op := .call { callee := .value _, args := _, argTypes := _ }, type := _, pos := _, after := _, guard := _ } :: _) _)
           refine seqS.cons (v := ?_) (YieldsS.calledE (by rfl) (fun w hS => ?_)) ?_
           rotate_left
           · refine ⟨?_, ?_, ?_, ?_⟩
             rotate_left 2
             · go_simp
               constructor <;> with_reducible rfl
             first | (with_reducible refine (C01.out w).mono ?_) | (with_reducible refine (S01.out w (after_next hbw hS)).mono ?_) | (with_reducible refine (S10.out w (after_next hbw hS)).mono ?_) | (with_reducible refine (S00.out w (after_next hbw hS)).mono ?_)
             rintro e w' ⟨rfl, hb⟩
             refine And.intro ?_ (after_next hS hb)
             with_reducible rfl
           simp only [Act.put, List.setIfInBounds_toArray, List.set_cons_zero, List.set_cons_succ])
        | (refine seqS.cons (v := ?_) (YieldsS.pure (by rfl) (fun w hS => ?_)) ?_
           rotate_left
           · have q00 := cell_next hS k00
             have q01 := cell_next hS k01
             have q02 := cell_next hS k02
             have q10 := cell_next hS k10
             have q11 := cell_next hS k11
             have q12 := cell_next hS k12
             go_simp
             with_reducible rfl
           simp only [Act.put, List.setIfInBounds_toArray, List.set_cons_zero, List.set_cons_succ])
        | (refine seqS.cons (YieldsS.idle (by rfl)) ?_
           simp only [Act.put, List.setIfInBounds_toArray, List.set_cons_zero, List.set_cons_succ]))
      refine seqS.done (fun w4 hS4 => ?_)
      replace k00 := cell_next hS4 k00
      replace k01 := cell_next hS4 k01
      replace k02 := cell_next hS4 k02
      replace k10 := cell_next hS4 k10
      replace k11 := cell_next hS4 k11
      replace k12 := cell_next hS4 k12
      replace k20 := cell_next hS4 k20
      replace k21 := cell_next hS4 k21
      replace k22 := cell_next hS4 k22
      replace hbw := after_next hbw hS4
      clear hS4
      rcases FEND.out with h1 | ⟨h1, h2⟩ | ⟨h1, h2, h3⟩
      all_goals
        go_wp2_with (go_at_call 15; first | (with_reducible refine (C01.out _).mono ?_; rintro e w5 ⟨rfl, hb5⟩; replace k00 := cell_next hb5 k00; replace k01 := cell_next hb5 k01; replace k02 := cell_next hb5 k02; replace k10 := cell_next hb5 k10; replace k11 := cell_next hb5 k11; replace k12 := cell_next hb5 k12; replace k20 := cell_next hb5 k20; replace k21 := cell_next hb5 k21; replace k22 := cell_next hb5 k22; replace hbw := after_next hbw hb5) | (with_reducible refine (C12.out _).mono ?_; rintro e w6 ⟨rfl, hb6⟩; replace k00 := cell_next hb6 k00; replace k01 := cell_next hb6 k01; replace k02 := cell_next hb6 k02; replace k10 := cell_next hb6 k10; replace k11 := cell_next hb6 k11; replace k12 := cell_next hb6 k12; replace k20 := cell_next hb6 k20; replace k21 := cell_next hb6 k21; replace k22 := cell_next hb6 k22; replace hbw := after_next hbw hb6) | (with_reducible refine (C02.out _).mono ?_; rintro e w7 ⟨rfl, hb7⟩; replace hbw := after_next hbw hb7))
        go_ret
        refine ⟨?_, hbw⟩
        simp [*]
    · refine wp_region_S (fun w' => Below w2.heap.size w2 w') (by kernel_rfl) (by kernel_rfl) (by kernel_rfl) (after_draw (Below.refl _ _)) ?_
      dsimp only
      repeat (first
        | ((with_reducible show seqS _ _ _ _ ({ dst := _, op := .call { callee := .value _, args := _, argTypes := _ }, type := _, pos := _, after := _, guard := _ } :: _) _)
           refine seqS.cons (v := ?_) (YieldsS.calledE (by rfl) (fun w hS => ?_)) ?_
           rotate_left
           · refine ⟨?_, ?_, ?_, ?_⟩
             rotate_left 2
             · go_simp
               constructor <;> with_reducible rfl
             first | (with_reducible refine (C01.out w).mono ?_) | (with_reducible refine (C10.out w).mono ?_)
             rintro e w' ⟨rfl, hb⟩
             refine And.intro ?_ (after_next hS hb)
             with_reducible rfl
           simp only [Act.put, List.setIfInBounds_toArray, List.set_cons_zero, List.set_cons_succ])
        | (refine seqS.cons (v := ?_) (YieldsS.pure (by rfl) (fun w hS => ?_)) ?_
           rotate_left
           · have q00 := cell_next hS k00
             have q01 := cell_next hS k01
             have q02 := cell_next hS k02
             have q10 := cell_next hS k10
             have q11 := cell_next hS k11
             have q12 := cell_next hS k12
             go_simp
             with_reducible rfl
           simp only [Act.put, List.setIfInBounds_toArray, List.set_cons_zero, List.set_cons_succ])
        | (refine seqS.cons (YieldsS.idle (by rfl)) ?_
           simp only [Act.put, List.setIfInBounds_toArray, List.set_cons_zero, List.set_cons_succ]))
      refine seqS.done (fun w3 hS3 => ?_)
      replace k00 := cell_next hS3 k00
      replace k01 := cell_next hS3 k01
      replace k02 := cell_next hS3 k02
      replace k10 := cell_next hS3 k10
      replace k11 := cell_next hS3 k11
      replace k12 := cell_next hS3 k12
      replace k20 := cell_next hS3 k20
      replace k21 := cell_next hS3 k21
      replace k22 := cell_next hS3 k22
      replace hbw := after_next hbw hS3
      clear hS3
      go_wp2_with fail
      refine wp_region_S (fun w' => Below w3.heap.size w3 w') (by kernel_rfl) (by kernel_rfl) (by kernel_rfl) (after_draw (Below.refl _ _)) ?_
      dsimp only
      repeat (first
        | ((with_reducible show seqS _ _ _ _ ({ dst := _, op := .call { callee := .value _, args := _, argTypes := _ }, type := _, pos := _, after := _, guard := _ } :: _) _)
           refine seqS.cons (v := ?_) (YieldsS.calledE (by rfl) (fun w hS => ?_)) ?_
           rotate_left
           · refine ⟨?_, ?_, ?_, ?_⟩
             rotate_left 2
             · go_simp
               constructor <;> with_reducible rfl
             first | (with_reducible refine (C01.out w).mono ?_) | (with_reducible refine (S01.out w (after_next hbw hS)).mono ?_) | (with_reducible refine (S10.out w (after_next hbw hS)).mono ?_) | (with_reducible refine (S00.out w (after_next hbw hS)).mono ?_)
             rintro e w' ⟨rfl, hb⟩
             refine And.intro ?_ (after_next hS hb)
             with_reducible rfl
           simp only [Act.put, List.setIfInBounds_toArray, List.set_cons_zero, List.set_cons_succ])
        | (refine seqS.cons (v := ?_) (YieldsS.pure (by rfl) (fun w hS => ?_)) ?_
           rotate_left
           · have q00 := cell_next hS k00
             have q01 := cell_next hS k01
             have q02 := cell_next hS k02
             have q10 := cell_next hS k10
             have q11 := cell_next hS k11
             have q12 := cell_next hS k12
             go_simp
             with_reducible rfl
           simp only [Act.put, List.setIfInBounds_toArray, List.set_cons_zero, List.set_cons_succ])
        | (refine seqS.cons (YieldsS.idle (by rfl)) ?_
           simp only [Act.put, List.setIfInBounds_toArray, List.set_cons_zero, List.set_cons_succ]))
      refine seqS.done (fun w4 hS4 => ?_)
      replace k00 := cell_next hS4 k00
      replace k01 := cell_next hS4 k01
      replace k02 := cell_next hS4 k02
      replace k10 := cell_next hS4 k10
      replace k11 := cell_next hS4 k11
      replace k12 := cell_next hS4 k12
      replace k20 := cell_next hS4 k20
      replace k21 := cell_next hS4 k21
      replace k22 := cell_next hS4 k22
      replace hbw := after_next hbw hS4
      clear hS4
      rcases FEND.out with h1 | ⟨h1, h2⟩ | ⟨h1, h2, h3⟩
      all_goals
        go_wp2_with (go_at_call 15; first | (with_reducible refine (C01.out _).mono ?_; rintro e w5 ⟨rfl, hb5⟩; replace k00 := cell_next hb5 k00; replace k01 := cell_next hb5 k01; replace k02 := cell_next hb5 k02; replace k10 := cell_next hb5 k10; replace k11 := cell_next hb5 k11; replace k12 := cell_next hb5 k12; replace k20 := cell_next hb5 k20; replace k21 := cell_next hb5 k21; replace k22 := cell_next hb5 k22; replace hbw := after_next hbw hb5) | (with_reducible refine (C12.out _).mono ?_; rintro e w6 ⟨rfl, hb6⟩; replace k00 := cell_next hb6 k00; replace k01 := cell_next hb6 k01; replace k02 := cell_next hb6 k02; replace k10 := cell_next hb6 k10; replace k11 := cell_next hb6 k11; replace k12 := cell_next hb6 k12; replace k20 := cell_next hb6 k20; replace k21 := cell_next hb6 k21; replace k22 := cell_next hb6 k22; replace hbw := after_next hbw hb6) | (with_reducible refine (C02.out _).mono ?_; rintro e w7 ⟨rfl, hb7⟩; replace hbw := after_next hbw hb7))
        go_ret
        refine ⟨?_, hbw⟩
        simp [*]
    · refine wp_region_S (fun w' => Below w2.heap.size w2 w') (by kernel_rfl) (by kernel_rfl) (by kernel_rfl) (after_draw (Below.refl _ _)) ?_
      dsimp only
      repeat (first
        | ((with_reducible show seqS _ _ _ _ ({ dst := _, op := .call { callee := .value _, args := _, argTypes := _ }, type := _, pos := _, after := _, guard := _ } :: _) _)
           refine seqS.cons (v := ?_) (YieldsS.calledE (by rfl) (fun w hS => ?_)) ?_
           rotate_left
           · refine ⟨?_, ?_, ?_, ?_⟩
             rotate_left 2
             · go_simp
               constructor <;> with_reducible rfl
             first | (with_reducible refine (C01.out w).mono ?_) | (with_reducible refine (C10.out w).mono ?_)
             rintro e w' ⟨rfl, hb⟩
             refine And.intro ?_ (after_next hS hb)
             with_reducible rfl
           simp only [Act.put, List.setIfInBounds_toArray, List.set_cons_zero, List.set_cons_succ])
        | (refine seqS.cons (v := ?_) (YieldsS.pure (by rfl) (fun w hS => ?_)) ?_
           rotate_left
           · have q00 := cell_next hS k00
             have q01 := cell_next hS k01
             have q02 := cell_next hS k02
             have q10 := cell_next hS k10
             have q11 := cell_next hS k11
             have q12 := cell_next hS k12
             go_simp
             with_reducible rfl
           simp only [Act.put, List.setIfInBounds_toArray, List.set_cons_zero, List.set_cons_succ])
        | (refine seqS.cons (YieldsS.idle (by rfl)) ?_
           simp only [Act.put, List.setIfInBounds_toArray, List.set_cons_zero, List.set_cons_succ]))
      refine seqS.done (fun w3 hS3 => ?_)
      replace k00 := cell_next hS3 k00
      replace k01 := cell_next hS3 k01
      replace k02 := cell_next hS3 k02
      replace k10 := cell_next hS3 k10
      replace k11 := cell_next hS3 k11
      replace k12 := cell_next hS3 k12
      replace k20 := cell_next hS3 k20
      replace k21 := cell_next hS3 k21
      replace k22 := cell_next hS3 k22
      replace hbw := after_next hbw hS3
      clear hS3
      go_wp2_with fail
      rcases u with _ | _
      all_goals
        refine wp_region_S (fun w' => Below w3.heap.size w3 w') (by kernel_rfl) (by kernel_rfl) (by kernel_rfl) (after_draw (Below.refl _ _)) ?_
        dsimp only
        repeat (first
          | ((with_reducible show seqS _ _ _ _ ({ dst := _, op := .call { callee := .value _, args := _, argTypes := _ }, type := _, pos := _, after := _, guard := _ } :: _) _)
             refine seqS.cons (v := ?_) (YieldsS.calledE (by rfl) (fun w hS => ?_)) ?_
             rotate_left
             · refine ⟨?_, ?_, ?_, ?_⟩
               rotate_left 2
               · go_simp
                 constructor <;> with_reducible rfl
               first | (with_reducible refine (C01.out w).mono ?_) | (with_reducible refine (S01.out w (after_next hbw hS)).mono ?_) | (with_reducible refine (S10.out w (after_next hbw hS)).mono ?_) | (with_reducible refine (S00.out w (after_next hbw hS)).mono ?_)
               rintro e w' ⟨rfl, hb⟩
               refine And.intro ?_ (after_next hS hb)
               with_reducible rfl
             simp only [Act.put, List.setIfInBounds_toArray, List.set_cons_zero, List.set_cons_succ])
          | (refine seqS.cons (v := ?_) (YieldsS.pure (by rfl) (fun w hS => ?_)) ?_
             rotate_left
             · have q00 := cell_next hS k00
               have q01 := cell_next hS k01
               have q02 := cell_next hS k02
               have q10 := cell_next hS k10
               have q11 := cell_next hS k11
               have q12 := cell_next hS k12
               go_simp
               with_reducible rfl
             simp only [Act.put, List.setIfInBounds_toArray, List.set_cons_zero, List.set_cons_succ])
          | (refine seqS.cons (YieldsS.idle (by rfl)) ?_
             simp only [Act.put, List.setIfInBounds_toArray, List.set_cons_zero, List.set_cons_succ]))
        refine seqS.done (fun w4 hS4 => ?_)
        replace k00 := cell_next hS4 k00
        replace k01 := cell_next hS4 k01
        replace k02 := cell_next hS4 k02
        replace k10 := cell_next hS4 k10
        replace k11 := cell_next hS4 k11
        replace k12 := cell_next hS4 k12
        replace k20 := cell_next hS4 k20
        replace k21 := cell_next hS4 k21
        replace k22 := cell_next hS4 k22
        replace hbw := after_next hbw hS4
        clear hS4
        rcases FEND.out with h1 | ⟨h1, h2⟩ | ⟨h1, h2, h3⟩
        all_goals
          go_wp2_with (go_at_call 15; first | (with_reducible refine (C01.out _).mono ?_; rintro e w5 ⟨rfl, hb5⟩; replace k00 := cell_next hb5 k00; replace k01 := cell_next hb5 k01; replace k02 := cell_next hb5 k02; replace k10 := cell_next hb5 k10; replace k11 := cell_next hb5 k11; replace k12 := cell_next hb5 k12; replace k20 := cell_next hb5 k20; replace k21 := cell_next hb5 k21; replace k22 := cell_next hb5 k22; replace hbw := after_next hbw hb5) | (with_reducible refine (C12.out _).mono ?_; rintro e w6 ⟨rfl, hb6⟩; replace k00 := cell_next hb6 k00; replace k01 := cell_next hb6 k01; replace k02 := cell_next hb6 k02; replace k10 := cell_next hb6 k10; replace k11 := cell_next hb6 k11; replace k12 := cell_next hb6 k12; replace k20 := cell_next hb6 k20; replace k21 := cell_next hb6 k21; replace k22 := cell_next hb6 k22; replace hbw := after_next hbw hb6) | (with_reducible refine (C02.out _).mono ?_; rintro e w7 ⟨rfl, hb7⟩; replace hbw := after_next hbw hb7))
          go_ret
          refine ⟨?_, hbw⟩
          simp [*]
  · have HSH : Hid (decide (n0 ≤ 60 ∧ n1 ≤ 60 ∧ n2 ≤ 60) = false) := Lib.hid (decide_eq_false hsh)
    clear hsh
    go_enter Try.func6, Try.ntmps6
    go_wp2_with (go_at_call 9; refine (live_any _).mono ?_; rintro e w1 ⟨rfl, hb1⟩; simp only [World.size_alloc] at hb1; obtain ⟨R0, R1, R2, hbw⟩ := box3 hb1; have k00 := R0.cell 0; have k01 := R0.cell 1; have k02 := R0.cell 2; have k10 := R1.cell 0; have k11 := R1.cell 1; have k12 := R1.cell 2; have k20 := R2.cell 0; have k21 := R2.cell 1; have k22 := R2.cell 2; simp at k00 k01 k02 k10 k11 k12 k20 k21 k22)
    refine (short3_any _ _ _ _ _ _ _ _ _ _ _ _ _ _ _ _).mono ?_
    rw [HSH.out]
    rintro e w2 ⟨rfl, hb2⟩
    go_wp2_with fail
    go_ret
    exact ⟨rfl, after_next hbw hb2⟩
end Go.Proofs.Ytknkdkheaamglaa
