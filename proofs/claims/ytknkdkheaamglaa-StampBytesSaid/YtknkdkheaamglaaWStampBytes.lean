/- The walk of the law StampBytes. -/
import Derived.Test.YtknkdkheaamglaaOpenStamp
import Derived.Test.YtknkdkheaamglaaLive04
import Derived.Test.YtknkdkheaamglaaStampR
import Derived.Test.YtknkdkheaamglaaWordN
namespace Go.Proofs.Ytknkdkheaamglaa
set_option linter.unusedSimpArgs false
set_option linter.unusedVariables false
open Go.RowKit

theorem less_same (a x y : List UInt8) : Op.bytesLess (a ++ x) (a ++ y) = Op.bytesLess x y := by
  induction a with
  | nil => rfl
  | cons u a ih => simp only [List.cons_append, Op.bytesLess]; simp [ih]
theorem less_ne (a b x y : List UInt8) (h : a.length = b.length) (hne : a ≠ b) : Op.bytesLess (a ++ x) (b ++ y) = Op.bytesLess a b := by
  induction a generalizing b with
  | nil => cases b with
    | nil => exact absurd rfl hne
    | cons => simp at h
  | cons u a ih => cases b with
    | nil => simp at h
    | cons v b =>
      simp only [List.cons_append, Op.bytesLess]
      by_cases huv : u = v
      · subst huv
        rw [ih b (by simpa using h) (fun e => hne (by rw [e]))]
      · have huv' : (u == v) = false := by simpa using huv
        rw [huv', Bool.false_and, Bool.false_and]

theorem putSt_less (e r e' r' : Nat) (l l' : List Int) (he : e < 18446744073709551616) (hr : r < 18446744073709551616) (he' : e' < 18446744073709551616) (hr' : r' < 18446744073709551616) (h : cmpS e r e' r' ≠ 0) :
    Op.bytesLess (putSt e r l) (putSt e' r' l') = decide (cmpS e r e' r' < 0) := by
  have D : ∀ m, m < 18446744073709551616 → m / 256 ^ 8 = 0 := fun m hm => Nat.div_eq_of_lt hm
  unfold putSt
  by_cases h1 : e = e'
  · subst h1
    rw [less_same]
    have h2 : r ≠ r' := fun h2 => h ((cmpS_zero _ _ _ _).2 ⟨rfl, h2⟩)
    rw [less_ne _ _ _ _ (by rw [beB_len, beB_len]) (fun hh => h2 (by rw [beB_inj 8 r r' (D _ hr) (D _ hr')] at hh; exact hh)), less_getN _ _ (by rw [beB_len, beB_len]), getN_beB_fit 8 _ (D _ hr), getN_beB_fit 8 _ (D _ hr')]
    unfold cmpS cmpN
    rw [if_neg (by simp)]
    split
    · simp; omega
    · split <;> simp <;> omega
  · rw [less_ne _ _ _ _ (by rw [beB_len, beB_len]) (fun hh => h1 (by rw [beB_inj 8 e e' (D _ he) (D _ he')] at hh; exact hh)), less_getN _ _ (by rw [beB_len, beB_len]), getN_beB_fit 8 _ (D _ he), getN_beB_fit 8 _ (D _ he')]
    unfold cmpS cmpN
    rw [if_pos h1]
    split
    · simp; omega
    · split <;> simp <;> omega

set_option maxHeartbeats 1600000 in
theorem walk_StampBytes (W : World) (v0 v1 : Value) (o0 : Opn W 25 v0) (o1 : Opn W 25 v1) :
    Calls Try.prog 8 #[v0, v1] W fun e w' => e = .returned (.bool true) ∧ Below W.heap.size W w' := by
  obtain ⟨e0, r0, A0, n0, c0, l0, rfl, he0, hr0, hs0, hn0⟩ := o0.stamp
  obtain ⟨e1, r1, A1, n1, c1, l1, rfl, he1, hr1, hs1, hn1⟩ := o1.stamp
  clear o0 o1
  by_cases hsh : n0 ≤ 60 ∧ n1 ≤ 60
  · have HSH : Hid (decide (n0 ≤ 60 ∧ n1 ≤ 60) = true) := Lib.hid (decide_eq_true hsh)
    have C1 := Lib.hid fun w => Compare_any w e0 r0 e1 r1 n0 c0 n1 c1 A0 A1
    have P1 := Lib.hid fun w (hb : Below W.heap.size W w) => stampPut_any w _ e0 r0 n0 c0 A0 l0 (hs0.below hb) hb.size (by omega) he0 hr0
    have P2 := Lib.hid fun w (hb : Below W.heap.size W w) => stampPut_any w _ e1 r1 n1 c1 A1 l1 (hs1.below hb) hb.size (by omega) he1 hr1
    have hpure : ∃ b0 f0 b1 f1, putStS e0 r0 l0 = (b0, f0) ∧ putStS e1 r1 l1 = (b1, f1) ∧
        ((b0 = [] ∧ f0 = 1) ∨ (f0 = 0 ∧ ((b0.length : Int) == 0) = false ∧ b1 = [] ∧ f1 = 1) ∨
         (f0 = 0 ∧ f1 = 0 ∧ ((cmpS e0 r0 e1 r1 == 0) = true ∨ (cmpS e0 r0 e1 r1 == 0) = false ∧ (Op.bytesLess (strOf b0).toList (strOf b1).toList == decide (cmpS e0 r0 e1 r1 < 0)) = true))) := by
      rcases chkS_01 l0 with ⟨h0, _⟩ | ⟨h0, _⟩
      · have p0 : putStS e0 r0 l0 = (putSt e0 r0 l0, 0) := by unfold putStS; rw [if_pos h0]
        rcases chkS_01 l1 with ⟨h1, _⟩ | ⟨h1, _⟩
        · have p1 : putStS e1 r1 l1 = (putSt e1 r1 l1, 0) := by unfold putStS; rw [if_pos h1]
          refine ⟨_, _, _, _, p0, p1, .inr (.inr ⟨rfl, rfl, ?_⟩)⟩
          by_cases hz : cmpS e0 r0 e1 r1 = 0
          · exact .inl (by rw [hz]; rfl)
          · refine .inr ⟨by simpa using hz, ?_⟩
            rw [strOf_list, strOf_list, putSt_less _ _ _ _ _ _ he0 hr0 he1 hr1 hz]
            simp
        · have p1 : putStS e1 r1 l1 = ([], 1) := by unfold putStS; rw [h1]; rfl
          refine ⟨_, _, _, _, p0, p1, .inr (.inl ⟨rfl, ?_, rfl, rfl⟩)⟩
          unfold putSt
          rw [beq_eq_false_iff_ne]
          simp only [List.length_append, beB_len]
          omega
      · have p0 : putStS e0 r0 l0 = ([], 1) := by unfold putStS; rw [h0]; rfl
        exact ⟨_, _, _, _, p0, rfl, .inl ⟨rfl, rfl⟩⟩
    obtain ⟨b0, f0, b1, f1, p0, p1, hor⟩ := hpure
    rw [p0] at P1
    rw [p1] at P2
    clear p0 p1
    generalize cmpS e0 r0 e1 r1 = cm at C1 hor
    clear hsh hs0 hs1 he0 hr0 he1 hr1 hn0 hn1
    rcases hor with ⟨rfl, rfl⟩ | ⟨rfl, hb0, rfl, rfl⟩ | ⟨rfl, rfl, hor⟩
    all_goals
      go_enter Try.func8, Try.ntmps8
      go_wp2_with (go_at_call 9; refine (live_any _).mono ?_; rintro e w1 ⟨rfl, hb1⟩; simp only [World.size_alloc] at hb1; obtain ⟨R0, R1, hbw⟩ := box2 hb1; have k00 := R0.cell 0; have k01 := R0.cell 1; have k02 := R0.cell 2; have k10 := R1.cell 0; have k11 := R1.cell 1; have k12 := R1.cell 2; simp at k00 k01 k02 k10 k11 k12)
      refine (short2_any _ _ _ _ _ _ _ _ _ _ _).mono ?_
      rw [HSH.out]
      rintro e w2 ⟨rfl, hb2⟩
      replace k00 := cell_next hb2 k00
      replace k01 := cell_next hb2 k01
      replace k02 := cell_next hb2 k02
      replace k10 := cell_next hb2 k10
      replace k11 := cell_next hb2 k11
      replace k12 := cell_next hb2 k12
      replace hbw := after_next hbw hb2
      clear R0 R1 hb1 hb2
      go_wp2_with fail
      refine (P1.out _ hbw).mono ?_
      intro x w3 ht
      obtain ⟨A3, g3, rfl, ho3, hb3⟩ := ht.pair
      clear ht
      replace k00 := cell_next hb3 k00
      replace k01 := cell_next hb3 k01
      replace k02 := cell_next hb3 k02
      replace k10 := cell_next hb3 k10
      replace k11 := cell_next hb3 k11
      replace k12 := cell_next hb3 k12
      replace hbw := after_next hbw hb3
      go_wp2_with fail
      refine (P2.out _ hbw).mono ?_
      intro x w4 ht
      obtain ⟨A4, g4, rfl, ho4, hb4⟩ := ht.pair
      clear ht
      replace k00 := cell_next hb4 k00
      replace k01 := cell_next hb4 k01
      replace k02 := cell_next hb4 k02
      replace k10 := cell_next hb4 k10
      replace k11 := cell_next hb4 k11
      replace k12 := cell_next hb4 k12
      replace hbw := after_next hbw hb4
      have s3 := ho3.sl.next hb4
      have s4 := ho4.sl
    · go_wp2_with fail
      go_ret
      exact ⟨by simp, hbw⟩
    · go_wp2_with fail
      go_ret
      exact ⟨by simp, hbw⟩
    · go_wp2_with fail
      rcases hor with hz | ⟨hz, hlt⟩
      all_goals
        refine wp_region_S (fun w' => Below w4.heap.size w4 w') (by kernel_rfl) (by kernel_rfl) (by kernel_rfl) (after_draw (Below.refl _ _)) ?_
        dsimp only
        repeat (first
          | ((with_reducible show seqS _ _ _ _ ({ dst := _, op := .call { callee := .value _, args := _, argTypes := _ }, type := _, pos := _, after := _, guard := _ } :: _) _)
             refine seqS.cons (v := ?_) (YieldsS.calledE (by rfl) (fun w hS => ?_)) ?_
             rotate_left
             · refine ⟨?_, ?_, ?_, ?_⟩
               rotate_left 2
               · go_simp
                 constructor <;> with_reducible rfl
               first | (with_reducible refine (C1.out w).mono ?_)
               rintro e w' ⟨rfl, hb⟩
               refine And.intro ?_ (after_next hS hb)
               with_reducible rfl
             simp only [Act.put, List.setIfInBounds_toArray, List.set_cons_zero, List.set_cons_succ])
          | (refine seqS.cons (v := ?_) (YieldsS.pure (by rfl) (fun w hS => ?_)) ?_
             rotate_left
             · have t3 := run_string_of Try.underlying28 Try.underlying5 Try.underlying9 (s3.below hS)
               have t4 := run_string_of Try.underlying28 Try.underlying5 Try.underlying9 (s4.below hS)
               have q00 := cell_next hS k00
               have q01 := cell_next hS k01
               have q02 := cell_next hS k02
               have q10 := cell_next hS k10
               have q11 := cell_next hS k11
               have q12 := cell_next hS k12
               go_simp
               with_reducible rfl
             simp only [Act.put, List.setIfInBounds_toArray, List.set_cons_zero, List.set_cons_succ])
          | (refine seqS.cons (YieldsS.idle (by rfl)) ?_
             simp only [Act.put, List.setIfInBounds_toArray, List.set_cons_zero, List.set_cons_succ]))
        refine seqS.done (fun w5 hS5 => ?_)
        go_wp2_with fail
        go_ret
        exact ⟨by simp, after_next hbw hS5⟩
  · have HSH : Hid (decide (n0 ≤ 60 ∧ n1 ≤ 60) = false) := Lib.hid (decide_eq_false hsh)
    clear hsh
    go_enter Try.func8, Try.ntmps8
    go_wp2_with (go_at_call 9; refine (live_any _).mono ?_; rintro e w1 ⟨rfl, hb1⟩; simp only [World.size_alloc] at hb1; obtain ⟨R0, R1, hbw⟩ := box2 hb1; have k00 := R0.cell 0; have k01 := R0.cell 1; have k02 := R0.cell 2; have k10 := R1.cell 0; have k11 := R1.cell 1; have k12 := R1.cell 2; simp at k00 k01 k02 k10 k11 k12)
    refine (short2_any _ _ _ _ _ _ _ _ _ _ _).mono ?_
    rw [HSH.out]
    rintro e w2 ⟨rfl, hb2⟩
    go_wp2_with fail
    go_ret
    exact ⟨rfl, after_next hbw hb2⟩
end Go.Proofs.Ytknkdkheaamglaa
