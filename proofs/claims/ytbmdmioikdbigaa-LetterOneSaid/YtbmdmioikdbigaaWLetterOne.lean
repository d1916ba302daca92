/- The walk of the law LetterOne. -/
import Derived.Test.YtbmdmioikdbigaaOpen
import Derived.Test.YtbmdmioikdbigaaLive10
import Derived.Test.YtbmdmioikdbigaaLetQ
namespace Go.Proofs.Ytbmdmioikdbigaa
set_option linter.unusedSimpArgs false
set_option linter.unusedVariables false
open Go.RowKit

set_option maxHeartbeats 3200000 in
theorem walk_LetterOne (W : World) (v0 v1 : Value) (o0 : Opn W 26 v0) (o1 : Opn W 26 v1) :
    Calls Try.prog 6 #[v0, v1] W fun e w' => e = .returned (.bool true) ∧ Below W.heap.size W w' := by
  obtain ⟨c0, f0, t0, s0, A0, n0, g0, b0, rfl, hq0, hs0, hn0⟩ := o0.letter
  obtain ⟨c1, f1, t1, s1, A1, n1, g1, b1, rfl, hq1, hs1, hn1⟩ := o1.letter
  clear o0 o1
  by_cases hl : 300 < n0 ∨ (¬ 300 < n0 ∧ 300 < n1)
  · rcases hl with h1 | ⟨h1, h2⟩
    all_goals
      go_enter Try.func6, Try.ntmps6
      go_wp2_with (go_at_call 8; refine (live10_any _).mono ?_; rintro e w1 ⟨rfl, hb1⟩; simp only [World.size_alloc] at hb1; obtain ⟨R0, R1, hbw⟩ := box2 hb1; have k00 := R0.cell 0; have k01 := R0.cell 1; have k02 := R0.cell 2; have k03 := R0.cell 3; have k04 := R0.cell 4; have k10 := R1.cell 0; have k11 := R1.cell 1; have k12 := R1.cell 2; have k13 := R1.cell 3; have k14 := R1.cell 4; simp at k00 k01 k02 k03 k04 k10 k11 k12 k13 k14)
      go_ret
      exact ⟨rfl, hbw⟩
  have hl1 : ¬ 300 < n0 := by omega
  have hl2 : ¬ 300 < n1 := by omega
  clear hl
  have P0 := Lib.hid fun w (hb : Below W.heap.size W w) => letPut_any w _ c0 f0 t0 s0 n0 g0 A0 b0 (hs0.below hb) hb.size hq0
  have P1 := Lib.hid fun w (hb : Below W.heap.size W w) => letPut_any w _ c1 f1 t1 s1 n1 g1 A1 b1 (hs1.below hb) hb.size hq1
  have M1 := Lib.hid fun w (hb : Below W.heap.size W w) => letSame_any w _ _ c0 c1 f0 t0 f1 t1 s0 s1 n0 g0 n1 g1 A0 A1 b0 b1 (hs0.below hb) (hs1.below hb) hb.size hb.size
  obtain ⟨x0, e0, x1, e1, p0, p1, hx0, hx1, hor⟩ := one_pure c0 c1 f0 t0 f1 t1 s0 s1 b0 b1 hq0 hq1
  rw [p0] at P0
  rw [p1] at P1
  generalize sameL c0 f0 t0 s0 b0 c1 f1 t1 s1 b1 = sm at *
  clear p0 p1 hs0 hs1 hq0 hq1 hn0 hn1
  rcases hor with h0 | ⟨rfl, h0⟩ | ⟨rfl, rfl, h0⟩
  all_goals
    have H0 := Lib.hid h0
    go_enter Try.func6, Try.ntmps6
    go_wp2_with (go_at_call 8; refine (live10_any _).mono ?_; rintro e w1 ⟨rfl, hb1⟩; simp only [World.size_alloc] at hb1; obtain ⟨R0, R1, hbw⟩ := box2 hb1; have k00 := R0.cell 0; have k01 := R0.cell 1; have k02 := R0.cell 2; have k03 := R0.cell 3; have k04 := R0.cell 4; have k10 := R1.cell 0; have k11 := R1.cell 1; have k12 := R1.cell 2; have k13 := R1.cell 3; have k14 := R1.cell 4; simp at k00 k01 k02 k03 k04 k10 k11 k12 k13 k14)
    clear R0 R1 hb1
    refine (P0.out _ hbw).mono ?_
    intro x w3 ht
    obtain ⟨A3, g3, rfl, ho3, hb3⟩ := ht.pair
    clear ht
    replace k00 := cell_next hb3 k00
    replace k01 := cell_next hb3 k01
    replace k02 := cell_next hb3 k02
    replace k03 := cell_next hb3 k03
    replace k04 := cell_next hb3 k04
    replace k10 := cell_next hb3 k10
    replace k11 := cell_next hb3 k11
    replace k12 := cell_next hb3 k12
    replace k13 := cell_next hb3 k13
    replace k14 := cell_next hb3 k14
    replace hbw := after_next hbw hb3
    go_wp2_with fail
    refine (P1.out _ hbw).mono ?_
    intro x w4 ht
    obtain ⟨A4, g4, rfl, ho4, hb4⟩ := ht.pair
    clear ht
    replace k00 := cell_next hb4 k00
    replace k01 := cell_next hb4 k01
    replace k02 := cell_next hb4 k02
    replace k03 := cell_next hb4 k03
    replace k04 := cell_next hb4 k04
    replace k10 := cell_next hb4 k10
    replace k11 := cell_next hb4 k11
    replace k12 := cell_next hb4 k12
    replace k13 := cell_next hb4 k13
    replace k14 := cell_next hb4 k14
    replace hbw := after_next hbw hb4
    have s3 := ho3.sl.next hb4
    have s4 := ho4.sl
    have SM : Hid (∀ w, Below w4.heap.size w4 w → Calls Try.prog 12 #[.slice A3 x0.length g3, .slice A4 x1.length g4] w fun e w' => e = .returned (.bool (decide (x0 = x1))) ∧ Below w.heap.size w w') := Lib.hid (fun w hb => (Same_any w _ _ _ _ _ _ _ _ _ _ (s3.below hb) (s4.below hb)).mono (fun e w' h => by
      obtain ⟨h1, h2⟩ := h
      subst h2
      exact ⟨h1, Below.refl _ _⟩))
    generalize decide (x0 = x1) = dx at *
    have H0' := H0.out
    go_wp2_with fail
    refine wp_region_S (fun w' => Below w4.heap.size w4 w') (by kernel_rfl) (by kernel_rfl) (by kernel_rfl) (after_draw (Below.refl _ _)) ?_
    dsimp only
    repeat (first
      | ((with_reducible show seqS _ _ _ _ ({ dst := _, op := .call { callee := .value _, args := _, argTypes := _ }, type := _, pos := _, after := _, guard := _ } :: _) _)
         refine seqS.cons (v := ?_) (YieldsS.calledE (by rfl) (fun w hS => ?_)) ?_
         rotate_left
         · refine ⟨?_, ?_, ?_, ?_⟩
           rotate_left 2
           · go_simp
             constructor <;> with_reducible rfl
           first | (with_reducible refine (M1.out w (after_next hbw hS)).mono ?_) | (with_reducible refine (SM.out w hS).mono ?_)
           rintro e w' ⟨rfl, hb⟩
           refine And.intro ?_ (after_next hS hb)
           with_reducible rfl
         simp only [Act.put, List.setIfInBounds_toArray, List.set_cons_zero, List.set_cons_succ])
      | (refine seqS.cons (v := ?_) (YieldsS.pure (by rfl) (fun w hS => ?_)) ?_
         rotate_left
         · have q00 := cell_next hS k00
           have q01 := cell_next hS k01
           have q02 := cell_next hS k02
           have q03 := cell_next hS k03
           have q04 := cell_next hS k04
           have q10 := cell_next hS k10
           have q11 := cell_next hS k11
           have q12 := cell_next hS k12
           have q13 := cell_next hS k13
           have q14 := cell_next hS k14
           go_simp
           with_reducible rfl
         simp only [Act.put, List.setIfInBounds_toArray, List.set_cons_zero, List.set_cons_succ])
      | (refine seqS.cons (YieldsS.idle (by rfl)) ?_
         simp only [Act.put, List.setIfInBounds_toArray, List.set_cons_zero, List.set_cons_succ]))
    refine seqS.done (fun w5 hS5 => ?_)
    go_wp2_with fail
    go_ret
    exact ⟨by simp [H0'], after_next hbw hS5⟩
end Go.Proofs.Ytbmdmioikdbigaa
