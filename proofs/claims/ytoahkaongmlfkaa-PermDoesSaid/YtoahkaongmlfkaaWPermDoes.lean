/- The walk of the law PermDoes. -/
import Derived.Test.YtoahkaongmlfkaaOpenI
import Derived.Test.YtoahkaongmlfkaaPermR
namespace Go.Proofs.Ytoahkaongmlfkaa
set_option linter.unusedSimpArgs false
set_option linter.unusedVariables false
open Go.RowKit

theorem refShuffle_bad (w : World) (A : Option Addr) (m c : Nat) (n : Int) (hn : n < 0 ∨ (¬ n < 0 ∧ 1024 < n)) :
    Calls Try.prog 12 #[.int .i64 n, .slice A m c] w fun e w' => e = .returned (.tuple #[.slice none 0 0, .int .i64 0, .int .i64 1]) ∧ Below w.heap.size w w' := by
  rcases hn with h | ⟨h, h'⟩
  all_goals
    go_enter Try.func12, Try.ntmps12
    go_wp2_with fail
    refine bodyPost_ret (v := .tuple #[.slice none 0 0, .int .i64 0, .int .i64 1]) (by simp [results, Try.results12, go_sem]) rfl ?_
    exact ⟨rfl, Below.refl _ _⟩

set_option maxHeartbeats 1600000 in
theorem walk_PermDoes (W : World) (v0 v1 : Value) (o0 : Opn W 3 v0) (o1 : Opn W 22 v1) :
    Calls Try.prog 3 #[v0, v1] W fun e w' => e = .returned (.bool true) ∧ Below W.heap.size W w' := by
  obtain ⟨n, rfl, hn0, hn1⟩ := o0.i64 Try.underlying3
  obtain ⟨A, m, c, zs, rfl, hs, hm, hz⟩ := o1.ints
  clear o0 o1
  unfold maxLen at hm
  have hcap := hs.cap
  by_cases hl : (100 < n ∧ n ≤ 1024) ∨ (¬ 100 < n ∧ 200 < m) ∨ (100 < n ∧ ¬ n ≤ 1024 ∧ 200 < m)
  · rcases hl with ⟨h1, h2⟩ | ⟨h1, h2⟩ | ⟨h1, h2, h3⟩
    all_goals
      go_enter Try.func3, Try.ntmps3
      go_wp2_with (go_at_call 10; refine (live11_any _).mono ?_; rintro e w1 ⟨rfl, hbw⟩)
      go_ret
      exact ⟨rfl, hbw⟩
  have h200 : ¬ 200 < m := by omega
  have hm200 : m ≤ 200 := by omega
  by_cases hbad : n < 0 ∨ (¬ n < 0 ∧ 1024 < n)
  · have S1 := Lib.hid fun w => shuffle_bad w A m c n hbad
    have S2 := Lib.hid fun w => refShuffle_bad w A m c n hbad
    rcases hbad with h1 | ⟨h0, h1⟩
    · have g1 : ¬ 100 < n := by omega
      go_enter Try.func3, Try.ntmps3
      go_wp2_with (go_at_call 10; refine (live11_any _).mono ?_; rintro e w1 ⟨rfl, hbw⟩)
      refine (S1.out _).mono ?_
      rintro x w2 ⟨rfl, hb2⟩
      replace hbw := after_next hbw hb2
      go_wp2_with fail
      refine (S2.out _).mono ?_
      rintro x w3 ⟨rfl, hb3⟩
      replace hbw := after_next hbw hb3
      go_wp2_with fail
      refine (SameInts_any _ 0 0 _ _ _ _ _ _ [] [] (SlI.none_ _ _ _ _) (SlI.none_ _ _ _ _) (by decide)).mono ?_
      rw [decide_eq_true rfl]
      rintro x w4 ⟨rfl, k4, rfl⟩
      go_wp2_with fail
      go_ret
      exact ⟨by simp, hbw.trans (below_draws _ _ k4)⟩
    · have g1 : 100 < n := by omega
      have g2 : ¬ n ≤ 1024 := by omega
      go_enter Try.func3, Try.ntmps3
      go_wp2_with (go_at_call 10; refine (live11_any _).mono ?_; rintro e w1 ⟨rfl, hbw⟩)
      refine (S1.out _).mono ?_
      rintro x w2 ⟨rfl, hb2⟩
      replace hbw := after_next hbw hb2
      go_wp2_with fail
      refine (S2.out _).mono ?_
      rintro x w3 ⟨rfl, hb3⟩
      replace hbw := after_next hbw hb3
      go_wp2_with fail
      refine (SameInts_any _ 0 0 _ _ _ _ _ _ [] [] (SlI.none_ _ _ _ _) (SlI.none_ _ _ _ _) (by decide)).mono ?_
      rw [decide_eq_true rfl]
      rintro x w4 ⟨rfl, k4, rfl⟩
      go_wp2_with fail
      go_ret
      exact ⟨by simp, hbw.trans (below_draws _ _ k4)⟩
  have g0 : 0 ≤ n := by omega
  have g1 : ¬ 100 < n := by omega
  obtain ⟨n, rfl⟩ := Int.eq_ofNat_of_zero_le g0
  have S1 := Lib.hid fun w (hb : Below W.heap.size W w) => shuffle_ok w _ _ _ _ _ n (hs.below hb) hb.size (by omega) hz (by omega)
  have S2 := Lib.hid fun w (hb : Below W.heap.size W w) => refShuffle_ok w _ _ _ _ _ n (hs.below hb) hb.size (by omega) hz (by omega)
  generalize shufS zs n = sh at *
  clear hl hbad
  go_enter Try.func3, Try.ntmps3
  go_wp2_with (go_at_call 10; refine (live11_any _).mono ?_; rintro e w1 ⟨rfl, hbw⟩)
  refine (S1.out _ hbw).mono ?_
  rintro x w2 ⟨A2, c2, rfl, ho2, hb2⟩
  replace hbw := after_next hbw hb2
  go_wp2_with fail
  refine (S2.out _ hbw).mono ?_
  rintro x w3 ⟨A3, c3, rfl, ho3, hb3⟩
  replace hbw := after_next hbw hb3
  go_wp2_with fail
  refine (SameInts_any _ _ _ _ _ _ _ _ _ _ _ ((OwnI.sl ho2).next hb3) (OwnI.sl ho3) (by omega)).mono ?_
  rw [decide_eq_true rfl]
  rintro x w4 ⟨rfl, k4, rfl⟩
  go_wp2_with fail
  go_ret
  exact ⟨by simp, hbw.trans (below_draws _ _ k4)⟩
end Go.Proofs.Ytoahkaongmlfkaa
