/- The walk of the law WordNumbers. -/
import Derived.Test.YtnkkmnffcbakpaaOpen
import Derived.Test.YtnkkmnffcbakpaaLive03
namespace Go.Proofs.Ytnkkmnffcbakpaa
set_option linter.unusedSimpArgs false
set_option linter.unusedVariables false
open Go.RowKit

set_option maxHeartbeats 1600000 in
theorem walk_WordNumbers (W : World) (v0 v1 v2 : Value) (o0 : Opn W 22 v0) (o1 : Opn W 3 v1) (o2 : Opn W 23 v2) :
    Calls Try.prog 3 #[v0, v1, v2] W fun e w' => e = .returned (.bool true) ∧ Below W.heap.size W w' := by
  obtain ⟨n, rfl, hn⟩ := o0.u64 Try.underlying22
  obtain ⟨wide, rfl, hw⟩ := o1.i64 Try.underlying3
  obtain ⟨A, m, c, b, rfl, hs, hm⟩ := o2.bytes
  have P1 := fun w => wordPut_any w n wide hn
  have P2 := fun w => refPut_any w n wide hn
  generalize putS n wide = r at P1 P2
  obtain ⟨bs, er⟩ := r
  have HP1 := Lib.hid P1
  have HP2 := Lib.hid P2
  clear P1 P2 hn
  unfold maxLen at hm
  have hcap := hs.cap
  by_cases hl : 400 < m
  · go_enter Try.func3, Try.ntmps3
    go_wp2_with (go_at_call 9; refine (live_any _).mono ?_; rintro e w1 ⟨rfl, hb1⟩)
    go_ret
    exact ⟨rfl, hb1⟩
  · go_enter Try.func3, Try.ntmps3
    go_wp2_with (go_at_call 9; refine (live_any _).mono ?_; rintro e w1 ⟨rfl, hb1⟩)
    refine (HP1.out _).mono ?_
    intro e w2 ht
    obtain ⟨A1, c1, rfl, ho1, hb2⟩ := ht.pair
    clear ht
    go_wp2_with fail
    refine (HP2.out _).mono ?_
    intro e w3 ht
    obtain ⟨A2, c2, rfl, ho2, hb3⟩ := ht.pair
    clear ht
    have hb12 := hb1.trans (hb2.mono hb1.size)
    have hb123 := hb12.trans (hb3.mono hb12.size)
    go_wp2_with fail
    refine (wordGet_any _ _ _ _ _ _ (hs.below hb123) (by omega)).mono ?_
    rintro e w4 ⟨rfl, rfl⟩
    go_wp2_with fail
    refine (refGet_any _ _ _ _ _ _ (hs.below hb123) (by omega)).mono ?_
    rintro e w4 ⟨rfl, rfl⟩
    go_wp2_with fail
    refine (Same_any _ _ _ _ _ _ _ _ _ _ _ (ho1.sl.below hb3) ho2.sl).mono ?_
    rw [decide_eq_true rfl]
    rintro e w4 ⟨rfl, rfl⟩
    go_wp2_with fail
    go_ret
    exact ⟨by simp, hb123⟩
end Go.Proofs.Ytnkkmnffcbakpaa
