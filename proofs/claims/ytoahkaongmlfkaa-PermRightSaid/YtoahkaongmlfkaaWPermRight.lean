/- The walk of the law PermRight. -/
import Derived.Test.YtoahkaongmlfkaaOpenI
import Derived.Test.YtoahkaongmlfkaaPermK
namespace Go.Proofs.Ytoahkaongmlfkaa
set_option linter.unusedSimpArgs false
set_option linter.unusedVariables false
open Go.RowKit

set_option maxHeartbeats 1600000 in
theorem walk_PermRight (W : World) (v0 v1 : Value) (o0 : Opn W 3 v0) (o1 : Opn W 22 v1) :
    Calls Try.prog 5 #[v0, v1] W fun e w' => e = .returned (.bool true) ∧ Below W.heap.size W w' := by
  obtain ⟨n, rfl, hn0, hn1⟩ := o0.i64 Try.underlying3
  obtain ⟨A, m, c, zs, rfl, hs, hm, hz⟩ := o1.ints
  clear o0 o1
  unfold maxLen at hm
  have hcap := hs.cap
  by_cases hl : n < 0 ∨ (¬ n < 0 ∧ 100 < n) ∨ (¬ n < 0 ∧ ¬ 100 < n ∧ 200 < m)
  · rcases hl with h1 | ⟨h1, h2⟩ | ⟨h1, h2, h3⟩
    all_goals
      go_enter Try.func5, Try.ntmps5
      go_wp2_with (go_at_call 10; refine (live11_any _).mono ?_; rintro e w1 ⟨rfl, hbw⟩)
      go_ret
      exact ⟨rfl, hbw⟩
  have h1 : ¬ n < 0 := by omega
  have h2 : ¬ 100 < n := by omega
  have h3 : ¬ 200 < m := by omega
  clear hl
  obtain ⟨n, rfl⟩ := Int.eq_ofNat_of_zero_le (show 0 ≤ n by omega)
  have HS := Lib.hid fun w (hb : Below W.heap.size W w) => shuffle_ok w _ _ _ _ _ n (hs.below hb) hb.size (by omega) hz (by omega)
  have HC : Hid (chkP (shufS zs n) = 0) := Lib.hid (by unfold chkP; rw [okP_shufS zs n (by omega)]; rfl)
  have hw1 : IntKind.i64.wrap ((n : Int) - 1) = (n : Int) - 1 := IntWalk.i64_in _ ⟨by omega, by omega⟩
  have HM : Hid (min (m : Int) (max ((n : Int) - 1) 0) = ((min (n - 1) m : Nat) : Int)) := Lib.hid (by omega)
  generalize shufS zs n = sh at *
  generalize hk : min (n - 1) m = k at *
  have hkk := hk
  clear hk
  go_enter Try.func5, Try.ntmps5
  go_wp2_with (go_at_call 10; refine (live11_any _).mono ?_; rintro e w1 ⟨rfl, hbw⟩)
  refine (HS.out _ hbw).mono ?_
  rintro x w2 ⟨A2, c2, rfl, ho2, hb2⟩
  replace hbw := after_next hbw hb2
  go_wp2_with fail
  refine (permCheck_any _ _ _ _ _ _ (OwnI.sl ho2) (Nat.le_refl _) (by omega)).mono ?_
  rw [HC.out]
  rintro x w3 ⟨rfl, hb3⟩
  have he : (if (n : Int) - 1 < 0 then (0 : Int) else (n : Int) - 1) = ((n - 1 : Nat) : Int) := by split <;> omega
  have HE := Lib.hid he
  clear he
  go_wp2_with fail
  all_goals
    go_ret
    refine ⟨?_, after_next hbw hb3⟩
    simp only [HE.out] at *
    simp
    omega
end Go.Proofs.Ytoahkaongmlfkaa
