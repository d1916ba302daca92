/- The walk of the law WordParts. -/
import Derived.Test.YtnkkmnffcbakpaaOpen
import Derived.Test.YtnkkmnffcbakpaaLive03
namespace Go.Proofs.Ytnkkmnffcbakpaa
set_option linter.unusedSimpArgs false
set_option linter.unusedVariables false
open Go.RowKit

set_option maxHeartbeats 800000 in
theorem walk_WordParts (W : World) (v0 v1 : Value) (o0 : Opn W 22 v0) (o1 : Opn W 3 v1) :
    Calls Try.prog 8 #[v0, v1] W fun e w' => e = .returned (.bool true) ∧ Below W.heap.size W w' := by
  obtain ⟨n, rfl, hn⟩ := o0.u64 Try.underlying22
  obtain ⟨wide, rfl, hw⟩ := o1.i64 Try.underlying3
  have hq : (0 : Int) ≤ (n : Int) / 256 ∧ (n : Int) / 256 ≤ 18446744073709551615 := by omega
  have HQ := Lib.hid hq
  have HW := Lib.hid (IntWalk.u64_in ((n : Int) / 256) hq)
  have HN := Lib.hid hn
  clear hq hn
  by_cases h : wide < 2 ∨ 8 < wide
  · have hmin : Hid (True) := trivial
    rcases h with h | h
    all_goals
      go_enter Try.func8, Try.ntmps8
      go_wp2_with (go_at_call 9; refine (live_any _).mono ?_; rintro e w1 ⟨rfl, hb1⟩)
      refine (wordPut_any _ n wide HN.out).mono ?_
      rintro e w2 ⟨A1, c1, rfl, ho1, hb2⟩
      go_wp2_with fail
      rw [HW.out]
      refine (wordPut_int _ _ _ HQ.out.1 HQ.out.2).mono ?_
      rintro e w3 ⟨A2, c2, rfl, ho2, hb3⟩
      go_wp2_with fail
      go_ret
      exact ⟨rfl, hb1.trans ((hb2.mono hb1.size).trans (hb3.mono (Nat.le_trans hb1.size hb2.size)))⟩
  · obtain ⟨k, rfl⟩ := Int.eq_ofNat_of_zero_le (show 0 ≤ wide by omega)
    have h1 : 2 ≤ k := by omega
    have h8 : k ≤ 8 := by omega
    clear h hw
    have hdd : n / 256 / 256 ^ (k - 1) = n / 256 ^ k := by
      rw [Nat.div_div_eq_div_mul, ← Nat.pow_succ']
      congr 2
      omega
    have hcast : ((n : Int) / 256).toNat = n / 256 := by omega
    have hk1 : ((k : Int) - 1) = ((k - 1 : Nat) : Int) := by omega
    by_cases hz : n / 256 ^ k = 0
    · have hP1 := putS_ok n k (by omega) h8 hz
      have hP2 : putS ((n : Int) / 256).toNat ((k : Int) - 1) = (beB (k - 1) (n / 256), 0) := by
        rw [hcast, hk1]; exact putS_ok (n / 256) (k - 1) (by omega) (by omega) (by rw [hdd]; exact hz)
      have HP1 := Lib.hid hP1
      have HP2 := Lib.hid hP2
      clear hP1 hP2 hdd hcast hk1 hz
      go_enter Try.func8, Try.ntmps8
      go_wp2_with (go_at_call 9; refine (live_any _).mono ?_; rintro e w1 ⟨rfl, hb1⟩)
      refine (wordPut_any _ n k HN.out).mono ?_
      rw [HP1.out]
      rintro e w2 ⟨A1, c1, rfl, ho1, hb2⟩
      replace ho1 : OwnB w2 w1.heap.size A1 (beB k n).length c1 (beB k n) := ho1
      go_wp2_with fail
      rw [HW.out]
      refine (wordPut_int _ _ _ HQ.out.1 HQ.out.2).mono ?_
      rw [HP2.out]
      rintro e w3 ⟨A2, c2, rfl, ho2, hb3⟩
      replace ho2 : OwnB w3 w2.heap.size A2 (beB (k - 1) (n / 256)).length c2 (beB (k - 1) (n / 256)) := ho2
      have hB1 := ho1.sl.below hb3
      have hL := Lib.hid (beB_len k n)
      have hL2 := Lib.hid (beB_len (k - 1) (n / 256))
      have hz3 := Nat.le_trans hb1.size (Nat.le_trans hb2.size hb3.size)
      go_wp2_with (at_builtin; refine wpList_append_b rfl (.tmp 44) (.tmp 48) rfl w2.heap.size _ _ _ _ rfl (ho2.alloc (.cells #[bv (UInt8.ofNat n)] 5)) _ _ 1 1 [UInt8.ofNat n] rfl (SlB.laid w3 #[bv (UInt8.ofNat n)] 5 (0, 0) _ 1 rfl rfl) (by rw [hL2.out]; omega) (by have := hb3.size; simp; omega) ?_; intro A4 c4 w4 hown4 hg4 hb4)
      have e4 : beB k n = beB (k - 1) (n / 256) ++ [UInt8.ofNat n] := by
        obtain ⟨m, rfl⟩ : ∃ m, k = m + 1 := ⟨k - 1, by omega⟩
        rfl
      refine (Same_any _ _ _ _ _ _ _ _ _ _ _ ((hB1.alloc hb3.size _).below hb4) hown4.sl).mono ?_
      rw [decide_eq_true e4]
      clear e4
      rintro e w5 ⟨rfl, rfl⟩
      go_wp2_with fail
      go_ret
      exact ⟨rfl, hb1.trans ((hb2.mono hb1.size).trans ((hb3.mono (Nat.le_trans hb1.size hb2.size)).trans (((Below.refl _ _).alloc hz3 _).trans (hb4.mono (Nat.le_trans hb1.size hb2.size)))))⟩
    · have hP1 := putS_long n k (by omega) h8 hz
      have hP2 : putS ((n : Int) / 256).toNat ((k : Int) - 1) = ([], 2) := by
        rw [hcast, hk1]; exact putS_long (n / 256) (k - 1) (by omega) (by omega) (by rw [hdd]; exact hz)
      have HP1 := Lib.hid hP1
      have HP2 := Lib.hid hP2
      clear hP1 hP2 hdd hcast hk1 hz
      go_enter Try.func8, Try.ntmps8
      go_wp2_with (go_at_call 9; refine (live_any _).mono ?_; rintro e w1 ⟨rfl, hb1⟩)
      refine (wordPut_any _ n k HN.out).mono ?_
      rw [HP1.out]
      rintro e w2 ⟨A1, c1, rfl, ho1, hb2⟩
      go_wp2_with fail
      rw [HW.out]
      refine (wordPut_int _ _ _ HQ.out.1 HQ.out.2).mono ?_
      rw [HP2.out]
      rintro e w3 ⟨A2, c2, rfl, ho2, hb3⟩
      go_wp2_with fail
      go_ret
      exact ⟨rfl, hb1.trans ((hb2.mono hb1.size).trans (hb3.mono (Nat.le_trans hb1.size hb2.size)))⟩
end Go.Proofs.Ytnkkmnffcbakpaa
