/- The walk of the law WordBack. -/
import Derived.Test.YtnkkmnffcbakpaaOpen
import Derived.Test.YtnkkmnffcbakpaaLive03
import Derived.Test.YtnkkmnffcbakpaaWordP
namespace Go.Proofs.Ytnkkmnffcbakpaa
set_option linter.unusedSimpArgs false
set_option linter.unusedVariables false
open Go.RowKit

set_option maxHeartbeats 1600000 in
theorem walk_WordBack (W : World) (v0 v1 v2 : Value) (o0 : Opn W 22 v0) (o1 : Opn W 3 v1) (o2 : Opn W 23 v2) :
    Calls Try.prog 5 #[v0, v1, v2] W fun e w' => e = .returned (.bool true) ∧ Below W.heap.size W w' := by
  obtain ⟨n, rfl, hn⟩ := o0.u64 Try.underlying22
  obtain ⟨wide, rfl, hw⟩ := o1.i64 Try.underlying3
  obtain ⟨A, m, c, b, rfl, hs, hm⟩ := o2.bytes
  unfold maxLen at hm
  have hcap := hs.cap
  by_cases hl : 400 < m
  · go_enter Try.func5, Try.ntmps5
    go_wp2_with (go_at_call 9; refine (live_any _).mono ?_; rintro e w1 ⟨rfl, hb1⟩)
    go_ret
    exact ⟨rfl, hb1⟩
  have P1 := fun w => wordPut_any w n wide hn
  have hlen := Lib.hid hs.len
  -- the first half: what was put is got again
  have first : ∃ b1 e1, putS n wide = (b1, e1) ∧ ((e1 == 0) = false ∨ (e1 = 0 ∧ (b1.length : Int) = wide ∧ getS b1 = (n, 0))) := by
    unfold putS
    split
    · exact ⟨_, _, rfl, .inl rfl⟩
    · split
      · exact ⟨_, _, rfl, .inl rfl⟩
      · rename_i h1 h2
        have h0 : n / 256 ^ wide.toNat = 0 := by omega
        refine ⟨_, _, rfl, .inr ⟨rfl, by rw [beB_len]; omega, ?_⟩⟩
        unfold getS
        rw [beB_len, if_neg (by omega), getN_beB_fit _ _ h0]
  obtain ⟨b1, e1, hs1, hor⟩ := first
  rw [hs1] at P1
  clear hs1
  have HP1 := Lib.hid P1
  clear P1 hn hw
  -- the second half: what was got is put again
  have second : (getS b = (0, 1)) ∨ (1 ≤ m ∧ m ≤ 8 ∧ getS b = (getN b, 0) ∧ putS (getN b) (m : Int) = (b, 0)) := by
    unfold getS
    rw [hlen.out]
    split
    · exact .inl rfl
    · refine .inr ⟨by omega, by omega, rfl, ?_⟩
      rw [putS_ok _ m (by omega) (by omega) (by rw [← hlen.out]; exact getN_fits b), ← hlen.out, beB_getN]
  have HSEC := Lib.hid second
  clear second
  have HOR := Lib.hid hor
  clear hor
  have HLE := Lib.hid (fun (h : m ≤ 8) => Nat.lt_of_lt_of_le (getN_lt b) (Nat.pow_le_pow_right (show 0 < 256 by decide) (show b.length ≤ 8 by rw [hlen.out]; exact h)))
  have hmid : m ≤ 140737488355328 := by omega
  rcases HOR.out with he | ⟨he, hwide, hg⟩
  · -- n was not put
    rcases HSEC.out with h2 | ⟨hm1, hm8, h2, hp2⟩
    · have H2 := Lib.hid h2
      clear h2
      go_enter Try.func5, Try.ntmps5
      go_wp2_with (go_at_call 9; refine (live_any _).mono ?_; rintro e w1 ⟨rfl, hb1⟩)
      refine (HP1.out _).mono ?_
      intro e w2 ht
      obtain ⟨A1, c1, rfl, ho1, hb2⟩ := ht.pair
      clear ht
      have hb12 := hb1.trans (hb2.mono hb1.size)
      go_wp2_with fail
      refine (wordGet_any _ _ _ _ _ _ (hs.below hb12) hmid).mono ?_
      rw [H2.out]
      rintro e w4 ⟨rfl, rfl⟩
      go_wp2_with fail
      go_ret
      exact ⟨rfl, hb12⟩
    · have H2 := Lib.hid h2
      have HQ := Lib.hid hp2
      clear h2 hp2
      have hlt := HLE.out hm8
      have HLT := Lib.hid hlt
      clear hlt
      go_enter Try.func5, Try.ntmps5
      go_wp2_with (go_at_call 9; refine (live_any _).mono ?_; rintro e w1 ⟨rfl, hb1⟩)
      refine (HP1.out _).mono ?_
      intro e w2 ht
      obtain ⟨A1, c1, rfl, ho1, hb2⟩ := ht.pair
      clear ht
      have hb12 := hb1.trans (hb2.mono hb1.size)
      go_wp2_with fail
      refine (wordGet_any _ _ _ _ _ _ (hs.below hb12) hmid).mono ?_
      rw [H2.out]
      rintro e w4 ⟨rfl, rfl⟩
      go_wp2_with fail
      refine (wordPut_any _ _ _ HLT.out).mono ?_
      rw [HQ.out]
      intro e w5 ht
      obtain ⟨A2, c2, rfl, ho2, hb3⟩ := ht.pair
      clear ht
      have hb123 := hb12.trans (hb3.mono hb12.size)
      go_wp2_with fail
      refine (Same_any _ _ _ _ _ _ _ _ _ _ _ ho2.sl (hs.below hb123)).mono ?_
      rw [decide_eq_true rfl]
      rintro e w6 ⟨rfl, rfl⟩
      go_wp2_with fail
      go_ret
      exact ⟨rfl, hb123⟩
  · subst he
    have hne : ((b1.length : Int) != wide) = false := by rw [hwide]; simp
    have hgh := Lib.hid hg
    clear hg hwide
    have hb8 : b1.length ≤ 140737488355328 := by
      have := hgh.out
      unfold getS at this
      split at this
      · simp at this
      · omega
    rcases HSEC.out with h2 | ⟨hm1, hm8, h2, hp2⟩
    · have H2 := Lib.hid h2
      clear h2
      go_enter Try.func5, Try.ntmps5
      go_wp2_with (go_at_call 9; refine (live_any _).mono ?_; rintro e w1 ⟨rfl, hb1⟩)
      refine (HP1.out _).mono ?_
      intro e w2 ht
      obtain ⟨A1, c1, rfl, ho1, hb2⟩ := ht.pair
      clear ht
      have hb12 := hb1.trans (hb2.mono hb1.size)
      go_wp2_with fail
      refine (wordGet_any _ _ _ _ _ _ ho1.sl hb8).mono ?_
      rw [hgh.out]
      rintro e w3 ⟨rfl, rfl⟩
      go_wp2_with fail
      refine (wordGet_any _ _ _ _ _ _ (hs.below hb12) hmid).mono ?_
      rw [H2.out]
      rintro e w4 ⟨rfl, rfl⟩
      go_wp2_with fail
      go_ret
      exact ⟨rfl, hb12⟩
    · have H2 := Lib.hid h2
      have HQ := Lib.hid hp2
      clear h2 hp2
      have hlt := HLE.out hm8
      have HLT := Lib.hid hlt
      clear hlt
      go_enter Try.func5, Try.ntmps5
      go_wp2_with (go_at_call 9; refine (live_any _).mono ?_; rintro e w1 ⟨rfl, hb1⟩)
      refine (HP1.out _).mono ?_
      intro e w2 ht
      obtain ⟨A1, c1, rfl, ho1, hb2⟩ := ht.pair
      clear ht
      have hb12 := hb1.trans (hb2.mono hb1.size)
      go_wp2_with fail
      refine (wordGet_any _ _ _ _ _ _ ho1.sl hb8).mono ?_
      rw [hgh.out]
      rintro e w3 ⟨rfl, rfl⟩
      go_wp2_with fail
      refine (wordGet_any _ _ _ _ _ _ (hs.below hb12) hmid).mono ?_
      rw [H2.out]
      rintro e w4 ⟨rfl, rfl⟩
      go_wp2_with fail
      refine (wordPut_any _ _ _ HLT.out).mono ?_
      rw [HQ.out]
      intro e w5 ht
      obtain ⟨A2, c2, rfl, ho2, hb3⟩ := ht.pair
      clear ht
      have hb123 := hb12.trans (hb3.mono hb12.size)
      go_wp2_with fail
      refine (Same_any _ _ _ _ _ _ _ _ _ _ _ ho2.sl (hs.below hb123)).mono ?_
      rw [decide_eq_true rfl]
      rintro e w6 ⟨rfl, rfl⟩
      go_wp2_with fail
      go_ret
      exact ⟨rfl, hb123⟩
end Go.Proofs.Ytnkkmnffcbakpaa
