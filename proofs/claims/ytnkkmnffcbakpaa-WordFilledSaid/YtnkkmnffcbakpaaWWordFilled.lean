/- The walk of the law WordFilled. -/
import Derived.Test.YtnkkmnffcbakpaaOpen
import Derived.Test.YtnkkmnffcbakpaaLive03
import Derived.Test.YtnkkmnffcbakpaaWordP
namespace Go.Proofs.Ytnkkmnffcbakpaa
set_option linter.unusedSimpArgs false
set_option linter.unusedVariables false
open Go.RowKit

set_option maxHeartbeats 1600000 in
theorem walk_WordFilled (W : World) (v0 v1 v2 : Value) (o0 : Opn W 23 v0) (o1 : Opn W 3 v1) (o2 : Opn W 23 v2) :
    Calls Try.prog 6 #[v0, v1, v2] W fun e w' => e = .returned (.bool true) ∧ Below W.heap.size W w' := by
  obtain ⟨A0, n, c0, t, rfl, ht0, hm0⟩ := o0.bytes
  obtain ⟨wide, rfl, hw⟩ := o1.i64 Try.underlying3
  obtain ⟨A, m, c, b, rfl, hs, hm⟩ := o2.bytes
  unfold maxLen at hm hm0
  have hcap := hs.cap
  have hcap0 := ht0.cap
  by_cases hl : 400 < n ∨ 400 < m
  · have hn63 : (n : Int) ≤ 9223372036854775807 := by omega
    have hm63 : (m : Int) ≤ 9223372036854775807 := by omega
    by_cases hl1 : 400 < n
    · go_enter Try.func6, Try.ntmps6
      go_wp2_with (go_at_call 9; refine (live_any _).mono ?_; rintro e w1 ⟨rfl, hb1⟩)
      go_ret
      exact ⟨rfl, hb1⟩
    · have hl2 : 400 < m := by omega
      go_enter Try.func6, Try.ntmps6
      go_wp2_with (go_at_call 9; refine (live_any _).mono ?_; rintro e w1 ⟨rfl, hb1⟩)
      go_ret
      exact ⟨rfl, hb1⟩
  have hn4 : n ≤ 400 := by omega
  have hm4 : m ≤ 400 := by omega
  clear hl
  have hlen := Lib.hid hs.len
  have hlen0 := Lib.hid ht0.len
  have P1 := fun (w : World) (h : SlB w W.heap.size A0 n c0 t) (hB : W.heap.size ≤ w.heap.size) => wordFill_any w _ _ _ _ _ wide h hB (show n ≤ 140737488355328 by omega)
  have first : ∃ b1 e1, fillS t wide = (b1, e1) ∧ b1.length ≤ 256 ∧ ((e1 == 0) = false ∨ (e1 = 0 ∧ (b1.length : Int) = wide + 1 ∧ wide ≤ 255 ∧ unfillS b1 = (t, 0))) := by
    unfold fillS
    split
    · exact ⟨_, _, rfl, by simp, .inl rfl⟩
    · split
      · exact ⟨_, _, rfl, by simp, .inl rfl⟩
      · rename_i h1 h2
        obtain ⟨k, rfl⟩ := Int.eq_ofNat_of_zero_le (show 0 ≤ wide by omega)
        refine ⟨_, _, rfl, by simp; omega, .inr ⟨rfl, by simp; omega, by omega, ?_⟩⟩
        rw [Int.toNat_natCast]
        exact unfill_fill t k (by omega) (by omega) (by omega)
  obtain ⟨b1, e1, hs1, hb1l, hor⟩ := first
  rw [hs1] at P1
  clear hs1
  have HP1 := Lib.hid P1
  clear P1 hw
  have second : (∃ e2, unfillS b = ([], e2) ∧ (e2 != 0) = true) ∨ ∃ x, unfillS b = (x, 0) ∧ x.length ≤ m - 1 ∧ 2 ≤ m ∧ fillS x ((m - 1 : Nat) : Int) = (b, 0) := by
    rcases hu : unfillS b with ⟨x, e2⟩
    by_cases h0 : e2 = 0
    · subst h0
      have := fill_unfill b x hu
      rw [hlen.out] at this
      exact .inr ⟨x, rfl, this.2.2.1, this.1, this.2.2.2⟩
    · refine .inl ⟨e2, ?_, bne_iff_ne.2 h0⟩
      unfold unfillS at hu
      split at hu
      · simp at hu; rw [← hu.1]
      · split at hu
        · simp at hu; rw [← hu.1]
        · simp at hu; exact absurd hu.2.symm h0
  have HOR := Lib.hid hor
  have HSEC := Lib.hid second
  clear hor second
  have hmid : m ≤ 140737488355328 := by omega
  have hb1m : b1.length ≤ 140737488355328 := by omega
  rcases HOR.out with he | ⟨he, hwide, hw255, hg⟩
  · go_enter Try.func6, Try.ntmps6
    go_wp2_with (go_at_call 9; refine (live_any _).mono ?_; rintro e w1 ⟨rfl, hb1⟩)
    refine (HP1.out _ (ht0.below hb1) hb1.size).mono ?_
    intro e w2 ht
    obtain ⟨A1, c1, rfl, ho1, hb2⟩ := ht.pair
    clear ht
    have hb12 := hb1.trans (hb2.mono hb1.size)
    go_wp2_with fail
    refine (wordUnfill_any _ _ _ _ _ _ (hs.below hb12) hb12.size hmid).mono ?_
    rcases HSEC.out with ⟨e2, hu, he2⟩ | ⟨x, hu, hxl, hm2, hf⟩
    · rw [hu]
      intro e w3 ht
      obtain ⟨A3, c3, rfl, ho3, hb3⟩ := ht.pair
      clear ht hu
      go_wp2_with fail
      go_ret
      exact ⟨rfl, hb12.trans (hb3.mono hb12.size)⟩
    · rw [hu]
      have HF := Lib.hid hf
      clear hf hu
      intro e w3 ht
      obtain ⟨A3, c3, rfl, ho3, hb3⟩ := ht.pair
      clear ht
      have hb123 := hb12.trans (hb3.mono hb12.size)
      go_wp2_with fail
      rw [show ((m : Int) - 1) = ((m - 1 : Nat) : Int) from by omega]
      refine (wordFill_any _ _ _ _ _ _ _ ho3.sl (Nat.le_refl _) (by omega)).mono ?_
      rw [HF.out]
      intro e w4 ht
      obtain ⟨A4, c4, rfl, ho4, hb4⟩ := ht.pair
      clear ht
      have hb1234 := hb123.trans (hb4.mono hb123.size)
      go_wp2_with fail
      refine (Same_any _ _ _ _ _ _ _ _ _ _ _ ho4.sl (hs.below hb1234)).mono ?_
      rw [decide_eq_true rfl]
      rintro e w5 ⟨rfl, rfl⟩
      go_wp2_with fail
      go_ret
      exact ⟨rfl, hb1234⟩
  · subst he
    have hne : ((b1.length : Int) != wide + 1) = false := by rw [hwide]; simp
    have hg' := Lib.hid hg
    have hwlo : 0 ≤ wide := by have : b1 ≠ [] := by rintro rfl; simp [unfillS] at hg
                               have := List.length_pos_iff.2 this
                               omega
    clear hg hwide
    go_enter Try.func6, Try.ntmps6
    go_wp2_with (go_at_call 9; refine (live_any _).mono ?_; rintro e w1 ⟨rfl, hb1⟩)
    refine (HP1.out _ (ht0.below hb1) hb1.size).mono ?_
    intro e w2 ht
    obtain ⟨A1, c1, rfl, ho1, hb2⟩ := ht.pair
    clear ht
    have hb12 := hb1.trans (hb2.mono hb1.size)
    go_wp2_with fail
    refine (wordUnfill_any _ _ _ _ _ _ ho1.sl (Nat.le_refl _) hb1m).mono ?_
    rw [hg'.out]
    intro e wy ht
    obtain ⟨Ay, cy, rfl, hoy, hby⟩ := ht.pair
    clear ht
    have hb12y := hb12.trans (hby.mono hb12.size)
    go_wp2_with fail
    refine (Same_any _ _ _ _ _ _ _ _ _ _ _ hoy.sl (ht0.below hb12y)).mono ?_
    rw [decide_eq_true rfl]
    rintro e w5 ⟨rfl, rfl⟩
    go_wp2_with fail
    refine (wordUnfill_any _ _ _ _ _ _ (hs.below hb12y) hb12y.size hmid).mono ?_
    rcases HSEC.out with ⟨e2, hu, he2⟩ | ⟨x, hu, hxl, hm2, hf⟩
    · rw [hu]
      intro e w3 ht
      obtain ⟨A3, c3, rfl, ho3, hb3⟩ := ht.pair
      clear ht hu
      go_wp2_with fail
      go_ret
      exact ⟨rfl, hb12y.trans (hb3.mono hb12y.size)⟩
    · rw [hu]
      have HF := Lib.hid hf
      clear hf hu
      intro e w3 ht
      obtain ⟨A3, c3, rfl, ho3, hb3⟩ := ht.pair
      clear ht
      have hb123 := hb12y.trans (hb3.mono hb12y.size)
      go_wp2_with fail
      rw [show ((m : Int) - 1) = ((m - 1 : Nat) : Int) from by omega]
      refine (wordFill_any _ _ _ _ _ _ _ ho3.sl (Nat.le_refl _) (by omega)).mono ?_
      rw [HF.out]
      intro e w4 ht
      obtain ⟨A4, c4, rfl, ho4, hb4⟩ := ht.pair
      clear ht
      have hb1234 := hb123.trans (hb4.mono hb123.size)
      go_wp2_with fail
      refine (Same_any _ _ _ _ _ _ _ _ _ _ _ ho4.sl (hs.below hb1234)).mono ?_
      rw [decide_eq_true rfl]
      rintro e w5 ⟨rfl, rfl⟩
      go_wp2_with fail
      go_ret
      exact ⟨rfl, hb1234⟩
end Go.Proofs.Ytnkkmnffcbakpaa
