/- The walk of the law WordTexts. -/
import Derived.Test.YtnkkmnffcbakpaaOpen
import Derived.Test.YtnkkmnffcbakpaaLive03
import Derived.Test.YtnkkmnffcbakpaaWordP
namespace Go.Proofs.Ytnkkmnffcbakpaa
set_option linter.unusedSimpArgs false
set_option linter.unusedVariables false
open Go.RowKit

set_option maxHeartbeats 1600000 in
theorem walk_WordTexts (W : World) (v0 v1 v2 : Value) (o0 : Opn W 23 v0) (o1 : Opn W 3 v1) (o2 : Opn W 23 v2) :
    Calls Try.prog 4 #[v0, v1, v2] W fun e w' => e = .returned (.bool true) ∧ Below W.heap.size W w' := by
  obtain ⟨A0, n, c0, t, rfl, ht0, hm0⟩ := o0.bytes
  obtain ⟨wide, rfl, hw⟩ := o1.i64 Try.underlying3
  obtain ⟨A, m, c, b, rfl, hs, hm⟩ := o2.bytes
  unfold maxLen at hm hm0
  have hcap := hs.cap
  have hcap0 := ht0.cap
  clear hw
  by_cases hl : 400 < n ∨ 400 < m
  · have hn63 : (n : Int) ≤ 9223372036854775807 := by omega
    have hm63 : (m : Int) ≤ 9223372036854775807 := by omega
    by_cases hl1 : 400 < n
    · go_enter Try.func4, Try.ntmps4
      go_wp2_with (go_at_call 9; refine (live_any _).mono ?_; rintro e w1 ⟨rfl, hb1⟩)
      go_ret
      exact ⟨rfl, hb1⟩
    · have hl2 : 400 < m := by omega
      go_enter Try.func4, Try.ntmps4
      go_wp2_with (go_at_call 9; refine (live_any _).mono ?_; rintro e w1 ⟨rfl, hb1⟩)
      go_ret
      exact ⟨rfl, hb1⟩
  have hn4 : n ≤ 400 := by omega
  have hm4 : m ≤ 400 := by omega
  clear hl
  have P1 := fun (w : World) (h : SlB w W.heap.size A0 n c0 t) (hB : W.heap.size ≤ w.heap.size) => wordFill_any w _ _ _ _ _ wide h hB (show n ≤ 140737488355328 by omega)
  have P2 := fun (w : World) (h : SlB w W.heap.size A0 n c0 t) (hB : W.heap.size ≤ w.heap.size) => refFill_any w _ _ _ _ _ wide h hB (show n ≤ 140737488355328 by omega)
  have P3 := fun (w : World) (h : SlB w W.heap.size A m c b) (hB : W.heap.size ≤ w.heap.size) => wordUnfill_any w _ _ _ _ _ h hB (show m ≤ 140737488355328 by omega)
  have P4 := fun (w : World) (h : SlB w W.heap.size A m c b) (hB : W.heap.size ≤ w.heap.size) => refUnfill_any w _ _ _ _ _ h hB (show m ≤ 140737488355328 by omega)
  have hx400 : (unfillS b).1.length ≤ m := by
    unfold unfillS
    split
    · simp
    · split
      · simp
      · simp; have := hs.len; omega
  generalize fillS t wide = r at P1 P2
  generalize unfillS b = q at P3 P4 hx400
  obtain ⟨b1, e1⟩ := r
  obtain ⟨x, e2⟩ := q
  replace hx400 : x.length ≤ m := hx400
  have HP1 := Lib.hid P1
  have HP2 := Lib.hid P2
  have HP3 := Lib.hid P3
  have HP4 := Lib.hid P4
  clear P1 P2 P3 P4
  have he1 : (e1 == e1) = true := by simp
  have he2 : (e2 == e2) = true := by simp
  go_enter Try.func4, Try.ntmps4
  go_wp2_with (first | (go_at_call 9; refine (live_any _).mono ?_; rintro e w1 ⟨rfl, hb1⟩) | (at_builtin; refine wpList_append_b rfl (.const (.slice none 0 0)) (.tmp 28) rfl w1.heap.size none 0 0 [] rfl (OwnB.nil _ _) _ A m c b rfl (hs.below hb1) (by omega) (Nat.le_refl _) ?_; intro A2 c2 w2 how hgw hb2))
  rw [Nat.zero_add, List.nil_append] at how
  have hb12 := hb1.trans (hb2.mono hb1.size)
  refine (HP1.out _ (ht0.below hb12) hb12.size).mono ?_
  intro e w3 ht
  obtain ⟨A3, c3, rfl, ho3, hb3⟩ := ht.pair
  clear ht
  have hb13 := hb12.trans (hb3.mono hb12.size)
  go_wp2_with fail
  refine (HP2.out _ (ht0.below hb13) hb13.size).mono ?_
  intro e w4 ht
  obtain ⟨A4, c4, rfl, ho4, hb4⟩ := ht.pair
  clear ht
  have hb14 := hb13.trans (hb4.mono hb13.size)
  go_wp2_with fail
  refine (HP3.out _ (hs.below hb14) hb14.size).mono ?_
  intro e w5 ht
  obtain ⟨A5, c5, rfl, ho5, hb5⟩ := ht.pair
  clear ht
  have hb15 := hb14.trans (hb5.mono hb14.size)
  go_wp2_with fail
  refine (HP4.out _ (hs.below hb15) hb15.size).mono ?_
  intro e w6 ht
  obtain ⟨A6, c6, rfl, ho6, hb6⟩ := ht.pair
  clear ht
  have hb16 := hb15.trans (hb6.mono hb15.size)
  go_wp2_with fail
  refine (Same_any _ _ _ _ _ _ _ _ _ _ _ (((ho3.sl.below hb4).below (hb5.mono hb4.size)).below (hb6.mono (Nat.le_trans hb4.size hb5.size))) ((ho4.sl.below hb5).below (hb6.mono hb5.size))).mono ?_
  rw [decide_eq_true rfl]
  rintro e w7 ⟨rfl, rfl⟩
  go_wp2_with fail
  refine (Same_any _ _ _ _ _ _ _ _ _ _ _ (ho5.sl.below hb6) ho6.sl).mono ?_
  rw [decide_eq_true rfl]
  rintro e w7 ⟨rfl, rfl⟩
  go_wp2_with fail
  have hox := ho5.below hb6 (Nat.le_refl _)
  have hz := hb6.size
  go_loopw [72] (fun i wr => ∃ (k : Nat) (x' : List UInt8), k ≤ x.length ∧ i = .int .i64 k ∧ OwnB wr w4.heap.size A5 x.length c5 x' ∧ Below w4.heap.size w6 wr) (fun i _ => x.length - (intOf i).toNat)
  case atStart => exact ⟨0, x, Nat.zero_le _, rfl, hox, Below.refl _ _⟩
  case round =>
    obtain ⟨k, x', hk, rfl, hown, hb⟩ := hrel
    by_cases hlt : k < x.length
    · obtain ⟨g, rfl, hg, _⟩ := hown.head (by omega)
      obtain ⟨y, hc, _, hy⟩ := hown.cell hlt
      have hf := hown.free k
      go_wp2
      go_roundw
      case rel =>
        refine ⟨k + 1, x'.set k (UInt8.ofNat (y.toNat + 1)), by omega, by go_num, hown.store k ?_, hb.setCell hg _⟩
        rw [bv_ofNat]
        simp
      case measure => simp [intOf]; omega
    · obtain rfl : k = x.length := by omega
      have h4 : Below w4.heap.size w4 wr := (hb5.trans (hb6.mono hb5.size)).trans hb
      have hbz := hb14.trans (h4.mono hb14.size)
      go_wp2_with fail
      refine (Same_any _ _ _ _ _ _ _ _ _ _ _ (hs.below hbz) (((how.sl.below hb3).below (hb4.mono hb3.size)).below (h4.mono (Nat.le_trans hb3.size hb4.size)))).mono ?_
      rw [decide_eq_true rfl]
      rintro e w7 ⟨rfl, rfl⟩
      go_wp2_with fail
      go_ret
      exact ⟨rfl, hbz⟩
end Go.Proofs.Ytnkkmnffcbakpaa
