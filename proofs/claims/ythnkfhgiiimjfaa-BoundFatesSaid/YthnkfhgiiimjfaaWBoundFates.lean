/- The walk of the law BoundFates. -/
import Derived.Test.YthnkfhgiiimjfaaOpenF
import Derived.Test.YthnkfhgiiimjfaaFine
namespace Go.Proofs.Ythnkfhgiiimjfaa
set_option linter.unusedSimpArgs false
set_option linter.unusedVariables false
open Go.RowKit

theorem Opn.ints {W : World} {v : Value} (h : Opn W 27 v) : ∃ A m c zs, v = .slice A m c ∧ SlI W W.heap.size A m c zs ∧ c ≤ maxLen := by
  obtain ⟨H, enc, base, d, p, hv, hd⟩ := h
  obtain ⟨A, n, c, rfl⟩ := Go.WideShapes.okWide_slice Try.underlying27 hv
  obtain ⟨fuel, hf⟩ := hd
  obtain ⟨A', m', c', zs, he, hs, hm, _⟩ := trod_ints Try.underlying27 Try.underlying3 (by kernel_rfl) hf
  cases he
  exact ⟨_, _, _, zs, rfl, hs, hm⟩

set_option maxHeartbeats 1600000 in
theorem walk_BoundFates (W : World) (v0 v1 v2 : Value) (o0 : Opn W 27 v0) (o1 : Opn W 27 v1) (o2 : Opn W 3 v2) :
    Calls Try.prog 6 #[v0, v1, v2] W fun e w' => e = .returned (.bool true) ∧ Below W.heap.size W w' := by
  obtain ⟨A, n, c, a, rfl, ha, hma⟩ := o0.ints
  obtain ⟨B, m, g, b, rfl, hb, hmb⟩ := o1.ints
  obtain ⟨d, rfl, hd⟩ := o2.i64 Try.underlying3
  clear o0 o1 o2
  unfold maxLen at hma hmb
  have hca := ha.cap
  have hcb := hb.cap
  by_cases hl : 200 < n ∨ (¬ 200 < n ∧ 200 < m)
  · rcases hl with h1 | ⟨h1, h2⟩
    all_goals
      go_enter Try.func6, Try.ntmps6
      go_wp2_with (go_at_call 7; refine (live22_any _).mono ?_; rintro e w1 ⟨rfl, rfl⟩)
      go_ret
      exact ⟨rfl, Below.refl _ _⟩
  have hl1 : ¬ 200 < n := by omega
  have hl2 : ¬ 200 < m := by omega
  clear hl
  have FA := Lib.hid fun w (hw : Below W.heap.size W w) => Fine_any w _ _ _ _ _ d (ha.below hw) (by omega)
  have FB := Lib.hid fun w (hw : Below W.heap.size W w) => Fine_any w _ _ _ _ _ d (hb.below hw) (by omega)
  have FN := Lib.hid fun w => Fine_any w 0 none 0 0 [] d (SlI.none_ _ _ _ _) (by decide)
  have hab : Hid (fineS (a ++ b) d = (fineS a d && fineS b d)) := Lib.hid (by unfold fineS; exact List.all_append)
  have hlen := Lib.hid ha.len
  have HA := Lib.hid ha
  have HB := Lib.hid hb
  have hn0 : Hid (fineS [] d = true) := Lib.hid rfl
  rw [hn0.out] at FN
  go_enter Try.func6, Try.ntmps6
  go_wp2_with (go_at_call 7; refine (live22_any _).mono ?_; rintro e w1 ⟨rfl, rfl⟩)
  go_loopw [7, 22] (fun o i wr => ∃ k : Nat, k ≤ n ∧ i = .int .i64 k ∧ o = .bool (fineS (a.take k) d) ∧ Below W.heap.size W wr) (fun _ i _ => n - (intOf i).toNat)
  case atStart => exact ⟨0, Nat.zero_le _, rfl, rfl, Below.refl _ _⟩
  case round =>
    obtain ⟨k, hk, rfl, rfl, hw⟩ := hrel
    by_cases hlt : k < n
    · obtain ⟨p, z, rfl, _, hcell, hz⟩ := (ha.below hw).at_ hlt
      have HZ := Lib.hid hz
      clear hz
      cases hf : fineS (a.take k) d
      · go_wp2_with fail
        go_roundw
        case rel =>
          refine ⟨k + 1, by omega, by simp, ?_, hw⟩
          rw [take_nextI HZ.out]
          unfold fineS at hf ⊢
          rw [List.all_append, hf]; rfl
        case measure => simp [intOf]; omega
      · go_wp2_with (go_at_call 9; refine (Fine_any _ _ _ _ _ _ _ (SlI.laid wr #[.int .i64 z] 3 (0, 0) [z] 1 rfl rfl) (by decide)).mono ?_; rintro e w2 ⟨rfl, rfl⟩)
        go_roundw
        case rel =>
          refine ⟨k + 1, by omega, by simp, ?_, hw.alloc hw.size _⟩
          rw [take_nextI HZ.out]
          unfold fineS at hf ⊢
          rw [List.all_append, hf]; rfl
        case measure => simp [intOf]; omega
    · obtain rfl : k = n := by omega
      rw [List.take_of_length_le (by rw [hlen.out]; exact Nat.le_refl _)]
      generalize fineS a d = fa at FA hab
      generalize fineS b d = fb at FB hab
      cases fa <;> cases fb
      all_goals
        go_wp2_with (first | (at_builtin; refine wpList_append_i rfl (.const (.slice none 0 0)) (.tmp 40) rfl W.heap.size none 0 0 [] rfl (OwnI.nil _ _) _ A k c a rfl (HA.out.below hw) (by omega) hw.size ?_; intro A2 c2 w2 ho2 hg2 hb2; rw [Nat.zero_add, List.nil_append] at ho2; have hz2 := hb2.size) | (at_builtin; refine wpList_append_i rfl (.tmp 41) (.tmp 42) rfl W.heap.size A2 _ _ _ rfl ho2 _ B m g b rfl (HB.out.below (hw.trans hb2)) (by omega) (by have := hw.size; omega) ?_; intro A3 c3 w3 ho3 hg3 hb3; have hw3 := (hw.trans hb2).trans hb3; have F3 := Lib.hid (Fine_any w3 _ _ _ _ _ d ho3.sl (by omega))) | (go_at_call 9; first | (with_reducible refine (FA.out _ hw).mono ?_; rintro e w4 ⟨rfl, rfl⟩) | (with_reducible refine F3.out.mono ?_; rw [hab.out]; rintro e w4 ⟨rfl, rfl⟩) | (with_reducible refine (FA.out _ hw3).mono ?_; rintro e w4 ⟨rfl, rfl⟩) | (with_reducible refine (FB.out _ hw3).mono ?_; rintro e w4 ⟨rfl, rfl⟩) | (with_reducible refine (FN.out _).mono ?_; rintro e w4 ⟨rfl, rfl⟩)))
        go_ret
        exact ⟨by simp, hw3⟩
end Go.Proofs.Ythnkfhgiiimjfaa
