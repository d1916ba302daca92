/- The walk of the law PermTurns. -/
import Derived.Test.YtoahkaongmlfkaaOpenI
import Derived.Test.YtoahkaongmlfkaaPermF
namespace Go.Proofs.Ytoahkaongmlfkaa
set_option linter.unusedSimpArgs false
set_option linter.unusedVariables false
open Go.RowKit

theorem fewS_spec {l : List (List UInt8)} (h : fewS l = true) : l.length ≤ 60 ∧ ∀ bs ∈ l, bs.length ≤ 1000000 := by
  unfold fewS at h
  rw [Bool.and_eq_true] at h
  refine ⟨by simpa using h.2, fun bs hb => ?_⟩
  have := List.all_eq_true.1 h.1 bs hb
  have := of_decide_eq_true this
  omega

theorem invS_len {l : List Int} {n : Nat} (h : l.length = n) : (invS l).1.length ≤ n := by
  unfold invS
  split
  · simp only [invL_len]; omega
  · simp
theorem appS_len {l : List Int} {xs : List (List UInt8)} {n : Nat} (h : l.length = n) : (appS l xs).1.length ≤ n := by
  unfold appS
  split
  · split
    · simp only [appL_len]; omega
    · simp
  · simp

set_option maxHeartbeats 1600000 in
theorem walk_PermTurns (W : World) (v0 v1 : Value) (o0 : Opn W 22 v0) (o1 : Opn W 29 v1) :
    Calls Try.prog 4 #[v0, v1] W fun e w' => e = .returned (.bool true) ∧ Below W.heap.size W w' := by
  obtain ⟨A, n, c, l, rfl, hs, hm, hz⟩ := o0.ints
  obtain ⟨A1, m, g, xs, rfl, hx, hm1⟩ := o1.parts
  clear o0 o1 hz
  unfold maxLen at hm hm1
  have hcap := hs.cap
  have hcap1 := hx.cap
  have FW := Lib.hid fun w (hb : Below W.heap.size W w) => few_any w _ _ _ _ _ (hx.below hb) (by omega)
  by_cases hl : 60 < n
  · go_enter Try.func4, Try.ntmps4
    go_wp2_with (go_at_call 10; refine (live11_any _).mono ?_; rintro e w1 ⟨rfl, hbw⟩)
    go_ret
    exact ⟨rfl, hbw⟩
  cases hf : fewS xs
  · rw [hf] at FW
    go_enter Try.func4, Try.ntmps4
    go_wp2_with (first | (go_at_call 10; refine (live11_any _).mono ?_; rintro e w1 ⟨rfl, hbw⟩) | (go_at_call 14; refine (FW.out _ hbw).mono ?_; rintro x w2 ⟨rfl, rfl⟩))
    go_ret
    exact ⟨rfl, hbw⟩
  rw [hf] at FW
  obtain ⟨hx60, hbig⟩ := fewS_spec hf
  have hm60 : m ≤ 60 := by rw [← hx.len]; exact hx60
  have hlen := Lib.hid hs.len
  have I1 := Lib.hid fun w (hb : Below W.heap.size W w) => inverse_any w _ _ _ _ _ (hs.below hb) hb.size (by omega)
  have I2 := Lib.hid fun w (hb : Below W.heap.size W w) => refInverse_any w _ _ _ _ _ (hs.below hb) hb.size (by omega)
  have C1 := Lib.hid fun w (hb : Below W.heap.size W w) => permCheck_any w _ _ _ _ _ (hs.below hb) hb.size (by omega)
  have C2 := Lib.hid fun w (hb : Below W.heap.size W w) => refPermCheck_any w _ _ _ _ _ (hs.below hb) hb.size (by omega)
  have A3 := Lib.hid fun w (hb : Below W.heap.size W w) => apply_any w _ _ _ _ _ _ _ _ _ _ (hs.below hb) (hx.below hb) hb.size hb.size (by omega) (by omega) hbig
  have A4 := Lib.hid fun w (hb : Below W.heap.size W w) => refApply_any w _ _ _ _ _ _ _ _ _ _ (hs.below hb) (hx.below hb) hb.size hb.size (by omega) (by omega) hbig
  have hil := invS_len (l := l) hlen.out
  have hal := appS_len (l := l) (xs := xs) hlen.out
  clear hf hbig
  generalize invS l = iv_ at *
  generalize appS l xs = ap_ at *
  generalize chkP l = ch at *
  obtain ⟨q, e1⟩ := iv_
  obtain ⟨y, e2⟩ := ap_
  replace hil : q.length ≤ n := hil
  replace hal : y.length ≤ n := hal
  go_enter Try.func4, Try.ntmps4
  go_wp2_with (first | (go_at_call 10; refine (live11_any _).mono ?_; rintro e w1 ⟨rfl, hbw⟩) | (go_at_call 14; refine (FW.out _ hbw).mono ?_; rintro x w2 ⟨rfl, rfl⟩) | (at_builtin; go_loud (refine wpList_append_i rfl (.const (.slice none 0 0)) (.tmp 26) rfl W.heap.size none 0 0 [] rfl (OwnI.nil _ _) _ A n c l rfl (hs.below hbw) (by omega) hbw.size ?_); intro Aw cw w3 how hgw hb3; replace hbw := hbw.trans hb3; simp only [Nat.zero_add, List.nil_append] at how))
  have hb0 := hbw
  have sw := how.sl
  refine (I1.out _ hbw).mono ?_
  rintro x w4 ⟨A5, c5, rfl, ho5, hb4⟩
  replace ho5 : OwnI w4 w3.heap.size A5 q.length c5 q := ho5
  have hb34 := hb4
  replace hbw := after_next hbw hb4
  go_wp2_with fail
  refine (I2.out _ hbw).mono ?_
  rintro x w5 ⟨A6, c6, rfl, ho6, hb5⟩
  replace ho6 : OwnI w5 w4.heap.size A6 q.length c6 q := ho6
  replace ho5 := OwnI.below ho5 hb5 (Nat.le_refl _)
  replace hb34 := after_next hb34 hb5
  replace hbw := after_next hbw hb5
  go_wp2_with fail
  refine (A3.out _ hbw).mono ?_
  rintro x w6 ⟨A7, c7, rfl, ho7, hb6⟩
  replace ho7 : OwnP w6 w5.heap.size A7 y.length c7 y := ho7
  replace ho5 := OwnI.below ho5 hb6 (Nat.le_refl _)
  replace ho6 := OwnI.below ho6 hb6 (Nat.le_refl _)
  replace hb34 := after_next hb34 hb6
  replace hbw := after_next hbw hb6
  go_wp2_with fail
  refine (A4.out _ hbw).mono ?_
  rintro x w7 ⟨A8, c8, rfl, ho8, hb7⟩
  replace ho8 : OwnP w7 w6.heap.size A8 y.length c8 y := ho8
  replace ho5 := OwnI.below ho5 hb7 (Nat.le_refl _)
  replace ho6 := OwnI.below ho6 hb7 (Nat.le_refl _)
  replace ho7 := OwnP.below ho7 hb7 (Nat.le_refl _)
  replace hb34 := after_next hb34 hb7
  replace hbw := after_next hbw hb7
  clear hb4 hb5 hb6 hb7
  go_wp2_with fail
  refine (C1.out _ hbw).mono ?_
  rintro x w8 ⟨rfl, hb8⟩
  replace ho5 := OwnI.below ho5 hb8 (Nat.le_refl _)
  replace ho6 := OwnI.below ho6 hb8 (Nat.le_refl _)
  replace ho7 := OwnP.below ho7 hb8 (Nat.le_refl _)
  replace ho8 := OwnP.below ho8 hb8 (Nat.le_refl _)
  replace hb34 := after_next hb34 hb8
  replace hbw := after_next hbw hb8
  go_wp2_with fail
  refine (C2.out _ hbw).mono ?_
  rintro x w9 ⟨rfl, hb9⟩
  replace ho5 := OwnI.below ho5 hb9 (Nat.le_refl _)
  replace ho6 := OwnI.below ho6 hb9 (Nat.le_refl _)
  replace ho7 := OwnP.below ho7 hb9 (Nat.le_refl _)
  replace ho8 := OwnP.below ho8 hb9 (Nat.le_refl _)
  replace hb34 := after_next hb34 hb9
  replace hbw := after_next hbw hb9
  clear hb8 hb9
  go_wp2_with fail
  refine (SameInts_any _ _ _ _ _ _ _ _ _ _ _ ho5.sl ho6.sl (by omega)).mono ?_
  rw [decide_eq_true rfl]
  rintro x w10 ⟨rfl, kd, rfl⟩
  have hdr := below_draws w9 w9.heap.size kd
  replace ho5 := OwnI.below ho5 hdr (Nat.le_refl _)
  replace ho7 := OwnP.below ho7 hdr (Nat.le_refl _)
  replace ho8 := OwnP.below ho8 hdr (Nat.le_refl _)
  replace hb34 := after_next hb34 hdr
  replace hbw := after_next hbw hdr
  clear ho6 hdr
  go_wp2_with fail
  refine (SameParts_any _ _ _ _ _ _ _ _ _ _ _ ho7.sl ho8.sl (Nat.le_refl _) (Nat.le_refl _) (by omega)).mono ?_
  rw [decide_eq_true rfl]
  rintro x w11 ⟨rfl, hb11⟩
  replace ho5 := OwnI.below ho5 hb11 (Nat.le_refl _)
  replace hb34 := after_next hb34 hb11
  clear ho7 ho8 hb11 hbw I1 I2 C1 C2 A3 A4
  have hql : q.length ≤ 60 := by omega
  generalize hqn : q.length = qn at *
  clear hqn
  go_wp2_with fail
  go_loopw [77] (fun i wr => ∃ (k : Nat) (ys : List Int), k ≤ qn ∧ i = .int .i64 k ∧ OwnI wr w3.heap.size A5 qn c5 ys ∧ Below w3.heap.size w3 wr) (fun i _ => qn - (intOf i).toNat)
  case atStart => exact ⟨0, q, Nat.zero_le _, rfl, ho5, hb34⟩
  case round =>
    obtain ⟨k, ys, hk, rfl, hown, hbr⟩ := hrel
    by_cases hlt : k < qn
    · obtain ⟨ga, rfl⟩ : ∃ g, A5 = some ⟨g, 0, none⟩ := by
        rcases Own.block hown with ⟨_, h, _⟩ | ⟨g, h, _⟩
        · omega
        · exact ⟨g, h⟩
      have hga : w3.heap.size ≤ ga := by
        rcases Own.block hown with ⟨h, _⟩ | ⟨g', h, hg, _⟩
        · cases h
        · cases h; exact hg
      have hyc := hown.cell hlt
      have hyf := hown.free k
      have hki : (k : Int) < qn := by omega
      go_wp2_with fail
      go_roundw
      case rel => exact ⟨k + 1, _, by omega, by simp, hown.store k _, hbr.setCell hga _⟩
      case measure => simp [intOf]; omega
    · obtain rfl : k = qn := by omega
      have hkk : ¬ (k : Int) < k := by omega
      go_wp2_with fail
      refine (SameInts_any _ _ _ _ _ _ _ _ _ _ _ (hs.below (after_next hb0 hbr)) (sw.below hbr) (by omega)).mono ?_
      rw [decide_eq_true rfl]
      rintro x w12 ⟨rfl, kd2, rfl⟩
      go_wp2_with fail
      go_ret
      exact ⟨by simp, (after_next hb0 hbr).trans (below_draws _ _ kd2)⟩
end Go.Proofs.Ytoahkaongmlfkaa
