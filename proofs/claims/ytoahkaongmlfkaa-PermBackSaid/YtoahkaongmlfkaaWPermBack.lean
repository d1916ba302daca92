/- The walk of the law PermBack. -/
import Derived.Test.YtoahkaongmlfkaaOpenI
import Derived.Test.YtoahkaongmlfkaaPermA
namespace Go.Proofs.Ytoahkaongmlfkaa
set_option linter.unusedSimpArgs false
set_option linter.unusedVariables false
open Go.RowKit

theorem fewS_spec {l : List (List UInt8)} (h : fewS l = true) : l.length ≤ 60 ∧ ∀ bs ∈ l, bs.length ≤ 1000000 := by
  unfold fewS at h
  rw [Bool.and_eq_true] at h
  refine ⟨by simpa using h.2, fun bs hb => ?_⟩
  have := List.all_eq_true.1 h.1 bs hb
  have := of_decide_eq_true this
  omega
theorem appL_big {l : List Int} {xs : List (List UInt8)} (h : ∀ bs ∈ xs, bs.length ≤ 1000000) : ∀ bs ∈ appL l xs, bs.length ≤ 1000000 := by
  intro bs hb
  unfold appL at hb
  obtain ⟨z, _, rfl⟩ := List.mem_map.1 hb
  simp only [List.getD]
  cases hx : xs[z.toNat]? with
  | none => simp
  | some y => exact h y (List.mem_of_getElem? hx)

set_option maxHeartbeats 1600000 in
theorem walk_PermBack (W : World) (v0 v1 : Value) (o0 : Opn W 22 v0) (o1 : Opn W 29 v1) :
    Calls Try.prog 6 #[v0, v1] W fun e w' => e = .returned (.bool true) ∧ Below W.heap.size W w' := by
  obtain ⟨A, n, c, l, rfl, hs, hm, hz⟩ := o0.ints
  obtain ⟨A1, m, g, xs, rfl, hx, hm1⟩ := o1.parts
  clear o0 o1 hz
  unfold maxLen at hm hm1
  have hcap := hs.cap
  have hcap1 := hx.cap
  have FW := Lib.hid fun w (hb : Below W.heap.size W w) => few_any w _ _ _ _ _ (hx.below hb) (by omega)
  by_cases hl : 60 < n
  · go_enter Try.func6, Try.ntmps6
    go_wp2_with (go_at_call 10; refine (live11_any _).mono ?_; rintro e w1 ⟨rfl, hbw⟩)
    go_ret
    exact ⟨rfl, hbw⟩
  cases hf : fewS xs
  · rw [hf] at FW
    go_enter Try.func6, Try.ntmps6
    go_wp2_with (first | (go_at_call 10; refine (live11_any _).mono ?_; rintro e w1 ⟨rfl, hbw⟩) | (go_at_call 14; refine (FW.out _ hbw).mono ?_; rintro x w2 ⟨rfl, rfl⟩))
    go_ret
    exact ⟨rfl, hbw⟩
  rw [hf] at FW
  obtain ⟨hx60, hbig⟩ := fewS_spec hf
  have hxl := Lib.hid hx.len
  have hlen := Lib.hid hs.len
  have hm60 : m ≤ 60 := by rw [← hx.len]; exact hx60
  have IV := Lib.hid fun w (hb : Below W.heap.size W w) => inverse_any w _ _ _ _ _ (hs.below hb) hb.size (by omega)
  have CK := Lib.hid fun w (hb : Below W.heap.size W w) => permCheck_any w _ _ _ _ _ (hs.below hb) hb.size (by omega)
  have AP := Lib.hid fun w (hb : Below W.heap.size W w) => apply_any w _ _ _ _ _ _ _ _ _ _ (hs.below hb) (hx.below hb) hb.size hb.size (by omega) (by omega) hbig
  have hbig2 := Lib.hid (appL_big (l := l) hbig)
  clear hf hbig
  rcases chkP_cases l with ⟨hc, hok⟩ | ⟨hc, hok⟩
  case inr =>
    have HI : Hid (invS l = ([], 1)) := Lib.hid (by unfold invS; rw [hc]; rfl)
    rw [HI.out] at IV
    rw [hc] at CK
    clear hc hok HI AP
    go_enter Try.func6, Try.ntmps6
    go_wp2_with (first | (go_at_call 10; refine (live11_any _).mono ?_; rintro e w1 ⟨rfl, hbw⟩) | (go_at_call 14; refine (FW.out _ hbw).mono ?_; rintro x w2 ⟨rfl, rfl⟩))
    refine (IV.out _ hbw).mono ?_
    rintro x w3 ⟨A3, c3, rfl, ho3, hb3⟩
    replace hbw := after_next hbw hb3
    go_wp2_with fail
    refine (CK.out _ hbw).mono ?_
    rintro x w4 ⟨rfl, hb4⟩
    go_wp2_with fail
    go_ret
    exact ⟨rfl, after_next hbw hb4⟩
  have HI : Hid (invS l = (invL l, 0)) := Lib.hid (by unfold invS; rw [if_pos hc])
  have HL : Hid ((invL l).length = n) := Lib.hid (by rw [invL_len]; exact hlen.out)
  have HQ : Hid (invS (invL l) = (l, 0)) := Lib.hid (by unfold invS; rw [if_pos (by unfold chkP; rw [okP_inv hok]; rfl), inv_inv hok])
  rw [HI.out] at IV
  by_cases hmn : m = n
  · subst hmn
    have HA : Hid (appS l xs = (appL l xs, 0)) := Lib.hid (by unfold appS; rw [if_pos hc, if_pos (by rw [hlen.out, hxl.out])])
    have HB : Hid (appS (invL l) (appL l xs) = (xs, 0)) := Lib.hid (by
      unfold appS
      rw [if_pos (by unfold chkP; rw [okP_inv hok]; rfl), if_pos (by rw [appL_len, invL_len]), app_back hok xs (by rw [hlen.out, hxl.out])])
    have HAL : Hid ((appL l xs).length = m) := Lib.hid (by rw [appL_len]; exact hlen.out)
    rw [HA.out] at AP
    clear hc hok HI HA CK
    generalize invL l = q at *
    generalize appL l xs = y at *
    go_enter Try.func6, Try.ntmps6
    go_wp2_with (first | (go_at_call 10; refine (live11_any _).mono ?_; rintro e w1 ⟨rfl, hbw⟩) | (go_at_call 14; refine (FW.out _ hbw).mono ?_; rintro x w2 ⟨rfl, rfl⟩))
    refine (IV.out _ hbw).mono ?_
    rintro x w3 ⟨A3, c3, rfl, ho3, hb3⟩
    replace ho3 : OwnI w3 _ A3 q.length c3 q := ho3
    have HL' := HL.out
    rw [HL'] at ho3
    replace hbw := after_next hbw hb3
    have s3 := ho3.sl
    clear hb3 ho3
    go_wp2_with fail
    try rw [HL']
    refine (inverse_any _ _ _ _ _ _ s3 (Nat.le_refl _) (by omega)).mono ?_
    rw [HQ.out]
    rintro x w4 ⟨A4, c4, rfl, ho4, hb4⟩
    replace ho4 : OwnI w4 _ A4 l.length c4 l := ho4
    have hlen' := hlen.out
    rw [hlen'] at ho4
    replace s3 := s3.next hb4
    replace hbw := after_next hbw hb4
    clear hb4
    go_wp2_with fail
    try rw [hlen']
    refine (SameInts_any _ _ _ _ _ _ _ _ _ _ _ ho4.sl (hs.below hbw) (by omega)).mono ?_
    rw [decide_eq_true rfl]
    rintro x w5 ⟨rfl, k5, rfl⟩
    replace hbw := hbw.trans (below_draws _ _ k5)
    replace s3 := (s3.drewN k5).up (B' := (w4.drewN k5).heap.size) (Nat.le_of_eq (by simp))
    clear hlen' ho4
    go_wp2_with fail
    refine (AP.out _ hbw).mono ?_
    rintro x w6 ⟨A6, c6, rfl, ho6, hb6⟩
    replace ho6 : OwnP w6 _ A6 y.length c6 y := ho6
    have HAL' := HAL.out
    rw [HAL'] at ho6
    replace s3 := s3.next hb6
    replace hbw := after_next hbw hb6
    clear hb6
    go_wp2_with fail
    try rw [HAL']
    refine (apply_any _ _ _ _ _ _ _ _ _ _ _ s3 ho6.sl (Nat.le_refl _) (Nat.le_refl _) (by omega) (by omega) hbig2.out).mono ?_
    rw [HB.out]
    rintro x w7 ⟨A7, c7, rfl, ho7, hb7⟩
    replace ho7 : OwnP w7 _ A7 xs.length c7 xs := ho7
    have hxl' := hxl.out
    rw [hxl'] at ho7
    replace hbw := after_next hbw hb7
    clear hb7
    go_wp2_with fail
    try rw [hxl']
    refine (SameParts_any _ _ _ _ _ _ _ _ _ _ _ ho7.sl (hx.below hbw) (Nat.le_refl _) hbw.size (by omega)).mono ?_
    rw [decide_eq_true rfl]
    rintro x w8 ⟨rfl, hb8⟩
    go_wp2_with fail
    go_ret
    exact ⟨by simp, after_next hbw hb8⟩
  · have HA : Hid (appS l xs = ([], 1)) := Lib.hid (by unfold appS; rw [if_pos hc, if_neg (by rw [hlen.out, hxl.out]; exact hmn)])
    rw [HA.out] at AP
    have hmne : ((m : Int) != n) = true := bne_iff_ne.2 (by omega)
    clear hc hok HI HA CK
    generalize invL l = q at *
    go_enter Try.func6, Try.ntmps6
    go_wp2_with (first | (go_at_call 10; refine (live11_any _).mono ?_; rintro e w1 ⟨rfl, hbw⟩) | (go_at_call 14; refine (FW.out _ hbw).mono ?_; rintro x w2 ⟨rfl, rfl⟩))
    refine (IV.out _ hbw).mono ?_
    rintro x w3 ⟨A3, c3, rfl, ho3, hb3⟩
    replace ho3 : OwnI w3 _ A3 q.length c3 q := ho3
    have HL' := HL.out
    rw [HL'] at ho3
    replace hbw := after_next hbw hb3
    have s3 := ho3.sl
    clear hb3 ho3
    go_wp2_with fail
    try rw [HL']
    refine (inverse_any _ _ _ _ _ _ s3 (Nat.le_refl _) (by omega)).mono ?_
    rw [HQ.out]
    rintro x w4 ⟨A4, c4, rfl, ho4, hb4⟩
    replace ho4 : OwnI w4 _ A4 l.length c4 l := ho4
    have hlen' := hlen.out
    rw [hlen'] at ho4
    replace hbw := after_next hbw hb4
    clear hb4
    go_wp2_with fail
    try rw [hlen']
    refine (SameInts_any _ _ _ _ _ _ _ _ _ _ _ ho4.sl (hs.below hbw) (by omega)).mono ?_
    rw [decide_eq_true rfl]
    rintro x w5 ⟨rfl, k5, rfl⟩
    replace hbw := hbw.trans (below_draws _ _ k5)
    clear hlen' ho4
    go_wp2_with fail
    refine (AP.out _ hbw).mono ?_
    rintro x w6 ⟨A6, c6, rfl, ho6, hb6⟩
    replace hbw := after_next hbw hb6
    go_wp2_with fail
    go_ret
    exact ⟨by simp, hbw⟩
end Go.Proofs.Ytoahkaongmlfkaa
