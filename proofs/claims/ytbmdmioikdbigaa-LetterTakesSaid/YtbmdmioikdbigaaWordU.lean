/- The contracts of package word: texts. -/
import Derived.Test.YtbmdmioikdbigaaWord
namespace Go.Proofs.Ytbmdmioikdbigaa
set_option linter.unusedSimpArgs false
set_option linter.unusedVariables false
open Go.RowKit

set_option maxHeartbeats 400000 in
theorem noughts_any (w : World) (B : Nat) (A : Option Addr) (n c : Nat) (bs : List UInt8) (h : SlB w B A n c bs) (hn : n ≤ 140737488355328) :
    Calls Try.prog 27 #[.slice A n c] w fun e w' => e = .returned (.bool (bs.all (· == 0))) ∧ w = w' := by
  have hlen := Lib.hid h.len
  go_enter Try.func27, Try.ntmps27
  go_wp2
  go_loop [7] (fun i => ∃ k : Nat, k ≤ n ∧ i = .int .i64 k ∧ Hid ((bs.take k).all (· == 0) = true)) (fun i => n - (intOf i).toNat)
  case atStart => exact ⟨0, Nat.zero_le _, rfl, Lib.hid (by simp)⟩
  case round =>
    obtain ⟨k, hk, rfl, HA⟩ := hrel
    by_cases hlt : k < n
    · obtain ⟨p, x, rfl, _, hcell, hx, hx8⟩ := h.at_ hlt
      have HX := Lib.hid hx
      clear hx
      by_cases h0 : x = 0
      · subst h0
        go_wp2
        go_round
        case rel => exact ⟨k + 1, by omega, by go_num, Lib.hid (by rw [take_next HX.out, List.all_append, HA.out]; rfl)⟩
        case measure => simp [intOf]; omega
      · have hne : ((x.toNat : Int) != 0) = true := by
          rw [bne_iff_ne]
          intro e
          exact h0 (UInt8.toNat_inj.1 (by simpa using e))
        go_wp2
        go_ret
        refine ⟨?_, rfl⟩
        have : bs.all (· == 0) = false := by
          rw [List.all_eq_false]
          exact ⟨x, List.mem_of_getElem? HX.out, by simpa using h0⟩
        rw [this]
        rfl
    · obtain rfl : k = n := by omega
      go_wp2
      go_ret
      refine ⟨?_, rfl⟩
      have := HA.out
      rw [List.take_of_length_le (by rw [hlen.out]; exact Nat.le_refl _)] at this
      rw [this]
      rfl

/-- P3.2. -/
def unfillS (bs : List UInt8) : List UInt8 × Int :=
  if bs.length < 2 ∨ 256 < bs.length then ([], 1) else
    if bs.length - 1 < (bs.headD 0).toNat ∨ (bs.drop (1 + (bs.headD 0).toNat)).all (· == 0) = false then ([], 3) else ((bs.drop 1).take (bs.headD 0).toNat, 0)


theorem unfillS_arg (bs : List UInt8) (h : bs.length < 2 ∨ 256 < bs.length) : unfillS bs = ([], 1) := by unfold unfillS; rw [if_pos h]
theorem unfillS_form (x : UInt8) (l : List UInt8) (h1 : 1 ≤ l.length) (h2 : l.length ≤ 255) (h : l.length < x.toNat ∨ (l.drop x.toNat).all (· == 0) = false) : unfillS (x :: l) = ([], 3) := by
  unfold unfillS
  rw [if_neg (by simp only [List.length_cons]; omega), if_pos]
  simpa [Nat.add_comm 1] using h
theorem unfillS_ok (x : UInt8) (l : List UInt8) (h1 : 1 ≤ l.length) (h2 : l.length ≤ 255) (h : x.toNat ≤ l.length) (h0 : (l.drop x.toNat).all (· == 0) = true) : unfillS (x :: l) = (l.take x.toNat, 0) := by
  unfold unfillS
  rw [if_neg (by simp only [List.length_cons]; omega), if_neg]
  · simp
  · simp only [List.length_cons, List.headD_cons, Nat.add_comm 1, List.drop_succ_cons, h0]
    simp; omega

set_option maxHeartbeats 400000 in
theorem wordUnfill_any (w : World) (B : Nat) (A : Option Addr) (n c : Nat) (bs : List UInt8) (h : SlB w B A n c bs) (_hB : B ≤ w.heap.size) (hn : n ≤ 140737488355328) :
    Calls Try.prog 19 #[.slice A n c] w (TellsB w (unfillS bs)) := by
  by_cases hr : n < 2 ∨ 256 < n
  · rw [unfillS_arg bs (by rw [h.len]; exact hr)]
    rcases hr with hr | hr
    all_goals
      go_enter Try.func19, Try.ntmps19
      go_wp2
      go_ret2
      exact ⟨none, 0, rfl, OwnB.nil _ _, Below.refl _ _⟩
  · have h1 : 2 ≤ n := by omega
    have h8 : n ≤ 256 := by omega
    clear hr hn
    obtain ⟨p, x, rfl, _, hcell, hx, hx8⟩ := h.at_ (show 0 < n by omega)
    obtain ⟨l, rfl⟩ : ∃ l, bs = x :: l := by
      rcases bs with _ | ⟨y, l⟩
      · cases hx
      · simp at hx; exact ⟨l, by rw [hx]⟩
    clear hx
    have hlen := Lib.hid h.len
    have hcap := h.cap
    rw [show p.add 0 = p from rfl] at hcell
    have hrest := h.cut (show 1 ≤ n by omega)
    rw [List.drop_succ_cons, List.drop_zero] at hrest
    by_cases hm : n - 1 < x.toNat
    · rw [unfillS_form x l (by have := hlen.out; simp at this; omega) (by have := hlen.out; simp at this; omega) (.inl (by have := hlen.out; simp at this; omega))]
      go_enter Try.func19, Try.ntmps19
      go_wp2_with fail
      go_quiet (fail)
      go_wp2_with fail
      go_ret2
      exact ⟨none, 0, rfl, OwnB.nil _ _, (Below.refl _ _).trans ⟨rfl, rfl, rfl, Nat.le_refl _, fun _ _ => rfl⟩⟩
    · have hm' : x.toNat ≤ n - 1 := by omega
      have hm2 : (x.toNat : Int) ≤ (n : Int) - 1 := by omega
      have hll := Lib.hid (show l.length = n - 1 by have := hlen.out; simp at this; omega)
      by_cases h0 : (l.drop x.toNat).all (· == 0) = true
      · rw [unfillS_ok x l (by rw [hll.out]; omega) (by rw [hll.out]; omega) (by rw [hll.out]; omega) h0]
        go_enter Try.func19, Try.ntmps19
        go_wp2_with fail
        go_quiet (fail)
        go_wp2_with (first | (go_at_call 27; refine (noughts_any _ B _ _ _ _ ((hrest.drewN nq).cut hm') (by omega)).mono ?_; rw [h0]; rintro e w' ⟨rfl, rfl⟩) | (at_builtin; refine wpList_append_b rfl (.const (.slice none 0 0)) (.tmp 33) rfl w.heap.size none 0 0 [] rfl (OwnB.nil _ _) B _ x.toNat _ (l.take x.toNat) rfl ((hrest.drewN nq).take hm' (by omega)) (by omega) (by simp) ?_; intro A2 c2 w2 hown2 hg2 hb2))
        go_ret2
        rw [Nat.zero_add] at hown2
        exact TellsB.ok hown2 ((below_draws _ _ _).trans hb2)
      · have h0' : (l.drop x.toNat).all (· == 0) = false := by simpa using h0
        rw [unfillS_form x l (by rw [hll.out]; omega) (by rw [hll.out]; omega) (.inr h0')]
        clear h0
        go_enter Try.func19, Try.ntmps19
        go_wp2_with fail
        go_quiet (fail)
        go_wp2_with (go_at_call 27; refine (noughts_any _ B _ _ _ _ ((hrest.drewN nq).cut hm') (by omega)).mono ?_; rw [h0']; rintro e w' ⟨rfl, rfl⟩)
        go_ret2
        exact ⟨none, 0, rfl, OwnB.nil _ _, ⟨rfl, rfl, rfl, Nat.le_refl _, fun _ _ => rfl⟩⟩

set_option maxHeartbeats 400000 in
theorem refUnfill_any (w : World) (B : Nat) (A : Option Addr) (n c : Nat) (bs : List UInt8) (h : SlB w B A n c bs) (_hB : B ≤ w.heap.size) (hn : n ≤ 140737488355328) :
    Calls Try.prog 22 #[.slice A n c] w (TellsB w (unfillS bs)) := by
  by_cases hr : n < 2 ∨ 256 < n
  · rw [unfillS_arg bs (by rw [h.len]; exact hr)]
    rcases hr with hr | hr
    all_goals
      go_enter Try.func22, Try.ntmps22
      go_wp2
      go_ret2
      exact TellsB.none_ (Below.refl _ _)
  · have h1 : 2 ≤ n := by omega
    have h8 : n ≤ 256 := by omega
    clear hr hn
    obtain ⟨p, x, rfl, _, hcell, hx, hx8⟩ := h.at_ (show 0 < n by omega)
    obtain ⟨l, rfl⟩ : ∃ l, bs = x :: l := by
      rcases bs with _ | ⟨y, l⟩
      · cases hx
      · simp at hx; exact ⟨l, by rw [hx]⟩
    clear hx
    have hlen := Lib.hid h.len
    have hcap := h.cap
    have hll := Lib.hid (show l.length = n - 1 by have := hlen.out; simp at this; omega)
    rw [show p.add 0 = p from rfl] at hcell
    by_cases hm : n - 1 < x.toNat
    · have hm2 : (n : Int) - 1 < x.toNat := by omega
      rw [unfillS_form x l (by rw [hll.out]; omega) (by rw [hll.out]; omega) (.inl (by rw [hll.out]; omega))]
      go_enter Try.func22, Try.ntmps22
      go_wp2
      go_ret2
      exact TellsB.none_ (Below.refl _ _)
    · have hm' : 1 + x.toNat ≤ n := by omega
      have hm2 : 1 + (x.toNat : Int) ≤ n := by omega
      have hcut := h.cut hm'
      have hcut' : SlB w B (cutA (some p) c (1 + x.toNat) 1) (n - (1 + x.toNat)) (c - (1 + x.toNat)) (l.drop x.toNat) := by
        rw [Nat.add_comm 1 x.toNat, List.drop_succ_cons] at hcut
        rw [Nat.add_comm 1 x.toNat]
        exact hcut
      clear hcut
      go_enter Try.func22, Try.ntmps22
      have htk := h.cut (show 1 ≤ n by omega) |>.take (k := 1 + x.toNat - 1) (m := c - 1) (by omega) (by omega)
      rw [List.drop_succ_cons, List.drop_zero] at htk
      go_wp2_with fail
      generalize cutA (some p) c (1 + x.toNat) 1 = A1 at hcut' ⊢
      have H1 := Lib.hid h1
      go_loop [29] (fun i => ∃ k : Nat, k ≤ n - (1 + x.toNat) ∧ i = .int .i64 k ∧ Hid (((l.drop x.toNat).take k).all (· == 0) = true)) (fun i => n - (intOf i).toNat)
      case atStart => exact ⟨0, Nat.zero_le _, rfl, Lib.hid (by simp)⟩
      case round =>
        obtain ⟨k, hk, rfl, HA⟩ := hrel
        by_cases hlt : k < n - (1 + x.toNat)
        · obtain ⟨q, y, rfl, _, hcell, hx, hy8⟩ := hcut'.at_ hlt
          have HX := Lib.hid hx
          clear hx
          by_cases h0 : y = 0
          · subst h0
            go_wp2
            go_round
            case rel => exact ⟨k + 1, by omega, by go_num, Lib.hid (by rw [take_next HX.out, List.all_append, HA.out]; rfl)⟩
            case measure => simp [intOf]; omega
          · have hne : ((y.toNat : Int) != 0) = true := by
              rw [bne_iff_ne]
              intro e
              exact h0 (UInt8.toNat_inj.1 (by simpa using e))
            go_wp2
            go_ret2
            have : (l.drop x.toNat).all (· == 0) = false := by
              rw [List.all_eq_false]
              exact ⟨y, List.mem_of_getElem? HX.out, by simpa using h0⟩
            rw [unfillS_form x l (by rw [hll.out]; omega) (by rw [hll.out]; omega) (.inr this)]
            exact TellsB.none_ (Below.refl _ _)
        · obtain rfl : k = n - (1 + x.toNat) := by omega
          have hall : (l.drop x.toNat).all (· == 0) = true := by
            have := HA.out
            rw [List.take_of_length_le (by rw [List.length_drop, hll.out]; omega)] at this
            exact this
          have HALL := Lib.hid hall
          clear hall HA
          go_wp2_with (at_builtin; refine wpList_append_b rfl (.const (.slice none 0 0)) (.tmp 39) rfl w.heap.size none 0 0 [] rfl (OwnB.nil _ _) B _ (1 + x.toNat - 1) _ (l.take (1 + x.toNat - 1)) rfl htk (by omega) (by simp) ?_; intro A2 c2 w2 hown2 hg2 hb2)
          go_ret2
          rw [Nat.zero_add, Nat.add_sub_cancel_left, List.nil_append] at hown2
          rw [unfillS_ok x l (by rw [hll.out]; omega) (by rw [hll.out]; omega) (by rw [hll.out]; omega) HALL.out]
          have e1 : 1 + x.toNat - 1 = x.toNat := by omega
          simp only [e1]
          exact TellsB.ok hown2 hb2
end Go.Proofs.Ytbmdmioikdbigaa
