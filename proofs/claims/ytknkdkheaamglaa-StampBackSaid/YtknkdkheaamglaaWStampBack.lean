/- The walk of the law StampBack. -/
import Derived.Test.YtknkdkheaamglaaOpenStamp
import Derived.Test.YtknkdkheaamglaaLive04
import Derived.Test.YtknkdkheaamglaaStampR
import Derived.Test.YtknkdkheaamglaaWordN
namespace Go.Proofs.Ytknkdkheaamglaa
set_option linter.unusedSimpArgs false
set_option linter.unusedVariables false
open Go.RowKit

theorem nums_back (l : List Int) (h : ∀ z ∈ l, 1 ≤ z ∧ z ≤ 16) : numsOf (l.map fun z => UInt8.ofNat z.toNat) = l := by
  unfold numsOf
  rw [List.map_map]
  conv => rhs; rw [← List.map_id l]
  refine List.map_congr_left fun z hz => ?_
  have := h z hz
  simp only [Function.comp, id]
  have : (UInt8.ofNat z.toNat).toNat = z.toNat := by simp; omega
  rw [this]; omega
theorem back_nums (bs : List UInt8) : (numsOf bs).map (fun z => UInt8.ofNat z.toNat) = bs := by
  unfold numsOf
  rw [List.map_map]
  conv => rhs; rw [← List.map_id bs]
  refine List.map_congr_left fun x _ => ?_
  simp

theorem putSt_lenB (e r : Nat) (l : List Int) : (putSt e r l).length = 17 + l.length := by
  unfold putSt
  simp only [List.length_append, beB_len, List.length_cons, List.length_map]
  omega
theorem takeSt_put (e r : Nat) (l : List Int) (more : List UInt8) (hok : okChain l = true) (he : e < 18446744073709551616) (hr : r < 18446744073709551616) :
    takeSt (putSt e r l ++ more) = ((e, r, l), 17 + l.length, 0) := by
  have hk := hok
  unfold okChain at hk
  obtain ⟨h1, h8, hz, _⟩ := of_decide_eq_true hk
  have D : ∀ m, m < 18446744073709551616 → m / 256 ^ 8 = 0 := fun m hm => Nat.div_eq_of_lt hm
  have hx : UInt8.toNat (UInt8.ofNat l.length) = l.length := by simp; omega
  have hsp : putSt e r l ++ more = beB 8 e ++ (beB 8 r ++ (UInt8.ofNat l.length :: ((l.map fun z => UInt8.ofNat z.toNat) ++ more))) := by
    unfold putSt; simp
  have L1 : (beB 8 e).length = 8 := beB_len _ _
  have L2 : (beB 8 r).length = 8 := beB_len _ _
  have hlen : (putSt e r l ++ more).length = 17 + l.length + more.length := by
    rw [hsp]; simp only [List.length_append, L1, L2, List.length_cons, List.length_map]; omega
  have d8 : (putSt e r l ++ more).drop 8 = beB 8 r ++ (UInt8.ofNat l.length :: ((l.map fun z => UInt8.ofNat z.toNat) ++ more)) := by
    rw [hsp]; exact List.drop_left' L1
  have d16 : (putSt e r l ++ more).drop 16 = UInt8.ofNat l.length :: ((l.map fun z => UInt8.ofNat z.toNat) ++ more) := by
    rw [show (16 : Nat) = 8 + 8 from rfl, ← List.drop_drop, d8]; exact List.drop_left' L2
  have d17 : (putSt e r l ++ more).drop 17 = (l.map fun z => UInt8.ofNat z.toNat) ++ more := by
    rw [show (17 : Nat) = 16 + 1 from rfl, ← List.drop_drop, d16]; rfl
  have g16 : (putSt e r l ++ more).getD 16 0 = UInt8.ofNat l.length := by
    rw [List.getD, ← List.head?_drop, d16]; rfl
  have t17 : ((putSt e r l ++ more).drop 17).take l.length = l.map fun z => UInt8.ofNat z.toNat := by
    rw [d17]; exact List.take_left' (List.length_map _)
  rw [takeSt_ok _ (by omega) (by rw [g16, hx]; omega) (by rw [g16, hx, t17, nums_back l hz]; exact hok), g16, hx, t17, nums_back l hz, d8, List.take_left' L2, hsp, List.take_left' L1, getN_beB_fit 8 e (D _ he), getN_beB_fit 8 r (D _ hr)]

theorem put_takeSt (b : List UInt8) : (∃ u, takeSt b = (u, 0, 3) ∧ u.2.2.length ≤ 8) ∨
    ∃ e r l k, takeSt b = ((e, r, l), k, 0) ∧ l.length ≤ 8 ∧ k ≤ b.length ∧ e < 18446744073709551616 ∧ r < 18446744073709551616 ∧ ∃ bt, b.take k = bt ∧ bt.length = k ∧ putStS e r l = (bt, 0) := by
  by_cases h17 : b.length < 17
  · exact .inl ⟨_, takeSt_short b h17, by simp⟩
  by_cases hm : b.length < 17 + (b.getD 16 0).toNat
  · exact .inl ⟨_, takeSt_many b (by omega) hm, by simp⟩
  by_cases hok : okChain (numsOf ((b.drop 17).take (b.getD 16 0).toNat)) = true
  · refine .inr ⟨_, _, _, _, takeSt_ok b (by omega) (by omega) hok, ?_, by omega, ?_, ?_, _, rfl, by rw [List.length_take]; omega, ?_⟩
    · unfold okChain at hok; exact (of_decide_eq_true hok).2.1
    · have := getN_lt (b.take 8)
      rw [List.length_take, Nat.min_eq_left (by omega)] at this; exact this
    · have := getN_lt ((b.drop 8).take 8)
      rw [List.length_take, List.length_drop, Nat.min_eq_left (by omega)] at this; exact this
    · have hc : chkS (numsOf ((b.drop 17).take (b.getD 16 0).toNat)) = 0 := by unfold chkS; rw [hok]; rfl
      unfold putStS
      rw [if_pos hc]
      unfold putSt
      have e1 : beB 8 (getN (b.take 8)) = b.take 8 := by
        have := beB_getN (b.take 8)
        rwa [List.length_take, Nat.min_eq_left (by omega)] at this
      have e2 : beB 8 (getN ((b.drop 8).take 8)) = (b.drop 8).take 8 := by
        have := beB_getN ((b.drop 8).take 8)
        rwa [List.length_take, List.length_drop, Nat.min_eq_left (by omega)] at this
      have hl : (numsOf ((b.drop 17).take (b.getD 16 0).toNat)).length = (b.getD 16 0).toNat := by
        rw [numsOf_len, List.length_take, List.length_drop]; omega
      have hx : UInt8.ofNat (b.getD 16 0).toNat = b.getD 16 0 := by simp
      have d16 : b.drop 16 = b.getD 16 0 :: b.drop 17 := by
        rw [List.drop_eq_getElem_cons (show 16 < b.length by omega)]
        congr 1
        simp [List.getD, show 16 < b.length by omega]
      rw [e1, e2, hl, hx, back_nums]
      have : b.take (17 + (b.getD 16 0).toNat) = b.take 8 ++ ((b.drop 8).take 8 ++ (b.getD 16 0 :: (b.drop 17).take (b.getD 16 0).toNat)) := by
        rw [show 17 + (b.getD 16 0).toNat = 8 + (8 + ((b.getD 16 0).toNat + 1)) by omega, List.take_add, List.take_add, List.drop_drop, d16, List.take_succ_cons]
      rw [this]
  · exact .inl ⟨_, takeSt_bad b (by omega) (by omega) (by simpa using hok), by simp⟩

set_option maxHeartbeats 3200000 in
theorem walk_StampBack (W : World) (v0 v1 v2 : Value) (o0 : Opn W 25 v0) (o1 : Opn W 28 v1) (o2 : Opn W 28 v2) :
    Calls Try.prog 5 #[v0, v1, v2] W fun e w' => e = .returned (.bool true) ∧ Below W.heap.size W w' := by
  obtain ⟨e0, r0, A0, n0, c0, l0, rfl, he0, hr0, hs0, hn0⟩ := o0.stamp
  obtain ⟨A1, n1, c1, b1, rfl, hs1, hm1⟩ := o1.bytes
  obtain ⟨A2, n2, c2, b2, rfl, hs2, hm2⟩ := o2.bytes
  clear o0 o1 o2
  have hcap1 := hs1.cap
  have hcap2 := hs2.cap
  unfold maxLen at hm1 hm2
  by_cases hsh : n0 ≤ 60
  case neg =>
    have HSH : Hid (decide (n0 ≤ 60) = false) := Lib.hid (decide_eq_false hsh)
    clear hsh
    go_enter Try.func5, Try.ntmps5
    go_wp2_with (go_at_call 9; refine (live_any _).mono ?_; rintro e w1 ⟨rfl, hb1⟩; simp only [World.size_alloc] at hb1; obtain ⟨R0, hbw⟩ := box1 hb1; have k00 := R0.cell 0; have k01 := R0.cell 1; have k02 := R0.cell 2; simp at k00 k01 k02)
    refine (short1_any _ _ _ _ _ _).mono ?_
    rw [HSH.out]
    rintro e w2 ⟨rfl, hb2⟩
    go_wp2_with fail
    go_ret
    exact ⟨by simp, after_next hbw hb2⟩
  have HSH : Hid (decide (n0 ≤ 60) = true) := Lib.hid (decide_eq_true hsh)
  by_cases hl : 300 < n1 ∨ (¬ 300 < n1 ∧ 300 < n2)
  · rcases hl with h1 | ⟨h1, h2⟩
    all_goals
      go_enter Try.func5, Try.ntmps5
      go_wp2_with (go_at_call 9; refine (live_any _).mono ?_; rintro e w1 ⟨rfl, hb1⟩; simp only [World.size_alloc] at hb1; obtain ⟨R0, hbw⟩ := box1 hb1; have k00 := R0.cell 0; have k01 := R0.cell 1; have k02 := R0.cell 2; simp at k00 k01 k02)
      refine (short1_any _ _ _ _ _ _).mono ?_
      rw [HSH.out]
      rintro e w2 ⟨rfl, hb2⟩
      go_wp2_with fail
      go_ret
      exact ⟨by simp, after_next hbw hb2⟩
  have hl1 : ¬ 300 < n1 := by omega
  have hl2 : ¬ 300 < n2 := by omega
  clear hl
  have P0 := Lib.hid fun w (hb : Below W.heap.size W w) => stampPut_any w _ e0 r0 n0 c0 A0 l0 (hs0.below hb) hb.size (by omega) he0 hr0
  have K0 := Lib.hid fun w (hb : Below W.heap.size W w) => stampCheck_any w _ e0 r0 n0 c0 A0 l0 (hs0.below hb) hb.size (by omega)
  have T2 := Lib.hid fun w (hb : Below W.heap.size W w) => stampTake_any w _ _ _ _ _ (hs2.below hb) hb.size (by omega)
  have HS0 := Lib.hid hs0
  have HS1 := Lib.hid hs1
  have HS2 := Lib.hid hs2
  have hn0' : n0 ≤ 140737488355328 := by omega
  have HL2 := Lib.hid hs2.len
  have first : (putStS e0 r0 l0 = ([], 1) ∧ chkS l0 = 1) ∨ ∃ b0, putStS e0 r0 l0 = (b0, 0) ∧ b0.length ≤ 300 ∧ takeSt (b0 ++ b1) = ((e0, r0, l0), b0.length, 0) := by
    rcases chkS_01 l0 with ⟨h0, hk⟩ | ⟨h0, _⟩
    · refine .inr ⟨putSt e0 r0 l0, by unfold putStS; rw [if_pos h0], ?_, ?_⟩
      · unfold okChain at hk; have := of_decide_eq_true hk; rw [putSt_lenB]; omega
      · rw [takeSt_put _ _ _ _ hk he0 hr0, putSt_lenB]
    · exact .inl ⟨by unfold putStS; rw [h0]; rfl, h0⟩
  have second := put_takeSt b2
  have SELF : Hid (sameS e0 r0 l0 e0 r0 l0 = true) := Lib.hid (by unfold sameS; exact decide_eq_true ⟨rfl, rfl, rfl⟩)
  clear hs0 hs1 hs2 he0 hr0 hn0
  rcases first with ⟨p0, q0⟩ | ⟨b0, p0, h300, t0⟩
  · rw [p0] at P0
    rw [q0] at K0
    clear p0 q0
    rcases second with ⟨u, t2, hu⟩ | ⟨e, r, l, k, t2, hl8, hkl, he, hr, bt, hbt, hbl, hp2⟩
    · obtain ⟨e, r, l⟩ := u
      rw [t2] at T2
      clear t2
      go_enter Try.func5, Try.ntmps5
      go_wp2_with (go_at_call 9; refine (live_any _).mono ?_; rintro e w1 ⟨rfl, hb1⟩; simp only [World.size_alloc] at hb1; obtain ⟨R0, hbw⟩ := box1 hb1; have k00 := R0.cell 0; have k01 := R0.cell 1; have k02 := R0.cell 2; simp at k00 k01 k02)
      refine (short1_any _ _ _ _ _ _).mono ?_
      rw [HSH.out]
      rintro e w2 ⟨rfl, hb2⟩
      have hz1 := hb1.size
      simp at hz1
      have hz2 := hb2.size
      replace k00 := cell_next hb2 k00
      replace k01 := cell_next hb2 k01
      replace k02 := cell_next hb2 k02
      replace hbw := after_next hbw hb2
      clear R0 hb1
      go_wp2_with fail
      refine (P0.out _ hbw).mono ?_
      intro x w3 ht
      obtain ⟨A3, g3, rfl, ho3, hb3⟩ := ht.pair
      clear ht
      have hz3 := hb3.size
      replace k00 := cell_next hb3 k00
      replace k01 := cell_next hb3 k01
      replace k02 := cell_next hb3 k02
      replace hbw := after_next hbw hb3
      go_wp2_with fail
      refine (K0.out _ hbw).mono ?_
      rintro x w4 ⟨rfl, hb4⟩
      replace k00 := cell_next hb4 k00
      replace k01 := cell_next hb4 k01
      replace k02 := cell_next hb4 k02
      replace hbw := after_next hbw hb4
      go_wp2_with fail
      refine (T2.out _ hbw).mono ?_
      rintro x w8 ⟨A8, g8, rfl, s8, hb8⟩
      replace hbw := after_next hbw hb8
      go_wp2_with fail
      go_ret
      exact ⟨by simp, after_lay hbw _⟩
    · rw [t2] at T2
      have HP2 := Lib.hid hp2
      rw [HL2.out] at hkl
      clear t2 hp2
      go_enter Try.func5, Try.ntmps5
      go_wp2_with (go_at_call 9; refine (live_any _).mono ?_; rintro e w1 ⟨rfl, hb1⟩; simp only [World.size_alloc] at hb1; obtain ⟨R0, hbw⟩ := box1 hb1; have k00 := R0.cell 0; have k01 := R0.cell 1; have k02 := R0.cell 2; simp at k00 k01 k02)
      refine (short1_any _ _ _ _ _ _).mono ?_
      rw [HSH.out]
      rintro e w2 ⟨rfl, hb2⟩
      have hz1 := hb1.size
      simp at hz1
      have hz2 := hb2.size
      replace k00 := cell_next hb2 k00
      replace k01 := cell_next hb2 k01
      replace k02 := cell_next hb2 k02
      replace hbw := after_next hbw hb2
      clear R0 hb1
      go_wp2_with fail
      refine (P0.out _ hbw).mono ?_
      intro x w3 ht
      obtain ⟨A3, g3, rfl, ho3, hb3⟩ := ht.pair
      clear ht
      have hz3 := hb3.size
      replace k00 := cell_next hb3 k00
      replace k01 := cell_next hb3 k01
      replace k02 := cell_next hb3 k02
      replace hbw := after_next hbw hb3
      go_wp2_with fail
      refine (K0.out _ hbw).mono ?_
      rintro x w4 ⟨rfl, hb4⟩
      replace k00 := cell_next hb4 k00
      replace k01 := cell_next hb4 k01
      replace k02 := cell_next hb4 k02
      replace hbw := after_next hbw hb4
      go_wp2_with fail
      refine (T2.out _ hbw).mono ?_
      rintro x w8 ⟨A8, g8, rfl, s8, hb8⟩
      replace hbw := after_next hbw hb8
      go_wp2_with fail
      replace s8 := s8.lay (.cells #[.int .u64 (e : Int), .int .u64 (r : Int), .slice A8 l.length g8] 25)
      replace hbw := after_lay hbw (.cells #[.int .u64 (e : Int), .int .u64 (r : Int), .slice A8 l.length g8] 25)
      refine (stampPut_any _ _ e r _ _ _ _ s8 (Nat.le_refl _) (by omega) he hr).mono ?_
      rw [HP2.out]
      intro x w9 ht
      obtain ⟨A9, g9, rfl, ho9, hb9⟩ := ht.pair
      clear ht
      rw [hbl] at ho9
      replace hbw := after_next hbw hb9
      have hcut := (HS2.out.below hbw).take (k := k) (m := c2) (by omega) (by omega)
      rw [hbt] at hcut
      have hkc : (k : Int) ≤ c2 := by omega
      have hk2 : (k : Int) ≤ n2 := by omega
      go_wp2_with fail
      refine (Same_any _ _ _ _ _ _ _ _ _ _ _ ho9.sl hcut).mono ?_
      rintro x w10 ⟨rfl, rfl⟩
      go_wp2_with fail
      go_ret
      exact ⟨by simp, hbw⟩
  · rw [p0] at P0
    have HT0 := Lib.hid t0
    clear p0 t0
    rcases second with ⟨u, t2, hu⟩ | ⟨e, r, l, k, t2, hl8, hkl, he, hr, bt, hbt, hbl, hp2⟩
    · obtain ⟨e, r, l⟩ := u
      rw [t2] at T2
      clear t2
      go_enter Try.func5, Try.ntmps5
      go_wp2_with (go_at_call 9; refine (live_any _).mono ?_; rintro e w1 ⟨rfl, hb1⟩; simp only [World.size_alloc] at hb1; obtain ⟨R0, hbw⟩ := box1 hb1; have k00 := R0.cell 0; have k01 := R0.cell 1; have k02 := R0.cell 2; simp at k00 k01 k02)
      refine (short1_any _ _ _ _ _ _).mono ?_
      rw [HSH.out]
      rintro e w2 ⟨rfl, hb2⟩
      have hz1 := hb1.size
      simp at hz1
      have hz2 := hb2.size
      replace k00 := cell_next hb2 k00
      replace k01 := cell_next hb2 k01
      replace k02 := cell_next hb2 k02
      replace hbw := after_next hbw hb2
      clear R0 hb1
      go_wp2_with fail
      refine (P0.out _ hbw).mono ?_
      intro x w3 ht
      obtain ⟨A3, g3, rfl, ho3, hb3⟩ := ht.pair
      clear ht
      have hz3 := hb3.size
      replace k00 := cell_next hb3 k00
      replace k01 := cell_next hb3 k01
      replace k02 := cell_next hb3 k02
      replace hbw := after_next hbw hb3
      go_wp2_with (first | (at_builtin; refine wpList_append_b rfl (.const (.slice none 0 0)) (.tmp 41) rfl (W.heap.size + 1) none 0 0 [] rfl (OwnB.nil _ _) _ _ _ _ b0 rfl ho3.sl (by omega) (by omega) ?_; intro A5 g5 w5 ho5 hg5 hb5; have hz5 := hb5.size; rw [Nat.zero_add, List.nil_append] at ho5) | (at_builtin; refine wpList_append_b rfl (.tmp 42) (.tmp 43) rfl (W.heap.size + 1) A5 _ _ _ rfl ho5 _ A1 n1 c1 b1 rfl (HS1.out.below (hbw.trans (hb5.mono (by omega)))) (by omega) (by omega) ?_; intro A6 g6 w6 ho6 hg6 hb6))
      refine (stampTake_any _ _ _ _ _ _ ho6.sl (Nat.le_refl _) (by omega)).mono ?_
      rw [HT0.out]
      rintro x w7 ⟨A7, g7, rfl, s7, hb7⟩
      replace hbw := after_next ((hbw.trans (hb5.mono (by omega))).trans (hb6.mono (by omega))) hb7
      replace k00 := cell_next hb7 ((hb6.cell (by simp)).trans ((hb5.cell (by simp)).trans k00))
      replace k01 := cell_next hb7 ((hb6.cell (by simp)).trans ((hb5.cell (by simp)).trans k01))
      replace k02 := cell_next hb7 ((hb6.cell (by simp)).trans ((hb5.cell (by simp)).trans k02))
      replace k00 := cell_lay (o := .cells #[.int .u64 (e0 : Int), .int .u64 (r0 : Int), .slice A7 l0.length g7] 25) k00
      replace k01 := cell_lay (o := .cells #[.int .u64 (e0 : Int), .int .u64 (r0 : Int), .slice A7 l0.length g7] 25) k01
      replace k02 := cell_lay (o := .cells #[.int .u64 (e0 : Int), .int .u64 (r0 : Int), .slice A7 l0.length g7] 25) k02
      replace s7 := s7.lay (.cells #[.int .u64 (e0 : Int), .int .u64 (r0 : Int), .slice A7 l0.length g7] 25)
      replace hbw := after_lay hbw (.cells #[.int .u64 (e0 : Int), .int .u64 (r0 : Int), .slice A7 l0.length g7] 25)
      go_wp2_with fail
      refine (stampSame_any _ _ _ _ _ _ _ _ _ _ _ _ _ _ _ (HS0.out.below hbw) s7 hbw.size (Nat.le_refl _) hn0').mono ?_
      rw [SELF.out]
      rintro x w4 ⟨rfl, hb4⟩
      replace hbw := after_next hbw hb4
      go_wp2_with fail
      refine (T2.out _ hbw).mono ?_
      rintro x w8 ⟨A8, g8, rfl, s8, hb8⟩
      replace hbw := after_next hbw hb8
      go_wp2_with fail
      go_ret
      exact ⟨by simp, after_lay hbw _⟩
    · rw [t2] at T2
      have HP2 := Lib.hid hp2
      rw [HL2.out] at hkl
      clear t2 hp2
      go_enter Try.func5, Try.ntmps5
      go_wp2_with (go_at_call 9; refine (live_any _).mono ?_; rintro e w1 ⟨rfl, hb1⟩; simp only [World.size_alloc] at hb1; obtain ⟨R0, hbw⟩ := box1 hb1; have k00 := R0.cell 0; have k01 := R0.cell 1; have k02 := R0.cell 2; simp at k00 k01 k02)
      refine (short1_any _ _ _ _ _ _).mono ?_
      rw [HSH.out]
      rintro e w2 ⟨rfl, hb2⟩
      have hz1 := hb1.size
      simp at hz1
      have hz2 := hb2.size
      replace k00 := cell_next hb2 k00
      replace k01 := cell_next hb2 k01
      replace k02 := cell_next hb2 k02
      replace hbw := after_next hbw hb2
      clear R0 hb1
      go_wp2_with fail
      refine (P0.out _ hbw).mono ?_
      intro x w3 ht
      obtain ⟨A3, g3, rfl, ho3, hb3⟩ := ht.pair
      clear ht
      have hz3 := hb3.size
      replace k00 := cell_next hb3 k00
      replace k01 := cell_next hb3 k01
      replace k02 := cell_next hb3 k02
      replace hbw := after_next hbw hb3
      go_wp2_with (first | (at_builtin; refine wpList_append_b rfl (.const (.slice none 0 0)) (.tmp 41) rfl (W.heap.size + 1) none 0 0 [] rfl (OwnB.nil _ _) _ _ _ _ b0 rfl ho3.sl (by omega) (by omega) ?_; intro A5 g5 w5 ho5 hg5 hb5; have hz5 := hb5.size; rw [Nat.zero_add, List.nil_append] at ho5) | (at_builtin; refine wpList_append_b rfl (.tmp 42) (.tmp 43) rfl (W.heap.size + 1) A5 _ _ _ rfl ho5 _ A1 n1 c1 b1 rfl (HS1.out.below (hbw.trans (hb5.mono (by omega)))) (by omega) (by omega) ?_; intro A6 g6 w6 ho6 hg6 hb6))
      refine (stampTake_any _ _ _ _ _ _ ho6.sl (Nat.le_refl _) (by omega)).mono ?_
      rw [HT0.out]
      rintro x w7 ⟨A7, g7, rfl, s7, hb7⟩
      replace hbw := after_next ((hbw.trans (hb5.mono (by omega))).trans (hb6.mono (by omega))) hb7
      replace k00 := cell_next hb7 ((hb6.cell (by simp)).trans ((hb5.cell (by simp)).trans k00))
      replace k01 := cell_next hb7 ((hb6.cell (by simp)).trans ((hb5.cell (by simp)).trans k01))
      replace k02 := cell_next hb7 ((hb6.cell (by simp)).trans ((hb5.cell (by simp)).trans k02))
      replace k00 := cell_lay (o := .cells #[.int .u64 (e0 : Int), .int .u64 (r0 : Int), .slice A7 l0.length g7] 25) k00
      replace k01 := cell_lay (o := .cells #[.int .u64 (e0 : Int), .int .u64 (r0 : Int), .slice A7 l0.length g7] 25) k01
      replace k02 := cell_lay (o := .cells #[.int .u64 (e0 : Int), .int .u64 (r0 : Int), .slice A7 l0.length g7] 25) k02
      replace s7 := s7.lay (.cells #[.int .u64 (e0 : Int), .int .u64 (r0 : Int), .slice A7 l0.length g7] 25)
      replace hbw := after_lay hbw (.cells #[.int .u64 (e0 : Int), .int .u64 (r0 : Int), .slice A7 l0.length g7] 25)
      go_wp2_with fail
      refine (stampSame_any _ _ _ _ _ _ _ _ _ _ _ _ _ _ _ (HS0.out.below hbw) s7 hbw.size (Nat.le_refl _) hn0').mono ?_
      rw [SELF.out]
      rintro x w4 ⟨rfl, hb4⟩
      replace hbw := after_next hbw hb4
      go_wp2_with fail
      refine (T2.out _ hbw).mono ?_
      rintro x w8 ⟨A8, g8, rfl, s8, hb8⟩
      replace hbw := after_next hbw hb8
      go_wp2_with fail
      replace s8 := s8.lay (.cells #[.int .u64 (e : Int), .int .u64 (r : Int), .slice A8 l.length g8] 25)
      replace hbw := after_lay hbw (.cells #[.int .u64 (e : Int), .int .u64 (r : Int), .slice A8 l.length g8] 25)
      refine (stampPut_any _ _ e r _ _ _ _ s8 (Nat.le_refl _) (by omega) he hr).mono ?_
      rw [HP2.out]
      intro x w9 ht
      obtain ⟨A9, g9, rfl, ho9, hb9⟩ := ht.pair
      clear ht
      rw [hbl] at ho9
      replace hbw := after_next hbw hb9
      have hcut := (HS2.out.below hbw).take (k := k) (m := c2) (by omega) (by omega)
      rw [hbt] at hcut
      have hkc : (k : Int) ≤ c2 := by omega
      have hk2 : (k : Int) ≤ n2 := by omega
      go_wp2_with fail
      refine (Same_any _ _ _ _ _ _ _ _ _ _ _ ho9.sl hcut).mono ?_
      rintro x w10 ⟨rfl, rfl⟩
      go_wp2_with fail
      go_ret
      exact ⟨by simp, hbw⟩
end Go.Proofs.Ytknkdkheaamglaa
