/- The walk of the law LetterParts. -/
import Derived.Test.YtbmdmioikdbigaaOpen
import Derived.Test.YtbmdmioikdbigaaLive10
import Derived.Test.YtbmdmioikdbigaaLetQ
namespace Go.Proofs.Ytbmdmioikdbigaa
set_option linter.unusedSimpArgs false
set_option linter.unusedVariables false
open Go.RowKit

set_option maxHeartbeats 3200000 in
theorem walk_LetterParts (W : World) (v0 : Value) (o0 : Opn W 26 v0) :
    Calls Try.prog 5 #[v0] W fun e w' => e = .returned (.bool true) ∧ Below W.heap.size W w' := by
  obtain ⟨c0, f0, t0, s0, A0, n0, g0, b0, rfl, hq0, hs0, hn0⟩ := o0.letter
  clear o0
  by_cases hl : 300 < n0
  · go_enter Try.func5, Try.ntmps5
    go_wp2_with (go_at_call 8; refine (live10_any _).mono ?_; rintro e w1 ⟨rfl, hb1⟩; simp only [World.size_alloc] at hb1; obtain ⟨R0, hbw⟩ := box1 hb1; have k00 := R0.cell 0; have k01 := R0.cell 1; have k02 := R0.cell 2; have k03 := R0.cell 3; have k04 := R0.cell 4; simp at k00 k01 k02 k03 k04)
    go_ret
    exact ⟨rfl, hbw⟩
  have hlen := Lib.hid hs0.len
  have P0 := Lib.hid fun w (hb : Below W.heap.size W w) => letPut_any w _ c0 f0 t0 s0 n0 g0 A0 b0 (hs0.below hb) hb.size hq0
  by_cases hc : chkL c0 f0 t0 s0 n0 = 0
  case neg =>
    rw [putL_bad (by rw [hlen.out]; exact hc), hlen.out] at P0
    have hne : (chkL c0 f0 t0 s0 n0 != 0) = true := by simpa using hc
    generalize chkL c0 f0 t0 s0 n0 = ch at *
    go_enter Try.func5, Try.ntmps5
    go_wp2_with (go_at_call 8; refine (live10_any _).mono ?_; rintro e w1 ⟨rfl, hb1⟩; simp only [World.size_alloc] at hb1; obtain ⟨R0, hbw⟩ := box1 hb1; have k00 := R0.cell 0; have k01 := R0.cell 1; have k02 := R0.cell 2; have k03 := R0.cell 3; have k04 := R0.cell 4; simp at k00 k01 k02 k03 k04)
    refine (P0.out _ hbw).mono ?_
    intro x w3 ht
    obtain ⟨A3, g3, rfl, ho3, hb3⟩ := ht.pair
    clear ht
    replace hbw := after_next hbw hb3
    go_wp2_with fail
    go_ret
    exact ⟨by simp, hbw⟩
  rcases c0 with _ | _
  case true =>
    rw [putL_cov (by rw [hlen.out]; exact hc)] at P0
    go_enter Try.func5, Try.ntmps5
    go_wp2_with (go_at_call 8; refine (live10_any _).mono ?_; rintro e w1 ⟨rfl, hb1⟩; simp only [World.size_alloc] at hb1; obtain ⟨R0, hbw⟩ := box1 hb1; have k00 := R0.cell 0; have k01 := R0.cell 1; have k02 := R0.cell 2; have k03 := R0.cell 3; have k04 := R0.cell 4; simp at k00 k01 k02 k03 k04)
    refine (P0.out _ hbw).mono ?_
    rintro x w3 ⟨A3, g3, rfl, ho3, hb3⟩
    replace ho3 : OwnB w3 w1.heap.size A3 78 g3 (List.replicate 78 0) := ho3
    replace k00 := cell_next hb3 k00
    replace k01 := cell_next hb3 k01
    replace k02 := cell_next hb3 k02
    replace k03 := cell_next hb3 k03
    replace k04 := cell_next hb3 k04
    replace hbw := after_next hbw hb3
    go_wp2_with (at_make; refine wpList_make_b rfl _ _ rfl w3.heap.size 78 rfl rfl (by omega) (Nat.le_refl _) ?_; intro w4 ho4 hb4 hlt4)
    refine (Same_any _ _ _ _ _ _ _ _ _ _ _ (ho3.sl.next hb4) ho4.sl).mono ?_
    rw [decide_eq_true rfl]
    rintro e w5 ⟨rfl, rfl⟩
    go_wp2_with fail
    go_ret
    exact ⟨rfl, after_next hbw hb4⟩
  obtain ⟨⟨h0, hf⟩, ⟨h0', ht⟩, h1, hn⟩ := chkL_ok hc
  obtain ⟨f0, rfl⟩ := Int.eq_ofNat_of_zero_le h0
  obtain ⟨t0, rfl⟩ := Int.eq_ofNat_of_zero_le h0'
  rw [putL_ok (by rw [hlen.out]; exact hc)] at P0
  have HB : Hid (([1, 0, UInt8.ofNat f0, 0, UInt8.ofNat t0] ++ beB 8 s0) ++ fillL b0 = bodyL f0 t0 s0 b0) := Lib.hid (by unfold bodyL; rw [two_small f0 (by omega), two_small t0 (by omega)]; simp)
  have HL : Hid ((bodyL f0 t0 s0 b0).length = 78) := Lib.hid (bodyL_len _ _ _ _ (by rw [hlen.out]; exact hn))
  have N3 : Hid (∀ w, Calls Try.prog 16 #[.int .u64 (s0 : Int), .int .i64 8] w (TellsB w (beB 8 s0, 0))) := Lib.hid fun w => by
    have := wordPut_any w s0 8 hq0
    rw [show (8 : Int) = ((8 : Nat) : Int) from rfl, putS_ok s0 8 (by decide) (by decide) (Nat.div_eq_of_lt hq0)] at this
    exact this
  have B8 : Hid ((beB 8 s0).length = 8) := Lib.hid (beB_len _ _)
  have HFL : Hid ((fillL b0).length = 65) := Lib.hid (by unfold fillL; simp [hlen.out]; omega)
  have F3 : Hid (∀ w, Below W.heap.size W w → Calls Try.prog 17 #[.slice A0 n0 g0, .int .i64 64] w (TellsB w (fillL b0, 0))) := Lib.hid fun w hb => by
    have := wordFill_any w _ _ _ _ _ 64 (hs0.below hb) hb.size (by omega)
    rw [show (64 : Int) = ((64 : Nat) : Int) from rfl, fillS_ok b0 64 (by decide) (by decide) (by rw [hlen.out]; exact hn)] at this
    exact this
  have hwf : IntKind.u8.wrap (f0 : Int) = f0 := by rw [IntKind.wrap_u8]; omega
  have hwt : IntKind.u8.wrap (t0 : Int) = t0 := by rw [IntKind.wrap_u8]; omega
  have hbf := bv_small (show f0 < 256 by omega)
  have hbt := bv_small (show t0 < 256 by omega)
  generalize bodyL f0 t0 s0 b0 = bd at *
  generalize fillL b0 = fl at *
  generalize beB 8 s0 = b8 at *
  clear hc
  have HBF := Lib.hid hbf
  have HBT := Lib.hid hbt
  clear hbf hbt
  go_enter Try.func5, Try.ntmps5
  go_wp2_with (go_at_call 8; refine (live10_any _).mono ?_; rintro e w1 ⟨rfl, hb1⟩; simp only [World.size_alloc] at hb1; obtain ⟨R0, hbw⟩ := box1 hb1; have k00 := R0.cell 0; have k01 := R0.cell 1; have k02 := R0.cell 2; have k03 := R0.cell 3; have k04 := R0.cell 4; simp at k00 k01 k02 k03 k04)
  clear R0 hb1
  refine (P0.out _ hbw).mono ?_
  rintro x w3 ⟨A3, g3, rfl, ho3, hb3⟩
  replace ho3 : OwnB w3 w1.heap.size A3 bd.length g3 bd := ho3
  rw [HL.out] at ho3
  replace k00 := cell_next hb3 k00
  replace k01 := cell_next hb3 k01
  replace k02 := cell_next hb3 k02
  replace k03 := cell_next hb3 k03
  replace k04 := cell_next hb3 k04
  replace hbw := after_next hbw hb3
  go_wp2_with fail
  refine (N3.out _).mono ?_
  rintro x w4 ⟨A4, g4, rfl, ho4, hb4⟩
  replace ho4 : OwnB w4 w3.heap.size A4 b8.length g4 b8 := ho4
  rw [B8.out] at ho4
  replace k00 := cell_next hb4 k00
  replace k01 := cell_next hb4 k01
  replace k02 := cell_next hb4 k02
  replace k03 := cell_next hb4 k03
  replace k04 := cell_next hb4 k04
  replace hbw := after_next hbw hb4
  go_wp2_with fail
  refine (F3.out _ hbw).mono ?_
  rintro x w5 ⟨A5, g5, rfl, ho5, hb5⟩
  replace ho5 : OwnB w5 w4.heap.size A5 fl.length g5 fl := ho5
  rw [HFL.out] at ho5
  replace k00 := cell_next hb5 k00
  replace k01 := cell_next hb5 k01
  replace k02 := cell_next hb5 k02
  replace k03 := cell_next hb5 k03
  replace k04 := cell_next hb5 k04
  replace hbw := after_next hbw hb5
  have s3 := (ho3.sl.next hb4).next hb5
  have s4 := ho4.sl.next hb5
  have s5 := ho5.sl
  clear ho3 ho4 ho5 hb3 hb4 hb5
  have HL' := HL.out
  have B8' := B8.out
  have HFL' := HFL.out
  clear HL B8 HFL
  go_wp2_with (first | (at_builtin; go_loud (refine wpList_append_b rfl (.tmp 56) (.tmp 57) rfl w5.heap.size (some ⟨w5.heap.size, 0, none⟩) 5 5 [1, 0, UInt8.ofNat f0, 0, UInt8.ofNat t0] rfl (OwnB.lit _ _ _ (by simp [HBF.out, HBT.out]; exact ⟨rfl, rfl⟩) rfl (by decide) (Nat.le_refl _)) (w5.heap.size + 1) A4 8 g4 b8 (by first | rfl | (simp [B8'])) ((s4.alloc (Nat.le_refl _) _).up (by simp)) (by omega) (by simp) ?_); intro A6 g6 w6 ho6 hg6 hb6) | (at_builtin; refine wpList_append_b rfl (.tmp 58) (.tmp 59) rfl w5.heap.size A6 _ g6 _ rfl ho6 w6.heap.size A5 65 g5 fl (by first | rfl | (simp [HFL'])) ((s5.below ((Below.refl _ _).alloc (Nat.le_refl _) _ |>.trans hb6)).up (by have := hb6.size; simp at this; omega)) (by omega) (by have := hb6.size; simp at this; omega) ?_; intro A7 g7 w7 ho7 hg7 hb7))
  rw [HB.out] at ho7
  have hb67 := (((Below.refl w5.heap.size w5).alloc (Nat.le_refl _) (.cells #[.int .u8 1, .int .u8 0, .int .u8 (f0 : Int), .int .u8 0, .int .u8 (t0 : Int)] 5)).trans hb6).trans hb7
  refine (Same_any _ _ _ _ _ _ _ _ _ _ _ (s3.next hb67) ho7.sl).mono ?_
  rw [decide_eq_true rfl]
  rintro e w9 ⟨rfl, rfl⟩
  go_wp2_with fail
  go_ret
  exact ⟨rfl, after_next hbw hb67⟩
end Go.Proofs.Ytbmdmioikdbigaa
