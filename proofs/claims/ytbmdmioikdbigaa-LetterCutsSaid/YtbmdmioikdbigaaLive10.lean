/- The chapter's example of letter. -/
import Derived.Test.YtbmdmioikdbigaaLetP
import Derived.Lib.SlBytesConst
namespace Go.Proofs.Ytbmdmioikdbigaa
set_option linter.unusedSimpArgs false
set_option linter.unusedVariables false
open Go.RowKit

set_option maxRecDepth 100000 in
theorem live10_any (w : World) : Calls Try.prog 8 #[] w fun e w' => e = .returned (.bool true) ∧ Below w.heap.size w w' := by
  have kc := fun (w : World) (C : Array Value) (n c : Nat) => Lib.run_convert_bytes_const (P := Try.prog) w 22 5 C n c Try.underlying22 Try.underlying5
  have hex : ∃ b : List UInt8, bodyL 0 2 1 [104, 105] = b ∧ Hid (b.length = 78) ∧ Hid (b.take 5 = [1, 0, 0, 0, 2]) ∧ Hid (b[77]? = some 0) := ⟨_, rfl, Lib.hid (by decide), Lib.hid (by decide), Lib.hid (by decide)⟩
  obtain ⟨b, hb, HL, H5, H7⟩ := hex
  have HP := Lib.hid fun w B A c h hB => letPut_ok w B 0 2 1 2 c A [104, 105] h hB (by decide) (by decide)
  rw [hb] at HP
  clear hb
  go_enter Try.func8, Try.ntmps8
  go_wp2_with fail
  refine (HP.out _ _ _ _ (SlB.laid w #[.int .u8 104, .int .u8 105] 5 (2, 3) [104, 105] 2 rfl rfl) (by simp)).mono ?_
  intro e w1 ht
  obtain ⟨A1, c1, rfl, ho1, hb1⟩ := ht.pair
  clear ht
  rw [HL.out] at *
  have hbw := ((Below.refl _ _).alloc (Nat.le_refl _) _).trans (hb1.mono (by simp))
  obtain ⟨g, rfl, _, hg⟩ := ho1.head (by decide)
  have c77 : w1.cell? ⟨g, 77, none⟩ = some (.int .u8 0) := by
    obtain ⟨x, h, h2, _⟩ := ho1.cell (j := 77) (by decide)
    rw [H7.out] at h2
    cases h2
    exact h
  have hcap := ho1.sl.cap
  have m5 : (5 : Int) ≤ c1 := by omega
  have s5 := ho1.sl.take (k := 5) (m := c1) (by omega) (by omega)
  rw [H5.out] at s5
  replace s5 := s5.lay (.cells #[.int .u8 1, .int .u8 0, .int .u8 0, .int .u8 0, .int .u8 2] 5)
  replace c77 := cell_lay (o := .cells #[.int .u8 1, .int .u8 0, .int .u8 0, .int .u8 0, .int .u8 2] 5) c77
  clear hb1 ho1
  go_wp2_with fail
  refine (Same_any _ _ _ _ _ _ _ _ _ _ _ s5 (SlB.laidN (bs := [1, 0, 0, 0, 2]) rfl rfl rfl)).mono ?_
  rw [decide_eq_true rfl]
  rintro e w3 ⟨rfl, rfl⟩
  go_wp2_with fail
  go_ret
  exact ⟨rfl, after_lay hbw _⟩
end Go.Proofs.Ytbmdmioikdbigaa
