/- The chapter's examples of word: the call live of the statements answers true. -/
import Derived.Test.YtnkkmnffcbakpaaWordF
import Derived.Test.YtnkkmnffcbakpaaWordU
import Derived.Lib.SlBytesConst
namespace Go.Proofs.Ytnkkmnffcbakpaa
set_option linter.unusedSimpArgs false
set_option linter.unusedVariables false
open Go.RowKit

set_option maxHeartbeats 400000 in
theorem live_any (w : World) : Calls Try.prog 9 #[] w fun e w' => e = .returned (.bool true) ∧ Below w.heap.size w w' := by
  have kc := fun (w : World) (C : Array Value) (n c : Nat) => Lib.run_convert_bytes_const (P := Try.prog) w 23 5 C n c Try.underlying23 Try.underlying5
  have hP : ∀ w, Calls Try.prog 10 #[.int .u64 258, .int .i64 3] w (TellsB w ([0, 1, 2], 0)) := fun w => by
    have := wordPut_any w 258 3 (by decide)
    rw [show putS 258 3 = ([0, 1, 2], 0) from by decide] at this
    exact this
  have hF : ∀ w B A c, SlB w B A 2 c [97, 98] → B ≤ w.heap.size → Calls Try.prog 15 #[.slice A 2 c, .int .i64 4] w (TellsB w ([2, 97, 98, 0, 0], 0)) := fun w B A c h hB => by
    have := wordFill_any w B A 2 c [97, 98] 4 h hB (by decide)
    rw [show fillS [97, 98] 4 = ([2, 97, 98, 0, 0], 0) from by decide] at this
    exact this
  have HF := Lib.hid hF
  have HP := Lib.hid hP
  clear hF hP
  go_enter Try.func9, Try.ntmps9
  go_wp2_with (go_at_call 10; refine (HP.out _).mono ?_; rintro e w1 ⟨A1, c1, rfl, ho1, hb1⟩; replace ho1 : OwnB w1 w.heap.size A1 3 c1 [0, 1, 2] := ho1)
  refine (HF.out _ _ _ _ (SlB.laid w1 #[.int .u8 97, .int .u8 98] 5 (2, 3) [97, 98] 2 rfl rfl) (by simp)).mono ?_
  rintro e w2 ⟨A2, c2, rfl, ho2, hb2⟩
  replace ho2 : OwnB w2 _ A2 5 c2 [2, 97, 98, 0, 0] := ho2
  go_wp2_with fail
  have s1 := ((ho1.sl.alloc (Nat.le_refl _) (.cells #[.int .u8 97, .int .u8 98] 5 (2, 3))).below (hb2.mono (by simp))).alloc (by have := hb2.size; simp at this; omega) (.cells #[.int .u8 0, .int .u8 1, .int .u8 2] 5)
  refine (Same_any _ _ _ _ _ _ _ _ _ _ _ s1 (SlB.laid w2 #[.int .u8 0, .int .u8 1, .int .u8 2] 5 (0, 0) [0, 1, 2] 3 rfl rfl)).mono ?_
  rintro e w3 ⟨rfl, rfl⟩
  go_wp2_with fail
  have s2 := (ho2.sl.alloc (Nat.le_refl _) (.cells #[.int .u8 0, .int .u8 1, .int .u8 2] 5)).alloc (by simp) (.cells #[.int .u8 2, .int .u8 97, .int .u8 98, .int .u8 0, .int .u8 0] 5)
  have l2 := SlB.laid (w2.alloc (.cells #[.int .u8 0, .int .u8 1, .int .u8 2] 5)) #[.int .u8 2, .int .u8 97, .int .u8 98, .int .u8 0, .int .u8 0] 5 (0, 0) [2, 97, 98, 0, 0] 5 rfl rfl
  simp only [World.size_alloc] at l2
  refine (Same_any _ _ _ _ _ _ _ _ _ _ _ s2 l2).mono ?_
  rintro e w3 ⟨rfl, rfl⟩
  go_wp2_with fail
  go_ret
  refine ⟨rfl, ?_⟩
  have h2 := ((hb1.alloc hb1.size (.cells #[.int .u8 97, .int .u8 98] 5 (2, 3))).trans (hb2.mono (by have := hb1.size; simp; omega)))
  exact (h2.alloc h2.size _).alloc (by have := h2.size; simp; omega) _
end Go.Proofs.Ytnkkmnffcbakpaa
