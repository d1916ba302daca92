/- The contracts of package word: texts. -/
import Derived.Test.YtbmdmioikdbigaaWord
namespace Go.Proofs.Ytbmdmioikdbigaa
set_option linter.unusedSimpArgs false
set_option linter.unusedVariables false
open Go.RowKit

/-! ### Fill -/

/-- P3.2. -/
def fillS (bs : List UInt8) (wide : Int) : List UInt8 × Int :=
  if wide < 1 ∨ 255 < wide then ([], 1) else if wide < bs.length then ([], 2) else (UInt8.ofNat bs.length :: bs ++ List.replicate (wide.toNat - bs.length) 0, 0)
theorem fillS_arg (bs : List UInt8) (wide : Int) (h : wide < 1 ∨ 255 < wide) : fillS bs wide = ([], 1) := by unfold fillS; rw [if_pos h]
theorem fillS_long (bs : List UInt8) (k : Nat) (h1 : 1 ≤ k) (h8 : k ≤ 255) (h : k < bs.length) : fillS bs k = ([], 2) := by
  unfold fillS; rw [if_neg (by omega), if_pos (by omega)]
theorem fillS_ok (bs : List UInt8) (k : Nat) (h1 : 1 ≤ k) (h8 : k ≤ 255) (h : bs.length ≤ k) : fillS bs k = (UInt8.ofNat bs.length :: bs ++ List.replicate (k - bs.length) 0, 0) := by
  unfold fillS; rw [if_neg (by omega), if_neg (by omega), Int.toNat_natCast]

set_option maxHeartbeats 400000 in
theorem wordFill_any (w : World) (B : Nat) (A : Option Addr) (n c : Nat) (bs : List UInt8) (wide : Int) (h : SlB w B A n c bs) (hB : B ≤ w.heap.size) (hn : n ≤ 140737488355328) :
    Calls Try.prog 17 #[.slice A n c, .int .i64 wide] w (TellsB w (fillS bs wide)) := by
  have hlen := Lib.hid h.len
  by_cases hr : wide < 1 ∨ 255 < wide
  · rw [fillS_arg bs wide hr]
    rcases hr with hr | hr
    all_goals
      go_enter Try.func17, Try.ntmps17
      go_wp2
      go_ret2
      exact ⟨none, 0, rfl, OwnB.nil _ _, Below.refl _ _⟩
  · obtain ⟨k, rfl⟩ := Int.eq_ofNat_of_zero_le (show 0 ≤ wide by omega)
    have h1 : 1 ≤ k := by omega
    have h8 : k ≤ 255 := by omega
    clear hr
    by_cases hl : k < n
    · rw [fillS_long bs k h1 h8 (by rw [hlen.out]; exact hl)]
      go_enter Try.func17, Try.ntmps17
      go_wp2
      go_ret2
      exact ⟨none, 0, rfl, OwnB.nil _ _, Below.refl _ _⟩
    · go_enter Try.func17, Try.ntmps17
      go_wp2_with (first | (at_make; refine wpList_make_b rfl (.tmp 18) (.tmp 18) rfl w.heap.size (1 + k) (by go_num) (by go_num) (by omega) (Nat.le_refl _) ?_; intro w1 hown1 hb1 hlt1; obtain ⟨x0, hc0, _⟩ := hown1.cell (j := 0) (by omega); have hf0 := hown1.free 0) | ((with_reducible show wpList _ _ _ ({ dst := some 28, op := _, type := _, pos := _, after := _, guard := _ } :: _) _ _); (refine wpList_copy_b rfl (.tmp 26) (.tmp 27) rfl w.heap.size w.heap.size (1 + k) 1 ((List.replicate (1 + k) 0).set 0 (UInt8.ofNat n)) _ _ _ rfl (hown1.store 0 (bv_small (by omega))) B A n c bs rfl ((h.below (hb1.mono hB)).below ((Below.refl _ _).setCell hB _)) (by omega) (by omega) (fun _ => by first | rfl | exact cutA_lit _ _ _ (by omega)) w w.heap.size (hb1.setCell (Nat.le_refl _) _) (Nat.le_refl _) ?_); intro w2 hown2 hb2 hz2))
      go_ret2
      refine ⟨some ⟨w.heap.size, 0, none⟩, 1 + k, ?_⟩
      have e : 1 + k = (UInt8.ofNat bs.length :: bs ++ List.replicate (k - bs.length) 0).length := by simp [hlen.out]; omega
      rw [fillS_ok bs k h1 h8 (by rw [hlen.out]; omega), ← e]
      refine ⟨rfl, hown2.cast ?_, hb2⟩
      rw [← hlen.out, Nat.add_comm 1 k, List.replicate_succ]
      simp [Nat.add_comm 1]

set_option maxHeartbeats 400000 in
theorem refFill_any (w : World) (B : Nat) (A : Option Addr) (n c : Nat) (bs : List UInt8) (wide : Int) (h : SlB w B A n c bs) (hB : B ≤ w.heap.size) (hn : n ≤ 140737488355328) :
    Calls Try.prog 32 #[.slice A n c, .int .i64 wide] w (TellsB w (fillS bs wide)) := by
  have hlen := Lib.hid h.len
  by_cases hr : wide < 1 ∨ 255 < wide
  · rw [fillS_arg bs wide hr]
    rcases hr with hr | hr
    all_goals
      go_enter Try.func32, Try.ntmps32
      go_wp2
      go_ret2
      exact ⟨none, 0, rfl, OwnB.nil _ _, Below.refl _ _⟩
  · obtain ⟨k, rfl⟩ := Int.eq_ofNat_of_zero_le (show 0 ≤ wide by omega)
    have h1 : 1 ≤ k := by omega
    have h8 : k ≤ 255 := by omega
    clear hr
    by_cases hl : k < n
    · rw [fillS_long bs k h1 h8 (by rw [hlen.out]; exact hl)]
      go_enter Try.func32, Try.ntmps32
      go_wp2
      go_ret2
      exact ⟨none, 0, rfl, OwnB.nil _ _, Below.refl _ _⟩
    · go_enter Try.func32, Try.ntmps32
      go_wp2_with (at_builtin; refine wpList_append_b rfl (.tmp 20) (.tmp 21) rfl w.heap.size (some ⟨w.heap.size, 0, none⟩) 1 1 [UInt8.ofNat n] rfl (OwnB.lit _ _ _ (by simp [bv_small (show n < 256 by omega)]) rfl (by decide) (Nat.le_refl _)) B A n c bs rfl (h.alloc hB _) (by omega) (by simp) ?_; intro A1 c1 w1 hown1 hg1 hb1)
      go_loopw [6] (fun o wr => ∃ (j c : Nat) (A : Option Addr), n + 1 + j ≤ k + 1 ∧ o = .slice A (1 + n + j) c ∧ OwnB wr w.heap.size A (1 + n + j) c (UInt8.ofNat n :: bs ++ List.replicate j 0) ∧ Below w.heap.size w wr) (fun o _ => match o with | .slice _ n _ => k + 2 - n | _ => 0)
      case atStart => exact ⟨0, c1, A1, by omega, rfl, hown1.cast (by simp), ((Below.refl _ _).alloc (Nat.le_refl _) _).trans hb1⟩
      case round =>
        obtain ⟨j, c, A, hj, rfl, hown, hb⟩ := hrel
        have hz := hb.size
        by_cases hjk : 1 + n + j < k + 1
        · go_wp2_with (at_builtin; (refine wpList_append_b rfl (.tmp 28) (.tmp 29) rfl w.heap.size A _ c _ rfl (hown.alloc (.cells #[.int .u8 0] 5)) _ (some ⟨wr.heap.size, 0, none⟩) 1 1 [0] rfl (OwnB.lit (base := 0) _ [0] 1 rfl rfl (by decide) (Nat.zero_le _)).sl (by omega) (by simp; omega) ?_); intro A2 c2 w2 hown2 hg2 hb2)
          go_roundw
          case rel => exact ⟨j + 1, c2, A2, by omega, rfl, hown2.cast (by rw [List.append_assoc, ← List.replicate_succ']), (hb.alloc hz _).trans hb2⟩
          case measure => simp; omega
        · obtain rfl : n + j = k := by omega
          go_wp2
          go_ret2
          refine ⟨A, c, ?_⟩
          have e : 1 + n + j = (UInt8.ofNat bs.length :: bs ++ List.replicate (n + j - bs.length) 0).length := by simp [hlen.out]; omega
          rw [fillS_ok bs (n + j) h1 h8 (by rw [hlen.out]; omega), ← e]
          exact ⟨rfl, hown.cast (by rw [hlen.out, Nat.add_sub_cancel_left]), hb⟩

end Go.Proofs.Ytbmdmioikdbigaa
