/- The walk of the law StampTakes. -/
import Derived.Test.YtknkdkheaamglaaOpenStamp
import Derived.Test.YtknkdkheaamglaaLive04
import Derived.Test.YtknkdkheaamglaaStampR
namespace Go.Proofs.Ytknkdkheaamglaa
set_option linter.unusedSimpArgs false
set_option linter.unusedVariables false
open Go.RowKit

theorem takeSt_len (bs : List UInt8) : (takeSt bs).1.2.2.length ≤ 255 := by
  unfold takeSt
  split
  · simp
  · split
    · simp
    · split
      · simp only [numsOf_len, List.length_take]
        have := (bs.getD 16 0).toNat_lt
        omega
      · simp

set_option maxHeartbeats 1600000 in
theorem walk_StampTakes (W : World) (v0 : Value) (o0 : Opn W 28 v0) :
    Calls Try.prog 4 #[v0] W fun e w' => e = .returned (.bool true) ∧ Below W.heap.size W w' := by
  obtain ⟨A, m, c, b, rfl, hs, hm⟩ := o0.bytes
  unfold maxLen at hm
  have hcap := hs.cap
  by_cases hl : 300 < m
  · go_enter Try.func4, Try.ntmps4
    go_wp2_with (go_at_call 9; refine (live_any _).mono ?_; rintro e w1 ⟨rfl, hb1⟩)
    go_ret
    exact ⟨rfl, hb1⟩
  have T1 := Lib.hid fun w (hb : Below W.heap.size W w) => stampTake_any w _ _ _ _ _ (hs.below hb) hb.size (by omega)
  have T2 := Lib.hid fun w (hb : Below W.heap.size W w) => refStampTake_any w _ _ _ _ _ (hs.below hb) hb.size (by omega)
  have hlen := takeSt_len b
  generalize takeSt b = r at T1 T2 hlen
  obtain ⟨⟨e, r, l⟩, k, err⟩ := r
  have S1 : Hid (sameS e r l e r l = true) := Lib.hid (by unfold sameS; exact decide_eq_true ⟨rfl, rfl, rfl⟩)
  go_enter Try.func4, Try.ntmps4
  go_wp2_with (go_at_call 9; refine (live_any _).mono ?_; rintro e w1 ⟨rfl, hb1⟩)
  refine (T1.out _ hb1).mono ?_
  rintro x w2 ⟨A1, g1, rfl, hs1, hb2⟩
  replace hb2 := after_next hb1 hb2
  go_wp2_with fail
  have hb3 := after_lay hb2 (.cells #[.int .u64 (e : Int), .int .u64 (r : Int), .slice A1 l.length g1] 25)
  have R1 := Row.new w2 25 #[.int .u64 (e : Int), .int .u64 (r : Int), .slice A1 l.length g1]
  replace hs1 := hs1.lay (.cells #[.int .u64 (e : Int), .int .u64 (r : Int), .slice A1 l.length g1] 25)
  refine (T2.out _ hb3).mono ?_
  rintro x w4 ⟨A2, g2, rfl, hs2, hb4⟩
  replace hs1 := hs1.next hb4
  replace R1 := R1.below hb4 (by simp)
  replace hb4 := after_next hb3 hb4
  have c0 := R1.cell 0
  have c1 := R1.cell 1
  have c2 := R1.cell 2
  simp at c0 c1 c2
  replace c0 := cell_lay (o := .cells #[.int .u64 (e : Int), .int .u64 (r : Int), .slice A2 l.length g2] 25) c0
  replace c1 := cell_lay (o := .cells #[.int .u64 (e : Int), .int .u64 (r : Int), .slice A2 l.length g2] 25) c1
  replace c2 := cell_lay (o := .cells #[.int .u64 (e : Int), .int .u64 (r : Int), .slice A2 l.length g2] 25) c2
  replace hs1 := hs1.lay (.cells #[.int .u64 (e : Int), .int .u64 (r : Int), .slice A2 l.length g2] 25)
  replace hs2 := hs2.lay (.cells #[.int .u64 (e : Int), .int .u64 (r : Int), .slice A2 l.length g2] 25)
  have hb5 := after_lay hb4 (.cells #[.int .u64 (e : Int), .int .u64 (r : Int), .slice A2 l.length g2] 25)
  go_wp2_with fail
  refine (refStampSame_any _ _ _ _ _ _ _ _ _ _ _ _ _ _ _ hs1 hs2 (Nat.le_refl _) (Nat.le_refl _) (by have h' : l.length ≤ 255 := hlen; omega)).mono ?_
  rw [S1.out]
  rintro x w6 ⟨rfl, hb6⟩
  go_wp2_with fail
  go_ret
  exact ⟨by simp, after_next hb5 hb6⟩
end Go.Proofs.Ytknkdkheaamglaa
