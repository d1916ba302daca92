/- The chapter's example of stamp, and the helper short. -/
import Derived.Test.YtknkdkheaamglaaStampP
import Derived.Test.YtknkdkheaamglaaInts
namespace Go.Proofs.Ytknkdkheaamglaa
set_option linter.unusedSimpArgs false
set_option linter.unusedVariables false
open Go.RowKit

theorem short_any (w : World) (B g n : Nat) (fe fr fn fc : Nat → Nat) (fA : Nat → Option Addr) (hn : n ≤ 140737488355328)
    (hc : ∀ k, k < n → w.cell? ⟨g, k * 3, none⟩ = some (.int .u64 (fe k : Int)) ∧ w.cell? ⟨g, k * 3 + 1, none⟩ = some (.int .u64 (fr k : Int)) ∧ w.cell? ⟨g, k * 3 + 2, none⟩ = some (.slice (fA k) (fn k) (fc k))) :
    Calls Try.prog 10 #[.slice (some ⟨g, 0, none⟩) n n] w fun e w' => e = .returned (.bool (decide (∀ k, k < n → fn k ≤ 60))) ∧ Below w.heap.size w w' := by
  have HC := Lib.hid hc
  clear hc
  go_enter Try.func10, Try.ntmps10
  go_wp2_with fail
  go_loopw [7] (fun i wr => ∃ k : Nat, k ≤ n ∧ i = .int .i64 k ∧ (∀ j, j < k → fn j ≤ 60) ∧ Below w.heap.size w wr) (fun i _ => n - (intOf i).toNat)
  case atStart => exact ⟨0, Nat.zero_le _, rfl, by omega, Below.refl _ _⟩
  case round =>
    obtain ⟨k, hk, rfl, hall, hb⟩ := hrel
    by_cases hlt : k < n
    · obtain ⟨h0, h1, h2⟩ := HC.out k hlt
      have h0 := (hb.cell (World.block_lt_of_cell? w _ h0)).trans h0
      have h1 := (hb.cell (World.block_lt_of_cell? w _ h1)).trans h1
      have h2 := (hb.cell (World.block_lt_of_cell? w _ h2)).trans h2
      by_cases h60 : fn k ≤ 60
      · go_wp2_with fail
        go_roundw
        case rel =>
          refine ⟨k + 1, by omega, by simp, ?_, hb.alloc hb.size _⟩
          intro j hj
          rcases Nat.lt_or_ge j k with h | h
          · exact hall j h
          · obtain rfl : j = k := by omega
            exact h60
        case measure => simp [intOf]; omega
      · go_wp2_with fail
        go_ret
        rw [decide_eq_false (fun h : (∀ k, k < n → fn k ≤ 60) => h60 (h k hlt))]
        exact ⟨rfl, hb.alloc hb.size _⟩
    · obtain rfl : k = n := by omega
      go_wp2_with fail
      go_ret
      rw [decide_eq_true hall]
      exact ⟨rfl, hb⟩

theorem live_any (w : World) : Calls Try.prog 9 #[] w fun e w' => e = .returned (.bool true) ∧ Below w.heap.size w w' := by
  have hP : ∀ w B A c, SlI w B A 2 c [3, 1] → B ≤ w.heap.size → Calls Try.prog 11 #[.agg #[.int .u64 1, .int .u64 2, .slice A 2 c]] w (TellsB w ([0, 0, 0, 0, 0, 0, 0, 1, 0, 0, 0, 0, 0, 0, 0, 2, 2, 3, 1], 0)) := fun w B A c h hB => by
    have := stampPut_ok w B 1 2 2 c A [3, 1] h hB (by decide) (by decide) (by decide)
    rw [show putSt 1 2 [3, 1] = [0, 0, 0, 0, 0, 0, 0, 1, 0, 0, 0, 0, 0, 0, 0, 2, 2, 3, 1] from by decide] at this
    exact this
  have HP := Lib.hid hP
  clear hP
  go_enter Try.func9, Try.ntmps9
  go_wp2_with fail
  refine (HP.out _ _ _ _ (SlI.laid w #[.int .i64 3, .int .i64 1] 3 (0, 0) [3, 1] 2 rfl rfl) (by simp)).mono ?_
  rintro e w1 ⟨A1, c1, rfl, ho1, hb1⟩
  replace ho1 : OwnB w1 _ A1 19 c1 [0, 0, 0, 0, 0, 0, 0, 1, 0, 0, 0, 0, 0, 0, 0, 2, 2, 3, 1] := ho1
  have hb := ((Below.refl _ _).alloc (Nat.le_refl _) _).trans (hb1.mono (by simp))
  have s1 := ho1.sl
  obtain ⟨g, rfl, _, _⟩ := ho1.head (by decide)
  have c7 : w1.cell? ⟨g, 7, none⟩ = some (.int .u8 1) := by obtain ⟨x, h, h2, _⟩ := ho1.cell (j := 7) (by decide); cases h2; exact h
  have c15 : w1.cell? ⟨g, 15, none⟩ = some (.int .u8 2) := by obtain ⟨x, h, h2, _⟩ := ho1.cell (j := 15) (by decide); cases h2; exact h
  have c16 : w1.cell? ⟨g, 16, none⟩ = some (.int .u8 2) := by obtain ⟨x, h, h2, _⟩ := ho1.cell (j := 16) (by decide); cases h2; exact h
  have c17 : w1.cell? ⟨g, 17, none⟩ = some (.int .u8 3) := by obtain ⟨x, h, h2, _⟩ := ho1.cell (j := 17) (by decide); cases h2; exact h
  have c18 : w1.cell? ⟨g, 18, none⟩ = some (.int .u8 1) := by obtain ⟨x, h, h2, _⟩ := ho1.cell (j := 18) (by decide); cases h2; exact h
  clear ho1 hb1 s1
  go_wp2_with fail
  go_ret
  exact ⟨rfl, hb⟩
theorem short1_any (w : World) (e0 r0 n0 c0 : Nat) (A0 : Option Addr) :
    Calls Try.prog 10 #[.slice (some ⟨w.heap.size, 0, none⟩) 1 1] (w.alloc (.cells #[.int .u64 (e0 : Int), .int .u64 (r0 : Int), .slice A0 n0 c0] 25)) fun e w' => e = .returned (.bool (decide (n0 ≤ 60))) ∧ Below w.heap.size w w' := by
  have R := Row.new w 25 #[.int .u64 (e0 : Int), .int .u64 (r0 : Int), .slice A0 n0 c0]
  refine (short_any _ 0 _ 1 (fun _ => e0) (fun _ => r0) (fun _ => n0) (fun _ => c0) (fun _ => A0) (by decide) ?_).mono ?_
  · intro k hk
    obtain rfl : k = 0 := by omega
    exact ⟨R.cell 0, R.cell 1, R.cell 2⟩
  · rintro e w' ⟨rfl, hb⟩
    refine ⟨?_, ((Below.refl _ _).alloc (Nat.le_refl _) _).trans (hb.mono (by simp))⟩
    congr 2
    rw [Bool.eq_iff_iff, decide_eq_true_eq, decide_eq_true_eq]
    exact ⟨fun h => h 0 (by decide), fun h _ _ => h⟩

theorem short2_any (w : World) (e0 r0 n0 c0 : Nat) (A0 : Option Addr) (e1 r1 n1 c1 : Nat) (A1 : Option Addr) :
    Calls Try.prog 10 #[.slice (some ⟨w.heap.size, 0, none⟩) 2 2] (w.alloc (.cells #[.int .u64 (e0 : Int), .int .u64 (r0 : Int), .slice A0 n0 c0, .int .u64 (e1 : Int), .int .u64 (r1 : Int), .slice A1 n1 c1] 25)) fun e w' => e = .returned (.bool (decide (n0 ≤ 60 ∧ n1 ≤ 60))) ∧ Below w.heap.size w w' := by
  have R := Row.new w 25 #[.int .u64 (e0 : Int), .int .u64 (r0 : Int), .slice A0 n0 c0, .int .u64 (e1 : Int), .int .u64 (r1 : Int), .slice A1 n1 c1]
  refine (short_any _ 0 _ 2 (fun k => if k = 0 then e0 else e1) (fun k => if k = 0 then r0 else r1) (fun k => if k = 0 then n0 else n1) (fun k => if k = 0 then c0 else c1) (fun k => if k = 0 then A0 else A1) (by decide) ?_).mono ?_
  · intro k hk
    rcases (show k = 0 ∨ k = 1 by omega) with rfl | rfl
    · exact ⟨R.cell 0, R.cell 1, R.cell 2⟩
    · exact ⟨R.cell 3, R.cell 4, R.cell 5⟩
  · rintro e w' ⟨rfl, hb⟩
    refine ⟨?_, ((Below.refl _ _).alloc (Nat.le_refl _) _).trans (hb.mono (by simp))⟩
    congr 2
    rw [Bool.eq_iff_iff, decide_eq_true_eq, decide_eq_true_eq]
    refine ⟨fun h => ⟨h 0 (by decide), h 1 (by decide)⟩, fun h k hk => ?_⟩
    rcases (show k = 0 ∨ k = 1 by omega) with rfl | rfl
    · exact h.1
    · exact h.2

theorem short3_any (w : World) (e0 r0 n0 c0 : Nat) (A0 : Option Addr) (e1 r1 n1 c1 : Nat) (A1 : Option Addr) (e2 r2 n2 c2 : Nat) (A2 : Option Addr) :
    Calls Try.prog 10 #[.slice (some ⟨w.heap.size, 0, none⟩) 3 3] (w.alloc (.cells #[.int .u64 (e0 : Int), .int .u64 (r0 : Int), .slice A0 n0 c0, .int .u64 (e1 : Int), .int .u64 (r1 : Int), .slice A1 n1 c1, .int .u64 (e2 : Int), .int .u64 (r2 : Int), .slice A2 n2 c2] 25)) fun e w' => e = .returned (.bool (decide (n0 ≤ 60 ∧ n1 ≤ 60 ∧ n2 ≤ 60))) ∧ Below w.heap.size w w' := by
  have R := Row.new w 25 #[.int .u64 (e0 : Int), .int .u64 (r0 : Int), .slice A0 n0 c0, .int .u64 (e1 : Int), .int .u64 (r1 : Int), .slice A1 n1 c1, .int .u64 (e2 : Int), .int .u64 (r2 : Int), .slice A2 n2 c2]
  refine (short_any _ 0 _ 3 (fun k => if k = 0 then e0 else if k = 1 then e1 else e2) (fun k => if k = 0 then r0 else if k = 1 then r1 else r2) (fun k => if k = 0 then n0 else if k = 1 then n1 else n2) (fun k => if k = 0 then c0 else if k = 1 then c1 else c2) (fun k => if k = 0 then A0 else if k = 1 then A1 else A2) (by decide) ?_).mono ?_
  · intro k hk
    rcases (show k = 0 ∨ k = 1 ∨ k = 2 by omega) with rfl | rfl | rfl
    · exact ⟨R.cell 0, R.cell 1, R.cell 2⟩
    · exact ⟨R.cell 3, R.cell 4, R.cell 5⟩
    · exact ⟨R.cell 6, R.cell 7, R.cell 8⟩
  · rintro e w' ⟨rfl, hb⟩
    refine ⟨?_, ((Below.refl _ _).alloc (Nat.le_refl _) _).trans (hb.mono (by simp))⟩
    congr 2
    rw [Bool.eq_iff_iff, decide_eq_true_eq, decide_eq_true_eq]
    refine ⟨fun h => ⟨h 0 (by decide), h 1 (by decide), h 2 (by decide)⟩, fun h k hk => ?_⟩
    rcases (show k = 0 ∨ k = 1 ∨ k = 2 by omega) with rfl | rfl | rfl
    · exact h.1
    · exact h.2.1
    · exact h.2.2
end Go.Proofs.Ytknkdkheaamglaa
