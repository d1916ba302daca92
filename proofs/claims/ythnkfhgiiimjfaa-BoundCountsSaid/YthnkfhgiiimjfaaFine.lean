/- The contracts of package bound: fates, rounds, ticks. -/
import Derived.Test.YthnkfhgiiimjfaaInts
import Derived.Test.YthnkfhgiiimjfaaReg
namespace Go.Proofs.Ythnkfhgiiimjfaa
set_option linter.unusedSimpArgs false
set_option linter.unusedVariables false
open Go.RowKit

/-- P22.1: nothing lost, nothing late. -/
def fineZ (d z : Int) : Bool := decide (0 ≤ z) && decide (1 + z % 16 ≤ d)
def fineS (zs : List Int) (d : Int) : Bool := zs.all (fineZ d)

theorem Fine_any (w : World) (B : Nat) (A : Option Addr) (n c : Nat) (zs : List Int) (d : Int) (h : SlI w B A n c zs) (hn : n ≤ 140737488355328) :
    Calls Try.prog 9 #[.slice A n c, .int .i64 d] w fun e w' => e = .returned (.bool (fineS zs d)) ∧ w = w' := by
  have hlen := Lib.hid h.len
  go_enter Try.func9, Try.ntmps9
  go_wp2_with fail
  go_loopw [9] (fun i wr => ∃ k : Nat, k ≤ n ∧ i = .int .i64 k ∧ fineS (zs.take k) d = true ∧ w = wr) (fun i _ => n - (intOf i).toNat)
  case atStart => exact ⟨0, Nat.zero_le _, rfl, rfl, rfl⟩
  case round =>
    obtain ⟨k, hk, rfl, hall, rfl⟩ := hrel
    by_cases hlt : k < n
    · obtain ⟨p, z, rfl, _, hcell, hz⟩ := h.at_ hlt
      have HZ := Lib.hid hz
      have HALL := Lib.hid hall
      clear hz hall
      by_cases hz0 : z < 0
      · go_wp2_with fail
        go_ret
        refine ⟨?_, rfl⟩
        have : fineS zs d = false := by
          unfold fineS
          rw [List.all_eq_false]
          exact ⟨z, List.mem_of_getElem? HZ.out, by unfold fineZ; simp; omega⟩
        rw [this]; rfl
      · have hz1 : Int.tmod z 16 = z % 16 := Int.tmod_eq_emod_of_nonneg (by omega)
        have hw1 : IntKind.i64.wrap (z % 16) = z % 16 := IntWalk.i64_in _ ⟨by omega, by omega⟩
        have hw2 : IntKind.i64.wrap (1 + z % 16) = 1 + z % 16 := IntWalk.i64_in _ ⟨by omega, by omega⟩
        by_cases hlate : d < 1 + z % 16
        · go_wp2_with fail
          go_ret
          refine ⟨?_, rfl⟩
          have : fineS zs d = false := by
            unfold fineS
            rw [List.all_eq_false]
            exact ⟨z, List.mem_of_getElem? HZ.out, by unfold fineZ; simp; omega⟩
          rw [this]; rfl
        · go_wp2_with fail
          go_roundw
          case rel =>
            refine ⟨k + 1, by omega, by simp, ?_, trivial⟩
            rw [take_nextI HZ.out]
            have h1 := HALL.out
            unfold fineS at h1 ⊢
            rw [List.all_append, h1]
            simp [fineZ]; omega
          case measure => simp [intOf]; omega
    · obtain rfl : k = n := by omega
      rw [List.take_of_length_le (by rw [hlen.out]; exact Nat.le_refl _)] at hall
      go_wp2_with fail
      go_ret
      rw [hall]
      exact ⟨rfl, rfl⟩

theorem Rounds_any (w : World) (a b : Int) (ha : 0 ≤ a) (hb : 0 ≤ b) (h : a + b ≤ 1000000000) :
    Calls Try.prog 13 #[.int .i64 a, .int .i64 b] w fun e w' => e = .returned (.int .i64 (a + b + 2)) ∧ w = w' := by
  have hw1 : IntKind.i64.wrap (a + b) = a + b := IntWalk.i64_in _ ⟨by omega, by omega⟩
  have hw2 : IntKind.i64.wrap (a + b + 2) = a + b + 2 := IntWalk.i64_in _ ⟨by omega, by omega⟩
  go_enter Try.func13, Try.ntmps13
  go_wp2_with fail
  go_ret
  exact ⟨by simp [*], rfl⟩

theorem live22_any (w : World) : Calls Try.prog 7 #[] w fun e w' => e = .returned (.bool true) ∧ w = w' := by
  go_enter Try.func7, Try.ntmps7
  go_wp2_with (go_at_call 13; refine (Rounds_any _ _ _ (by decide) (by decide) (by decide)).mono ?_; rintro e w' ⟨rfl, rfl⟩)
  go_ret
  exact ⟨rfl, rfl⟩
end Go.Proofs.Ythnkfhgiiimjfaa
