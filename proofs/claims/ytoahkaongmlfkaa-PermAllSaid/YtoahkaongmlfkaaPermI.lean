/- What perm counts down by, and what of a draw is left over. -/
import Derived.RangeFuncNested
import Derived.RangeFuncBound
import Derived.RangeFuncCalls
import Derived.RangeFuncLeaves
import Derived.RangeFuncFrom
import Derived.Shelf.Abstract
import Derived.Shelf.RegionOpen
import Derived.WalkKit
import Derived.OwnWalkIn
import Derived.TacticsInMore
import Derived.LoopNIn
import Derived.LoopIn
import Derived.Test.YtoahkaongmlfkaaInts
namespace Go.Proofs.Ytoahkaongmlfkaa
set_option linter.unusedSimpArgs false
set_option linter.unusedVariables false
open Go.RowKit Go.Shelf
attribute [local go_sem] Oper.semAt_some

/-- What is left over, never below 0. -/
def leftS (d : Int) (b : Nat) : Nat := (((d.tmod b) + b).tmod b).toNat
theorem leftS_val (d : Int) (b : Nat) (hb : 1 ≤ b) : ((leftS d b : Nat) : Int) = ((d.tmod b) + b).tmod b ∧ leftS d b < b ∧ -(b : Int) < d.tmod b ∧ d.tmod b < b := by
  have h1 := Int.lt_tmod_of_pos d (show (0 : Int) < b by omega)
  have h2 := Int.tmod_lt_of_pos d (show (0 : Int) < b by omega)
  have h3 := Int.tmod_nonneg (b : Int) (show (0 : Int) ≤ d.tmod b + b by omega)
  have h4 := Int.tmod_lt_of_pos (d.tmod b + b) (show (0 : Int) < b by omega)
  unfold leftS
  omega

theorem leftOver_any (w : World) (d : Int) (b : Nat) (hd : -9223372036854775808 ≤ d ∧ d ≤ 9223372036854775807) (h1 : 1 ≤ b) (h2 : b ≤ 2000) :
    Calls Try.prog 23 #[.int .i64 d, .int .i64 (b : Int)] w fun e w' => e = .returned (.int .i64 (leftS d b : Nat)) ∧ w = w' := by
  obtain ⟨e1, e2, e3, e4⟩ := leftS_val d b h1
  have hb0 : (b : Int) ≠ 0 := by omega
  have hw1 : IntKind.i64.wrap (d.tmod b) = d.tmod b := IntWalk.i64_in _ ⟨by omega, by omega⟩
  have hw2 : IntKind.i64.wrap (d.tmod b + b) = d.tmod b + b := IntWalk.i64_in _ ⟨by omega, by omega⟩
  have hw3 : IntKind.i64.wrap ((d.tmod b + b).tmod b) = (leftS d b : Nat) := by rw [← e1]; exact IntWalk.i64_in _ ⟨by omega, by omega⟩
  have e5 := Int.tmod_eq_emod_of_nonneg (b := (b : Int)) (show 0 ≤ d.tmod b + b by omega)
  have e6 := fun h0 : 0 ≤ d => Int.tmod_eq_emod_of_nonneg (b := (b : Int)) h0
  have e7 : ∀ x : Int, Value.int .i64 x = Value.int .i64 ((d.tmod b + b) % b) → Ending.returned (.int .i64 x) = Ending.returned (.int .i64 ((leftS d b : Nat) : Int)) := fun x h => by rw [e1, e5, h]
  by_cases h0 : 0 ≤ d
  · go_enter Try.func23, Try.ntmps23
    have e8 := e6 h0
    clear e6
    go_wp2_with fail
    all_goals
      go_ret
      refine ⟨e7 _ ?_, rfl⟩
      first | rfl | (rw [e8]; done) | (rw [e8]; simp)
  · go_enter Try.func23, Try.ntmps23
    clear e6
    go_wp2_with fail
    all_goals
      go_ret
      refine ⟨e7 _ ?_, rfl⟩
      first | rfl | simp

theorem down_any (w : World) (a b : Int) :
    Calls Try.prog 22 #[.int .i64 a, .int .i64 b] w fun e w' => e = .returned (.func (.func 25) #[] #[.pointer (some ⟨w.heap.size, 0, none⟩), .pointer (some ⟨w.heap.size + 1, 0, none⟩)]) ∧ w' = (w.alloc (.cells #[.int .i64 a] 3)).alloc (.cells #[.int .i64 b] 3) := by
  go_enter Try.func22, Try.ntmps22
  go_wp2_with fail
  go_ret
  exact ⟨rfl, rfl⟩

/-- From n - 1 down to 1. -/
def downL (n : Nat) : List Nat := (List.range' 1 (n - 1)).reverse
theorem downL_len (n : Nat) : (downL n).length = n - 1 := by simp [downL]
theorem downL_get (n k : Nat) (h : k < n - 1) : (downL n)[k]? = some (n - 1 - k) := by
  unfold downL
  rw [List.getElem?_reverse (by simpa using h), List.length_range', List.getElem?_range' (by omega)]
  congr 1; omega

abbrev Idx (n : Nat) := { i : Nat // 1 ≤ i ∧ i < n }

theorem down_stops (k0 n : Nat) (hk : 1 ≤ k0) (hn : n ≤ 2000) (B1 B2 : Nat) (w : World) (h1 : B1 < w.heap.size) (h2 : B2 < w.heap.size)
    (c1 : w.cell? ⟨B1, 0, none⟩ = some (.int .i64 ((n : Int) - 1))) (c2 : w.cell? ⟨B2, 0, none⟩ = some (.int .i64 1)) :
    SeqStopsK Fence.wide k0 Try.prog 25 #[.pointer (some ⟨B1, 0, none⟩), .pointer (some ⟨B2, 0, none⟩)] (fun x : Idx n => #[.int .i64 (x.1 : Int)]) (fun W W' => W'.cell? ⟨B2, 0, none⟩ = W.cell? ⟨B2, 0, none⟩) (fun xs => xs.map (·.1) = downL n) (fun _ => True) n w := fun l J Jx W hW hJ hJx hY hJ0 => by
  refine callsIn_of_wp Try.func25 rfl trivial ?_ rfl
  simp only [Try.ntmps25, List.size_toArray, List.length_cons, List.length_nil, Nat.reduceAdd, Nat.reduceSub, Array.replicate_succ, Array.replicate_zero, List.push_toArray, List.append_toArray, List.nil_append, List.cons_append]
  have d1 : W.cell? ⟨B1, 0, none⟩ = some (.int .i64 ((n : Int) - 1)) := (hW.cell (p := ⟨B1, 0, none⟩) h1).trans c1
  have d20 : W.cell? ⟨B2, 0, none⟩ = some (.int .i64 1) := (hW.cell (p := ⟨B2, 0, none⟩) h2).trans c2
  gi_wp2
  gi_loopw [4] (fun i wr => ∃ (pre : List (Idx n)), i = .int .i64 ((n : Int) - 1 - pre.length) ∧ pre.map (·.1) = (downL n).take pre.length ∧ pre.length ≤ n - 1 ∧ J pre wr ∧ wr.cell? ⟨B2, 0, none⟩ = some (.int .i64 1)) (fun i _ => (intOf i).toNat)
  case atStart => exact ⟨[], by simp, by simp, Nat.zero_le _, hJ0, d20⟩
  case round =>
    obtain ⟨pre, rfl, hpre, hlen, hJs, d2⟩ := hrel
    by_cases hlt : pre.length < n - 1
    · have ge1 : (n : Int) - 1 - pre.length ≥ 1 := by omega
      have hval : ((n - 1 - pre.length : Nat) : Int) = (n : Int) - 1 - pre.length := by omega
      obtain ⟨fn, tmps, assign, body, hy, hR⟩ := hY pre ⟨n - 1 - pre.length, by omega, by omega⟩ wr hJs (by omega)
      dsimp only at hy
      rw [hval] at hy
      have hw1 : IntKind.i64.wrap ((n : Int) - 1 - pre.length - 1) = (n : Int) - 1 - pre.length - 1 := IntWalk.i64_in _ ⟨by omega, by omega⟩
      gi_wp2
      refine hR.mono ?_
      rintro e W3 (⟨rfl, hJ3, hk3⟩ | ⟨rfl, hJx3⟩)
      · gi_wp2
        go_roundw
        case rel =>
          refine ⟨pre ++ [⟨n - 1 - pre.length, by omega, by omega⟩], by simp; omega, ?_, by simp; omega, hJ3, hk3.trans d2⟩
          rw [List.map_append, hpre, List.length_append, List.length_singleton, List.take_add_one, downL_get n pre.length hlt]
          rfl
        case measure => simp [intOf]; omega
      · gi_wp2
        refine bodyPost_ret (results_none rfl _ _ _) rfl ?_
        exact ⟨⟨_, rfl⟩, .inr ⟨_, trivial, hJx3⟩⟩
    · have hge : ¬ ((n : Int) - 1 - pre.length ≥ 1) := by omega
      gi_wp2
      go_end0
      refine ⟨⟨_, rfl⟩, .inl ⟨pre, ?_, hJs⟩⟩
      exact (show pre.map (·.1) = downL n from by rw [hpre, List.take_of_length_le (by rw [downL_len]; omega)])
end Go.Proofs.Ytoahkaongmlfkaa
