/- Notes: the map of kinds, made by hand. -/
import Derived.Test.YtgjkbihjpgppbaaPwNm
import Derived.Test.YtgjkbihjpgppbaaPwS
namespace Go.Proofs.Ytgjkbihjpgppbaa
set_option linter.unusedSimpArgs false
set_option linter.unusedVariables false
open Go Go.RowKit
set_option maxRecDepth 100000
def kindE0 : Array MapEntry := #[]
def kindE1 : Array MapEntry := #[{ key := .int .i64 1, val := .agg #[.int .i64 0, .int .i64 0], born := 0 }]
def kindE2 : Array MapEntry := #[{ key := .int .i64 1, val := .agg #[.int .i64 0, .int .i64 0], born := 0 }, { key := .int .i64 2, val := .agg #[.int .i64 0, .int .i64 0], born := 1 }]
def kindE3 : Array MapEntry := #[{ key := .int .i64 1, val := .agg #[.int .i64 0, .int .i64 0], born := 0 }, { key := .int .i64 2, val := .agg #[.int .i64 0, .int .i64 0], born := 1 }, { key := .int .i64 3, val := .agg #[.int .i64 1, .int .i64 1], born := 2 }]
def kindE4 : Array MapEntry := #[{ key := .int .i64 1, val := .agg #[.int .i64 0, .int .i64 0], born := 0 }, { key := .int .i64 2, val := .agg #[.int .i64 0, .int .i64 0], born := 1 }, { key := .int .i64 3, val := .agg #[.int .i64 1, .int .i64 1], born := 2 }, { key := .int .i64 4, val := .agg #[.int .i64 0, .int .i64 64], born := 3 }]
def kindE5 : Array MapEntry := #[{ key := .int .i64 1, val := .agg #[.int .i64 0, .int .i64 0], born := 0 }, { key := .int .i64 2, val := .agg #[.int .i64 0, .int .i64 0], born := 1 }, { key := .int .i64 3, val := .agg #[.int .i64 1, .int .i64 1], born := 2 }, { key := .int .i64 4, val := .agg #[.int .i64 0, .int .i64 64], born := 3 }, { key := .int .i64 5, val := .agg #[.int .i64 0, .int .i64 64], born := 4 }]
def kindE6 : Array MapEntry := #[{ key := .int .i64 1, val := .agg #[.int .i64 0, .int .i64 0], born := 0 }, { key := .int .i64 2, val := .agg #[.int .i64 0, .int .i64 0], born := 1 }, { key := .int .i64 3, val := .agg #[.int .i64 1, .int .i64 1], born := 2 }, { key := .int .i64 4, val := .agg #[.int .i64 0, .int .i64 64], born := 3 }, { key := .int .i64 5, val := .agg #[.int .i64 0, .int .i64 64], born := 4 }, { key := .int .i64 6, val := .agg #[.int .i64 1, .int .i64 1], born := 5 }]
def kindE7 : Array MapEntry := #[{ key := .int .i64 1, val := .agg #[.int .i64 0, .int .i64 0], born := 0 }, { key := .int .i64 2, val := .agg #[.int .i64 0, .int .i64 0], born := 1 }, { key := .int .i64 3, val := .agg #[.int .i64 1, .int .i64 1], born := 2 }, { key := .int .i64 4, val := .agg #[.int .i64 0, .int .i64 64], born := 3 }, { key := .int .i64 5, val := .agg #[.int .i64 0, .int .i64 64], born := 4 }, { key := .int .i64 6, val := .agg #[.int .i64 1, .int .i64 1], born := 5 }, { key := .int .i64 7, val := .agg #[.int .i64 0, .int .i64 0], born := 6 }]
theorem kinds_run (w : World) : Calls Try.prog 24 #[] w fun e w' => e = .returned (.map (some w.heap.size)) ∧ w' = w.alloc (.map kindE7 7) := by
  have hmm := @run_makeMap Try.prog
  have i1 : (Instr.mapUpdate 47 (.map (some w.heap.size)) (.int .i64 1) (.agg #[.int .i64 0, .int .i64 0])).run Try.prog (w.alloc (.map kindE0 0)) = .ok () (w.alloc (.map kindE1 1)) := run_insB Try.underlying47 Try.underlying3 rfl
  have i2 : (Instr.mapUpdate 47 (.map (some w.heap.size)) (.int .i64 2) (.agg #[.int .i64 0, .int .i64 0])).run Try.prog (w.alloc (.map kindE1 1)) = .ok () (w.alloc (.map kindE2 2)) := run_insB Try.underlying47 Try.underlying3 rfl
  have i3 : (Instr.mapUpdate 47 (.map (some w.heap.size)) (.int .i64 3) (.agg #[.int .i64 1, .int .i64 1])).run Try.prog (w.alloc (.map kindE2 2)) = .ok () (w.alloc (.map kindE3 3)) := run_insB Try.underlying47 Try.underlying3 rfl
  have i4 : (Instr.mapUpdate 47 (.map (some w.heap.size)) (.int .i64 4) (.agg #[.int .i64 0, .int .i64 64])).run Try.prog (w.alloc (.map kindE3 3)) = .ok () (w.alloc (.map kindE4 4)) := run_insB Try.underlying47 Try.underlying3 rfl
  have i5 : (Instr.mapUpdate 47 (.map (some w.heap.size)) (.int .i64 5) (.agg #[.int .i64 0, .int .i64 64])).run Try.prog (w.alloc (.map kindE4 4)) = .ok () (w.alloc (.map kindE5 5)) := run_insB Try.underlying47 Try.underlying3 rfl
  have i6 : (Instr.mapUpdate 47 (.map (some w.heap.size)) (.int .i64 6) (.agg #[.int .i64 1, .int .i64 1])).run Try.prog (w.alloc (.map kindE5 5)) = .ok () (w.alloc (.map kindE6 6)) := run_insB Try.underlying47 Try.underlying3 rfl
  have i7 : (Instr.mapUpdate 47 (.map (some w.heap.size)) (.int .i64 7) (.agg #[.int .i64 0, .int .i64 0])).run Try.prog (w.alloc (.map kindE6 6)) = .ok () (w.alloc (.map kindE7 7)) := run_insB Try.underlying47 Try.underlying3 rfl
  have e0 : w.alloc (.map #[] 0) = w.alloc (.map kindE0 0) := rfl
  go_enter Try.func24, Try.ntmps24
  go_wp2_with fail
  go_ret
  exact ⟨rfl, rfl⟩
theorem kinds_pc : PC Try.prog 24 [] [] (.leaf (.mp kindE7)) := by
  intro B args w hgl hs ha
  obtain rfl : args = #[] := Array.eq_empty_of_size_eq_zero hs
  refine (kinds_run w).mono fun e w' ⟨he, hw⟩ => ?_
  subst hw
  have hg : (w.alloc (.map kindE7 7)).heap[w.heap.size]? = some (.map kindE7 7) := (MapKept.heap_alloc w _).1
  refine ⟨.map (some w.heap.size), μ0, he, (Below.refl _ _).alloc (Nat.le_refl _) _, ⟨fun id ab hh => by simp [hOf] at hh, fun id ab hh => by simp [hOf] at hh, fun i j a b g h1 => by simp [hOf] at h1, by simp, fun id ab g hh => by simp [hOf] at hh⟩, ?_⟩
  exact RL.mp _ w.heap.size 7 ⟨⟨⟨by simp, fun id ab hh => by simp [hOf] at hh⟩, .inr (.inl (Nat.le_refl _))⟩, hg⟩
end Go.Proofs.Ytgjkbihjpgppbaa
