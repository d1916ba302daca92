/- The bound: who is sure. -/
import Derived.Test.YthnkfhgiiimjfaaPwBf
namespace Go.Proofs.Ythnkfhgiiimjfaa
set_option linter.unusedSimpArgs false
set_option linter.unusedVariables false
open Go Go.RowKit
attribute [local congr] AW_congr AOs_congr aCall_congr aCall1_congr aSem_congr aSliceO_congr aBuildO_congr aStoreO_congr
attribute [local go_sem] rowsE_length rowsE_get Option.map_map shiftE_rows List.take_length
set_option maxRecDepth 100000


attribute [local simp] leEs_int
/-- The chain that is asked. -/
def FailsAs (c : Cf) (ch ch2 : List Int) : Prop := ∀ (v : Nat → Value) (fs : List Int) (ro : Nat) (sb : List Int) (dd : List Bool) (hl : Bool), dd.length ≤ 60 → sb.length ≤ 60 → PC Try.prog 11 [cfT c, wldT v fs ro ch sb dd hl] [] (.tup [intT (deadN dd ch2), intT (liveN dd sb)])
theorem fails_ex (c : Cf) (ch : List Int) (hc : ch.length ≤ 140737488355328) : ∃ ch2, FailsAs c ch ch2 := by
  by_cases h : ch.length = 0
  · obtain ⟨fc, h8, e⟩ := first_pc c
    exact ⟨fc, fun v fs ro sb dd hl hd hs => failedX_pc c v fs ro ch sb fc dd hl hd hs (by omega) (.inr ⟨h, e⟩)⟩
  · exact ⟨ch, fun v fs ro sb dd hl hd hs => failedX_pc c v fs ro ch sb ch dd hl hd hs hc (.inl ⟨h, rfl⟩)⟩
def SureP (c : Cf) (fs : List Int) (ro : Nat) (ch2 sb : List Int) (dd : List Bool) (hl : Bool) (d : Int) : Prop := longP c d ∧ fineV fs d = true ∧ hl = false ∧ ro ≤ 18446744073709550615 ∧ (deadN dd ch2 < liveN dd sb ∨ (deadN dd ch2 = 0 ∧ sb.length = 0))
set_option maxHeartbeats 8000000 in
theorem sure_pc (c : Cf) (v : Nat → Value) (fs : List Int) (ro : Nat) (ch sb : List Int) (dd : List Bool) (hl : Bool) (ch2 : List Int) (d : Int) (hF : FailsAs c ch ch2) (hd : dd.length ≤ 60) (hs : sb.length ≤ 60) (hfs : fs.length ≤ 1000) (r : Bool) (hr : r = true ↔ SureP c fs ro ch2 sb dd hl d) : PC Try.prog 10 [cfT c, wldT v fs ro ch sb dd hl, intT d] [] (boolT r) := by
  have bad : ¬ SureP c fs ro ch2 sb dd hl d → r = false := fun q => by
    rcases r with _ | _
    · rfl
    · exact absurd (hr.1 rfl) q
  have FD := hF v fs ro sb dd hl hd hs
  by_cases h1 : longP c d
  rotate_left 1
  have LG := long_pc c d
  rw [show decide (longP c d) = false from decide_eq_false h1] at LG
  obtain rfl : r = false := bad (fun q => h1 q.1)
  have FN : True := trivial
  have g4 : True := trivial
  have g5 : True := trivial
  have g6 : True := trivial
  have g7 : True := trivial
  rotate_right 1
  have LG := long_pc c d
  rw [show decide (longP c d) = true from decide_eq_true h1] at LG
  by_cases h2 : fineV fs d = true
  rotate_left 1
  have FN := fine_pc fs d (by omega)
  rw [show fineV fs d = false by simpa using h2] at FN
  obtain rfl : r = false := bad (fun q => h2 q.2.1)
  have g4 : True := trivial
  have g5 : True := trivial
  have g6 : True := trivial
  have g7 : True := trivial
  rotate_right 1
  have FN := fine_pc fs d (by omega)
  rw [h2] at FN
  by_cases h3 : hl = true
  obtain rfl : r = false := bad (fun q => by rw [q.2.2.1] at h3; cases h3)
  subst h3
  have g4 : True := trivial
  have g5 : True := trivial
  have g6 : True := trivial
  have g7 : True := trivial
  rotate_left 1
  obtain rfl : hl = false := by simpa using h3
  by_cases h4 : ro ≤ 18446744073709550615
  rotate_left 1
  have g4 : decide (18446744073709550615 < (ro : Int)) = true := decide_eq_true (by omega)
  obtain rfl : r = false := bad (fun q => h4 q.2.2.2.1)
  have g5 : True := trivial
  have g6 : True := trivial
  have g7 : True := trivial
  rotate_right 1
  have g4 : decide (18446744073709550615 < (ro : Int)) = false := decide_eq_false (by omega)
  by_cases h5 : deadN dd ch2 < liveN dd sb
  have g5 : decide ((deadN dd ch2 : Int) < (liveN dd sb : Int)) = true := decide_eq_true (by omega)
  obtain rfl : r = true := hr.2 ⟨h1, h2, rfl, h4, .inl h5⟩
  have g6 : True := trivial
  have g7 : True := trivial
  rotate_left 1
  have g5 : decide ((deadN dd ch2 : Int) < (liveN dd sb : Int)) = false := decide_eq_false (by omega)
  by_cases h6 : deadN dd ch2 = 0
  rotate_left 1
  have g6 : ((deadN dd ch2 : Int) == 0) = false := by rw [beq_eq_false_iff_ne]; omega
  obtain rfl : r = false := bad (fun q => by rcases q.2.2.2.2 with z | z <;> omega)
  have g7 : True := trivial
  rotate_right 1
  have g6 : ((deadN dd ch2 : Int) == 0) = true := by rw [beq_iff_eq]; omega
  by_cases h7 : sb.length = 0
  rotate_left 1
  have g7 : ((sb.length : Int) == 0) = false := by rw [beq_eq_false_iff_ne]; omega
  obtain rfl : r = false := bad (fun q => by rcases q.2.2.2.2 with z | z <;> omega)
  rotate_right 1
  have g7 : ((sb.length : Int) == 0) = true := by rw [beq_iff_eq]; omega
  obtain rfl : r = true := hr.2 ⟨h1, h2, rfl, h4, .inr ⟨h6, h7⟩⟩
  all_goals (
    clear hr bad
    generalize deadN dd ch2 = yd at *
    generalize liveN dd sb = yl at *
    simp only [cfT, cfC, wldT, wldC] at *
    refine PC.of_body Try.func10 rfl ?_
    intro Γ _ _
    simp only [Try.ntmps10, List.length_cons, List.length_nil, Nat.reduceAdd, Nat.reduceSub, List.replicate_succ, List.replicate_zero, List.cons_append, List.nil_append]
    repeat' (first
    | (with_reducible first | refine AW.seq ?_ | refine AW.block ?_ | refine AW.ret ?_ | refine AW.skip ?_ | refine AW.exit ?_)
    | ((refine AW.cond (by rfl) (fun hc => ?_) (fun hc => ?_)) <;> (try simp only [hcS] at hc) <;> (try first | contradiction | (exfalso; omega)))
    | ((refine AW.condB (by rfl) (fun hc => ?_) (fun hc => ?_)))
    | ((first | (refine aCall.pers (LG) fnOk8 ?_ ?_ ?_ ?_; (focus rfl); (focus rfl); (focus (simp [persT, persL, g4, g5, g6, g7]; done))) | (refine aCall.pers (FN) fnOk9 ?_ ?_ ?_ ?_; (focus rfl); (focus rfl); (focus (simp [persT, persL, g4, g5, g6, g7]; done))) | (refine aCall.pers (FD) fnOk11 ?_ ?_ ?_ ?_; (focus rfl); (focus rfl); (focus (simp [persT, persL, g4, g5, g6, g7]; done))) | (with_reducible refine AW.regionK mo (by kernel_rfl) ?_; intro K hK) | (with_reducible refine aSliceO.l ?_) | (with_reducible refine aBuildO.l ?_) | (with_reducible refine aStoreO.l ?_)); simp (maxSteps := 2000000) only [↓askG_tt, ↓askG_ff, ↓askG_tf, ↓askG_ft, ↓AOp, ↓aBin, ↓aUn, ↓aConv, ↓aAlloc, ↓aBox, ↓aBuild, ↓aLoad, ↓aStore, ↓aNil, ↓aFieldAddr, ↓aField, ↓aExtract, ↓aIndexAddr, ↓aIndex, ↓aSlice, ↓aMake, ↓aBuildSlice, ↓aFrz, ↓aLen, ↓aAppend, ↓aCopy, Nat.reduceAdd, Nat.reduceSub, Nat.reduceMul, Nat.reduceLT, Nat.reduceLeDiff, Nat.reduceEqDiff, Int.reduceToNat, Int.reduceBEq, Int.reduceBNe, Int.reduceEq, Int.reduceNe, Int.reduceNeg, Int.reduceLE, Int.reduceLT, reduceIte, reduceCtorEq, go_sem, Nat.add_sub_cancel, Nat.add_one_sub_one, Nat.sub_zero, Nat.mul_one, shiftP, shiftT, shiftC, shiftL, shiftB, newIds, idsOfT, List.zipIdx_cons, List.zipIdx_nil, g4, g5, g6, g7])
    | (with_reducible refine hK _ ?_; clear hK K)
    | (with_reducible refine askG.mk (fun hg => ?_) (fun hg => ?_) <;> (try simp only [hcS] at hg) <;> (try first | contradiction | (exfalso; omega)))
    | ((with_reducible refine And.intro ?_ ?_); focus (first | (with_reducible show pairsOk _ _ = true; kernel_rfl) | omega | (with_reducible assumption) | kernel_rfl | (exact rowsE_len _) | (exact rowsE_allP _) | ((simp [allP_nil, allP_cons, persL]; done)) | (simp; done) | (simp; omega)))
    | ((with_reducible first | show inBlockS _ _ _ _ | show thenS _ _ _ _); simp only [inBlockS, thenS, reduceIte, Nat.reduceEqDiff]))
    all_goals (refine ⟨_, [], rfl, ⟨rfl, ?_, ?_, ?_⟩⟩ <;> simp [go_sem, Nat.add_sub_cancel, Nat.add_one_sub_one, Nat.sub_zero, Nat.mul_one, finP, finPs, viewP, viewPs, finT, finC, finCs, finL, finLs, finBs, viewOk, viewsOk, persL, inT, inC, inCs, inL, inLs, ndB, allP_nil, allP_cons, allP_append]))
end Go.Proofs.Ythnkfhgiiimjfaa
