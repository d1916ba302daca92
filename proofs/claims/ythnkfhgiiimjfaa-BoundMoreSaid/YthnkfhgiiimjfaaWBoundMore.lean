/- The walk of the law BoundMore. -/
import Derived.Test.YthnkfhgiiimjfaaPwBw
namespace Go.Proofs.Ythnkfhgiiimjfaa
set_option linter.unusedSimpArgs false
set_option linter.unusedVariables false
open Go Go.RowKit
attribute [local congr] AW_congr AOs_congr aCall_congr aCall1_congr aSem_congr aSliceO_congr aBuildO_congr aStoreO_congr
attribute [local go_sem] rowsE_length rowsE_get Option.map_map shiftE_rows List.take_length
set_option maxRecDepth 100000


attribute [local simp] leEs_int
theorem bool_ex (p : Prop) : ∃ r : Bool, r = true ↔ p := by
  by_cases q : p
  · exact ⟨true, by simp [q]⟩
  · exact ⟨false, by simp [q]⟩
set_option maxHeartbeats 8000000 in
theorem boundMore_pc (c : Cf) (v : Nat → Value) (fs : List Int) (ro : Nat) (ch sb : List Int) (dd : List Bool) (hl : Bool) (d : Int) (hc : ch.length ≤ 140737488351232) : PC Try.prog 3 [cfT c, wldT v fs ro ch sb dd hl, intT d] [] (boolT true) := by
  have CL := live_pc
  by_cases f1 : fs.length ≤ 500
  rotate_left 1
  have g1 : decide (500 < (fs.length : Int)) = true := decide_eq_true (by omega)
  have g2 : True := trivial
  have g3 : True := trivial
  have g4 : True := trivial
  have g5 : True := trivial
  have L1 : True := trivial
  have L2 : True := trivial
  have N1 : True := trivial
  have N2 : True := trivial
  have S1 : True := trivial
  have S2 : True := trivial
  have S3 : True := trivial
  have w1 : True := trivial
  rotate_right 1
  have g1 : decide (500 < (fs.length : Int)) = false := decide_eq_false (by omega)
  by_cases f2 : dd.length ≤ 60
  rotate_left 1
  have g2 : decide (60 < (dd.length : Int)) = true := decide_eq_true (by omega)
  have g3 : True := trivial
  have g4 : True := trivial
  have g5 : True := trivial
  have L1 : True := trivial
  have L2 : True := trivial
  have N1 : True := trivial
  have N2 : True := trivial
  have S1 : True := trivial
  have S2 : True := trivial
  have S3 : True := trivial
  have w1 : True := trivial
  rotate_right 1
  have g2 : decide (60 < (dd.length : Int)) = false := decide_eq_false (by omega)
  by_cases f3 : sb.length ≤ 60
  rotate_left 1
  have g3 : decide (60 < (sb.length : Int)) = true := decide_eq_true (by omega)
  have g4 : True := trivial
  have g5 : True := trivial
  have L1 : True := trivial
  have L2 : True := trivial
  have N1 : True := trivial
  have N2 : True := trivial
  have S1 : True := trivial
  have S2 : True := trivial
  have S3 : True := trivial
  have w1 : True := trivial
  rotate_right 1
  have g3 : decide (60 < (sb.length : Int)) = false := decide_eq_false (by omega)
  by_cases f4 : 2 ≤ d
  rotate_left 1
  have g4 : decide (d < 2) = true := decide_eq_true (by omega)
  have g5 : True := trivial
  have L1 : True := trivial
  have L2 : True := trivial
  have N1 : True := trivial
  have N2 : True := trivial
  have S1 : True := trivial
  have S2 : True := trivial
  have S3 : True := trivial
  have w1 : True := trivial
  rotate_right 1
  have g4 : decide (d < 2) = false := decide_eq_false (by omega)
  by_cases f5 : d ≤ 100
  rotate_left 1
  have g5 : decide (100 < d) = true := decide_eq_true (by omega)
  have L1 : True := trivial
  have L2 : True := trivial
  have N1 : True := trivial
  have N2 : True := trivial
  have S1 : True := trivial
  have S2 : True := trivial
  have S3 : True := trivial
  have w1 : True := trivial
  rotate_right 1
  have g5 : decide (100 < d) = false := decide_eq_false (by omega)
  have w1 : IntKind.i64.wrap (d - 1) = d - 1 := wrap_i64 _ (by omega)
  obtain ⟨ch2, hF⟩ := fails_ex c ch (by omega)
  obtain ⟨r1, hr1⟩ := bool_ex (SureP c fs ro ch2 sb dd hl d)
  have S1 := sure_pc c v fs ro ch sb dd hl ch2 d hF f2 f3 (by omega) r1 hr1
  have L1 := long_pc c d
  have L2 := long_pc c (d - 1)
  have N1 := fine_pc fs (d - 1) (by omega)
  have N2 := fine_pc fs d (by omega)
  obtain ⟨r2, hr2⟩ := bool_ex (SureP c [] ro ch2 sb dd hl d)
  obtain ⟨r3, hr3⟩ := bool_ex (SureP c [] ro ch2 sb dd hl (d - 1))
  have S2 := sure_pc c v [] ro ch sb dd hl ch2 d hF f2 f3 (by simp) r2 hr2
  have S3 := sure_pc c v [] ro ch sb dd hl ch2 (d - 1) hF f2 f3 (by simp) r3 hr3
  have i1 : longP c d → longP c (d - 1) := fun q => longP_mono q (by omega) (by omega)
  have i2 : fineV fs (d - 1) = true → fineV fs d = true := fun q => fineV_mono (by omega) q
  have i3 : r1 = true → r2 = true := fun q => by obtain ⟨a1, a2, a3, a4, a5⟩ := hr1.1 q; exact hr2.2 ⟨a1, rfl, a3, a4, a5⟩
  have i4 : r1 = true → r3 = true := fun q => by obtain ⟨a1, a2, a3, a4, a5⟩ := hr1.1 q; exact hr3.2 ⟨i1 a1, rfl, a3, a4, a5⟩
  clear hr1 hr2 hr3 hF
  generalize fineV fs (d - 1) = n1 at *
  generalize fineV fs d = n2 at *
  obtain ⟨b1, e1⟩ : ∃ b, decide (longP c d) = b := ⟨_, rfl⟩
  obtain ⟨b2, e2⟩ : ∃ b, decide (longP c (d - 1)) = b := ⟨_, rfl⟩
  have i5 : b1 = true → b2 = true := fun q => by rw [q] at e1; rw [← e2]; exact decide_eq_true (i1 (of_decide_eq_true e1))
  rw [e1] at L1
  rw [e2] at L2
  clear i1 e1 e2
  rcases r1 with _ | _ <;> rcases b1 with _ | _ <;> rcases n1 with _ | _ <;> (try (obtain rfl := i3 rfl; obtain rfl := i4 rfl)) <;> (try (obtain rfl := i5 rfl)) <;> (try (obtain rfl := i2 rfl))
  all_goals (
    simp only [cfT, cfC, wldT, wldC] at *
    refine PC.of_body Try.func3 rfl ?_
    intro Γ _ _
    simp only [Try.ntmps3, List.length_cons, List.length_nil, Nat.reduceAdd, Nat.reduceSub, List.replicate_succ, List.replicate_zero, List.cons_append, List.nil_append]
    repeat' (first
    | (with_reducible first | refine AW.seq ?_ | refine AW.block ?_ | refine AW.ret ?_ | refine AW.skip ?_ | refine AW.exit ?_)
    | ((refine AW.cond (by rfl) (fun hc => ?_) (fun hc => ?_)) <;> (try simp only [hcS] at hc) <;> (try first | contradiction | (exfalso; omega)))
    | ((refine AW.condB (by rfl) (fun hc => ?_) (fun hc => ?_)))
    | ((first | (refine aCall.pers (CL) fnOk7 ?_ ?_ ?_ ?_; (focus rfl); (focus rfl); (focus (simp [persT, persL, g1, g2, g3, g4, g5, w1]; done))) | (refine aCall.pers (L1) fnOk8 ?_ ?_ ?_ ?_; (focus rfl); (focus rfl); (focus (simp [persT, persL, g1, g2, g3, g4, g5, w1]; done))) | (refine aCall.pers (L2) fnOk8 ?_ ?_ ?_ ?_; (focus rfl); (focus rfl); (focus (simp [persT, persL, g1, g2, g3, g4, g5, w1]; done))) | (refine aCall.pers (N1) fnOk9 ?_ ?_ ?_ ?_; (focus rfl); (focus rfl); (focus (simp [persT, persL, g1, g2, g3, g4, g5, w1]; done))) | (refine aCall.pers (N2) fnOk9 ?_ ?_ ?_ ?_; (focus rfl); (focus rfl); (focus (simp [persT, persL, g1, g2, g3, g4, g5, w1]; done))) | (refine aCall.pers (S1) fnOk10 ?_ ?_ ?_ ?_; (focus rfl); (focus rfl); (focus (simp [persT, persL, g1, g2, g3, g4, g5, w1]; done))) | (refine aCall.wk (S2) fnOk10 ?_ ?_ ?_ ?_; (focus rfl); (focus (simp [wkTs, wkT, wkLs, wkL, isNilSl, St.ev, evalT, g1, g2, g3, g4, g5, w1]; done)); (focus (simp [persT, persL, St.ev, evalT, g1, g2, g3, g4, g5, w1]; done))) | (refine aCall.wk (S3) fnOk10 ?_ ?_ ?_ ?_; (focus rfl); (focus (simp [wkTs, wkT, wkLs, wkL, isNilSl, St.ev, evalT, g1, g2, g3, g4, g5, w1]; done)); (focus (simp [persT, persL, St.ev, evalT, g1, g2, g3, g4, g5, w1]; done))) | (with_reducible refine AW.regionK mo (by kernel_rfl) ?_; intro K hK) | (with_reducible refine aSliceO.l ?_) | (with_reducible refine aBuildO.l ?_) | (with_reducible refine aStoreO.l ?_)); simp (maxSteps := 2000000) only [↓askG_tt, ↓askG_ff, ↓askG_tf, ↓askG_ft, ↓AOp, ↓aBin, ↓aUn, ↓aConv, ↓aAlloc, ↓aBox, ↓aBuild, ↓aLoad, ↓aStore, ↓aNil, ↓aFieldAddr, ↓aField, ↓aExtract, ↓aIndexAddr, ↓aIndex, ↓aSlice, ↓aMake, ↓aBuildSlice, ↓aFrz, ↓aLen, ↓aAppend, ↓aCopy, Nat.reduceAdd, Nat.reduceSub, Nat.reduceMul, Nat.reduceLT, Nat.reduceLeDiff, Nat.reduceEqDiff, Int.reduceToNat, Int.reduceBEq, Int.reduceBNe, Int.reduceEq, Int.reduceNe, Int.reduceNeg, Int.reduceLE, Int.reduceLT, reduceIte, reduceCtorEq, go_sem, Nat.add_sub_cancel, Nat.add_one_sub_one, Nat.sub_zero, Nat.mul_one, shiftP, shiftT, shiftC, shiftL, shiftB, newIds, idsOfT, List.zipIdx_cons, List.zipIdx_nil, g1, g2, g3, g4, g5, w1])
    | (with_reducible refine hK _ ?_; clear hK K)
    | (with_reducible refine askG.mk (fun hg => ?_) (fun hg => ?_) <;> (try simp only [hcS] at hg) <;> (try first | contradiction | (exfalso; omega)))
    | ((with_reducible refine And.intro ?_ ?_); focus (first | (with_reducible show pairsOk _ _ = true; kernel_rfl) | omega | (with_reducible assumption) | kernel_rfl | (exact rowsE_len _) | (exact rowsE_allP _) | ((simp [allP_nil, allP_cons, persL]; done)) | (simp; done) | (simp; omega)))
    | ((with_reducible first | show inBlockS _ _ _ _ | show thenS _ _ _ _); simp only [inBlockS, thenS, reduceIte, Nat.reduceEqDiff]))
    all_goals (refine ⟨_, [], rfl, ⟨rfl, ?_, ?_, ?_⟩⟩ <;> simp [go_sem, Nat.add_sub_cancel, Nat.add_one_sub_one, Nat.sub_zero, Nat.mul_one, finP, finPs, viewP, viewPs, finT, finC, finCs, finL, finLs, finBs, viewOk, viewsOk, persL, inT, inC, inCs, inL, inLs, ndB, allP_nil, allP_cons, allP_append])
  )
theorem walk_BoundMore (W : World) (v0 v1 v2 : Value) (o0 : OpnR W 25 v0) (o1 : OpnR W 48 v1) (o2 : OpnR W 3 v2) :
    Calls Try.prog 3 #[v0, v1, v2] W fun e w' => e = .returned (.bool true) ∧ Below W.heap.size W w' := by
  obtain ⟨c, r0⟩ := o0.cf
  obtain ⟨⟨v, fs, ro, ch, sb, dd, hl⟩, h1, r1⟩ := o1.wld
  obtain ⟨d, r2⟩ := o2.i64
  refine law_of (boundMore_pc c v fs ro ch sb dd hl d h1) rfl (fun i t hi => ?_)
  rcases i with _ | _ | _ | i
  · cases hi; exact r0
  · cases hi; exact r1
  · cases hi; exact r2
  · cases hi
end Go.Proofs.Ythnkfhgiiimjfaa
