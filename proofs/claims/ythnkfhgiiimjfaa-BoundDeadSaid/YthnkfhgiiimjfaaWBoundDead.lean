/- The walk of the law BoundDead. -/
import Derived.Test.YthnkfhgiiimjfaaPwBw
namespace Go.Proofs.Ythnkfhgiiimjfaa
set_option linter.unusedSimpArgs false
set_option linter.unusedVariables false
open Go Go.RowKit
attribute [local congr] AW_congr AOs_congr aCall_congr aCall1_congr aSem_congr aSliceO_congr aBuildO_congr aStoreO_congr
attribute [local go_sem] rowsE_length rowsE_get Option.map_map shiftE_rows List.take_length
set_option maxRecDepth 100000


attribute [local simp] leEs_int
theorem bool_ex (p : Prop) : ∃ r : Bool, r = true ↔ p := by
  by_cases q : p
  · exact ⟨true, by simp [q]⟩
  · exact ⟨false, by simp [q]⟩
theorem boolk : ∀ r b n hl x11 x8 x9 x10 : Bool, (r = true ↔ (b = true ∧ n = true ∧ hl = false ∧ x11 = true ∧ (x8 = false ∨ (x9 = false ∧ x10 = false)))) → r = (b && (n && (!hl && (x11 && (!x8 || (!x9 && !x10)))))) := fun r b n hl x11 x8 x9 x10 h => Bool.eq_iff_iff.2 (h.trans (by simp))
theorem boolA : ∀ x8 x9 x10 : Bool, x8 = false ∨ (x8 = true ∧ x9 = true) ∨ (x8 = true ∧ x9 = false ∧ x10 = true) ∨ (x8 = true ∧ x9 = false ∧ x10 = false) := by decide
theorem boolB : ∀ b n hl x11 : Bool, b = false ∨ (b = true ∧ n = false) ∨ (b = true ∧ n = true ∧ hl = true) ∨ (b = true ∧ n = true ∧ hl = false ∧ x11 = false) ∨ (b = true ∧ n = true ∧ hl = false ∧ x11 = true) := by decide
set_option maxHeartbeats 8000000 in
theorem boundDead_pc (c : Cf) (v : Nat → Value) (fs : List Int) (ro : Nat) (ch sb : List Int) (dd : List Bool) (hl : Bool) (d : Int) (hc : ch.length ≤ 140737488351232) : PC Try.prog 4 [cfT c, wldT v fs ro ch sb dd hl, intT d] [] (boolT true) := by
  have CL := live_pc
  by_cases f1 : fs.length ≤ 500
  rotate_left 1
  have g1 : decide (500 < (fs.length : Int)) = true := decide_eq_true (by omega)
  have g2 : True := trivial
  have g3 : True := trivial
  have g4 : True := trivial
  have g5 : True := trivial
  have g6 : True := trivial
  have g7 : True := trivial
  have g8 : True := trivial
  have g9 : True := trivial
  have g10 : True := trivial
  have g11 : True := trivial
  have LG : True := trivial
  have FN : True := trivial
  have SR : True := trivial
  have FD : True := trivial
  have k0 : True := trivial
  rotate_right 1
  have g1 : decide (500 < (fs.length : Int)) = false := decide_eq_false (by omega)
  by_cases f2 : dd.length ≤ 60
  rotate_left 1
  have g2 : decide (60 < (dd.length : Int)) = true := decide_eq_true (by omega)
  have g3 : True := trivial
  have g4 : True := trivial
  have g5 : True := trivial
  have g6 : True := trivial
  have g7 : True := trivial
  have g8 : True := trivial
  have g9 : True := trivial
  have g10 : True := trivial
  have g11 : True := trivial
  have LG : True := trivial
  have FN : True := trivial
  have SR : True := trivial
  have FD : True := trivial
  have k0 : True := trivial
  rotate_right 1
  have g2 : decide (60 < (dd.length : Int)) = false := decide_eq_false (by omega)
  by_cases f3 : sb.length ≤ 60
  rotate_left 1
  have g3 : decide (60 < (sb.length : Int)) = true := decide_eq_true (by omega)
  have g4 : True := trivial
  have g5 : True := trivial
  have g6 : True := trivial
  have g7 : True := trivial
  have g8 : True := trivial
  have g9 : True := trivial
  have g10 : True := trivial
  have g11 : True := trivial
  have LG : True := trivial
  have FN : True := trivial
  have SR : True := trivial
  have FD : True := trivial
  have k0 : True := trivial
  rotate_right 1
  have g3 : decide (60 < (sb.length : Int)) = false := decide_eq_false (by omega)
  by_cases f4 : ch.length ≤ 60
  rotate_left 1
  have g4 : decide (60 < (ch.length : Int)) = true := decide_eq_true (by omega)
  have g5 : True := trivial
  have g6 : True := trivial
  have g7 : True := trivial
  have g8 : True := trivial
  have g9 : True := trivial
  have g10 : True := trivial
  have g11 : True := trivial
  have LG : True := trivial
  have FN : True := trivial
  have SR : True := trivial
  have FD : True := trivial
  have k0 : True := trivial
  rotate_right 1
  have g4 : decide (60 < (ch.length : Int)) = false := decide_eq_false (by omega)
  obtain ⟨ch2, hF⟩ := fails_ex c ch (by omega)
  obtain ⟨r, hr⟩ := bool_ex (SureP c fs ro ch2 sb dd hl d)
  have SR := sure_pc c v fs ro ch sb dd hl ch2 d hF f2 f3 (by omega) r hr
  have FD := hF v fs ro sb dd hl f2 f3
  have LG := long_pc c d
  have FN := fine_pc fs d (by omega)
  have hle : liveN dd sb ≤ sb.length := List.countP_le_length
  unfold SureP at hr
  generalize deadN dd ch2 = yd at *
  generalize liveN dd sb = yl at *
  generalize fineV fs d = n at *
  obtain ⟨b, eb⟩ : ∃ b, decide (longP c d) = b := ⟨_, rfl⟩
  rw [eb] at LG
  have hb : longP c d ↔ b = true := by rw [← eb, decide_eq_true_eq]
  rw [hb] at hr
  clear hb eb hF
  have g5 : decide ((yd : Int) < 0) = false := decide_eq_false (by omega)
  have g6 : decide ((yl : Int) < 0) = false := decide_eq_false (by omega)
  have g7 : decide ((sb.length : Int) < (yl : Int)) = false := decide_eq_false (by omega)
  obtain ⟨x8, g8⟩ : ∃ x, decide ((yl : Int) ≤ (yd : Int)) = x := ⟨_, rfl⟩
  obtain ⟨x9, g9⟩ : ∃ x, decide (0 < (yd : Int)) = x := ⟨_, rfl⟩
  obtain ⟨x10, g10⟩ : ∃ x, decide (0 < (sb.length : Int)) = x := ⟨_, rfl⟩
  obtain ⟨x11, g11⟩ : ∃ x, decide ((ro : Int) ≤ 18446744073709550615) = x := ⟨_, rfl⟩
  have k8 : x8 = true ↔ yl ≤ yd := by rw [← g8, decide_eq_true_eq]; omega
  have k9 : x9 = true ↔ 0 < yd := by rw [← g9, decide_eq_true_eq]; omega
  have k10 : x10 = true ↔ 0 < sb.length := by rw [← g10, decide_eq_true_eq]; omega
  have k11 : x11 = true ↔ ro ≤ 18446744073709550615 := by rw [← g11, decide_eq_true_eq]; omega
  have k0 : (r = true ↔ (b = true ∧ n = true ∧ hl = false ∧ x11 = true ∧ (x8 = false ∨ (x9 = false ∧ x10 = false)))) := by
    rw [hr, k11]
    have z8 : x8 = false ↔ ¬ yl ≤ yd := by rw [← k8]; simp
    have z9 : x9 = false ↔ ¬ 0 < yd := by rw [← k9]; simp
    have z10 : x10 = false ↔ ¬ 0 < sb.length := by rw [← k10]; simp
    rw [z8, z9, z10]
    constructor
    · rintro ⟨a1, a2, a3, a4, a5⟩; exact ⟨a1, a2, a3, a4, by omega⟩
    · rintro ⟨a1, a2, a3, a4, a5⟩; exact ⟨a1, a2, a3, a4, by omega⟩
  clear hr k8 k9 k10 k11
  have hr2 := boolk r b n hl x11 x8 x9 x10 k0
  clear k0
  have k0 : True := trivial
  rcases boolA x8 x9 x10 with rfl | ⟨rfl, rfl⟩ | ⟨rfl, rfl, rfl⟩ | ⟨rfl, rfl, rfl⟩ <;> (try (rcases boolB b n hl x11 with rfl | ⟨rfl, rfl⟩ | ⟨rfl, rfl, rfl⟩ | ⟨rfl, rfl, rfl, rfl⟩ | ⟨rfl, rfl, rfl, rfl⟩)) <;> (simp at hr2; subst hr2)
  have g8 : True := trivial
  have g9 : True := trivial
  have g10 : True := trivial
  have g11 : True := trivial
  all_goals (
    simp only [cfT, cfC, wldT, wldC] at *
    refine PC.of_body Try.func4 rfl ?_
    intro Γ _ _
    simp only [Try.ntmps4, List.length_cons, List.length_nil, Nat.reduceAdd, Nat.reduceSub, List.replicate_succ, List.replicate_zero, List.cons_append, List.nil_append]
    repeat' (first
    | (with_reducible first | refine AW.seq ?_ | refine AW.block ?_ | refine AW.ret ?_ | refine AW.skip ?_ | refine AW.exit ?_)
    | ((refine AW.cond (by rfl) (fun hc => ?_) (fun hc => ?_)) <;> (try simp only [hcS] at hc) <;> (try first | contradiction | (exfalso; omega)))
    | ((refine AW.condB (by rfl) (fun hc => ?_) (fun hc => ?_)))
    | ((first | (refine aCall.pers (CL) fnOk7 ?_ ?_ ?_ ?_; (focus rfl); (focus rfl); (focus (simp [persT, persL, g1, g2, g3, g4, g5, g6, g7, g8, g9, g10, g11]; done))) | (refine aCall.pers (LG) fnOk8 ?_ ?_ ?_ ?_; (focus rfl); (focus rfl); (focus (simp [persT, persL, g1, g2, g3, g4, g5, g6, g7, g8, g9, g10, g11]; done))) | (refine aCall.pers (FN) fnOk9 ?_ ?_ ?_ ?_; (focus rfl); (focus rfl); (focus (simp [persT, persL, g1, g2, g3, g4, g5, g6, g7, g8, g9, g10, g11]; done))) | (refine aCall.pers (SR) fnOk10 ?_ ?_ ?_ ?_; (focus rfl); (focus rfl); (focus (simp [persT, persL, g1, g2, g3, g4, g5, g6, g7, g8, g9, g10, g11]; done))) | (refine aCall.pers (FD) fnOk11 ?_ ?_ ?_ ?_; (focus rfl); (focus rfl); (focus (simp [persT, persL, g1, g2, g3, g4, g5, g6, g7, g8, g9, g10, g11]; done))) | (with_reducible refine AW.regionK mo (by kernel_rfl) ?_; intro K hK) | (with_reducible refine aSliceO.l ?_) | (with_reducible refine aBuildO.l ?_) | (with_reducible refine aStoreO.l ?_)); simp (maxSteps := 2000000) only [↓askG_tt, ↓askG_ff, ↓askG_tf, ↓askG_ft, ↓AOp, ↓aBin, ↓aUn, ↓aConv, ↓aAlloc, ↓aBox, ↓aBuild, ↓aLoad, ↓aStore, ↓aNil, ↓aFieldAddr, ↓aField, ↓aExtract, ↓aIndexAddr, ↓aIndex, ↓aSlice, ↓aMake, ↓aBuildSlice, ↓aFrz, ↓aLen, ↓aAppend, ↓aCopy, Nat.reduceAdd, Nat.reduceSub, Nat.reduceMul, Nat.reduceLT, Nat.reduceLeDiff, Nat.reduceEqDiff, Int.reduceToNat, Int.reduceBEq, Int.reduceBNe, Int.reduceEq, Int.reduceNe, Int.reduceNeg, Int.reduceLE, Int.reduceLT, reduceIte, reduceCtorEq, go_sem, Nat.add_sub_cancel, Nat.add_one_sub_one, Nat.sub_zero, Nat.mul_one, shiftP, shiftT, shiftC, shiftL, shiftB, newIds, idsOfT, List.zipIdx_cons, List.zipIdx_nil, g1, g2, g3, g4, g5, g6, g7, g8, g9, g10, g11])
    | (with_reducible refine hK _ ?_; clear hK K)
    | (with_reducible refine askG.mk (fun hg => ?_) (fun hg => ?_) <;> (try simp only [hcS] at hg) <;> (try first | contradiction | (exfalso; omega)))
    | ((with_reducible refine And.intro ?_ ?_); focus (first | (with_reducible show pairsOk _ _ = true; kernel_rfl) | omega | (with_reducible assumption) | kernel_rfl | (exact rowsE_len _) | (exact rowsE_allP _) | ((simp [allP_nil, allP_cons, persL]; done)) | (simp; done) | (simp; omega)))
    | ((with_reducible first | show inBlockS _ _ _ _ | show thenS _ _ _ _); simp only [inBlockS, thenS, reduceIte, Nat.reduceEqDiff]))
    all_goals (refine ⟨_, [], rfl, ⟨rfl, ?_, ?_, ?_⟩⟩ <;> simp [go_sem, Nat.add_sub_cancel, Nat.add_one_sub_one, Nat.sub_zero, Nat.mul_one, finP, finPs, viewP, viewPs, finT, finC, finCs, finL, finLs, finBs, viewOk, viewsOk, persL, inT, inC, inCs, inL, inLs, ndB, allP_nil, allP_cons, allP_append])
  )
theorem walk_BoundDead (W : World) (v0 v1 v2 : Value) (o0 : OpnR W 25 v0) (o1 : OpnR W 48 v1) (o2 : OpnR W 3 v2) :
    Calls Try.prog 4 #[v0, v1, v2] W fun e w' => e = .returned (.bool true) ∧ Below W.heap.size W w' := by
  obtain ⟨c, r0⟩ := o0.cf
  obtain ⟨⟨v, fs, ro, ch, sb, dd, hl⟩, h1, r1⟩ := o1.wld
  obtain ⟨d, r2⟩ := o2.i64
  refine law_of (boundDead_pc c v fs ro ch sb dd hl d h1) rfl (fun i t hi => ?_)
  rcases i with _ | _ | _ | i
  · cases hi; exact r0
  · cases hi; exact r1
  · cases hi; exact r2
  · cases hi
end Go.Proofs.Ythnkfhgiiimjfaa
