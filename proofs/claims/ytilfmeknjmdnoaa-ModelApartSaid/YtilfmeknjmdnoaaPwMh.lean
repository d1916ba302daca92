/- Models as plain values: the same; what one client's step leaves. -/
import Derived.Test.YtilfmeknjmdnoaaPwMg
namespace Go.Proofs.Ytilfmeknjmdnoaa
set_option linter.unusedSimpArgs false
set_option linter.unusedVariables false
open Go Go.RowKit
attribute [local congr] AW_congr AOs_congr aCall_congr aCall1_congr aSem_congr aSliceO_congr aBuildO_congr aStoreO_congr
attribute [local go_sem] letsE_length letsE_get rowsE_length rowsE_get Option.map_map bytesE_length bytesE_get shiftE_bytes shiftE_lets shiftE_rows exBytesE str_beq bytesE_take_self letsE_take_self
set_option maxRecDepth 100000

theorem sameI_pc (xs : List Int) (h : xs.length ≤ 9223372036854775806) : PC Try.prog 38 [rowsT intC xs, rowsT intC xs] [] (boolT true) := by
  refine PC.of_body Try.func38 rfl ?_
  intro Γ _ _
  simp only [Try.ntmps38, List.length_cons, List.length_nil, Nat.reduceAdd, Nat.reduceSub, List.replicate_succ, List.replicate_zero, List.cons_append, List.nil_append]
  repeat' (first
    | (with_reducible first | refine AW.seq ?_ | refine AW.block ?_ | refine AW.ret ?_ | refine AW.skip ?_ | refine AW.exit ?_)
    | ((refine AW.cond (by rfl) (fun hc => ?_) (fun hc => ?_)) <;> (try simp only [hcS] at hc) <;> (try first | contradiction | (exfalso; omega)))
    | ((refine AW.condB (by rfl) (fun hc => ?_) (fun hc => ?_)))
    | ((first | (with_reducible refine AW.regionK mo (by kernel_rfl) ?_; intro K hK) | (with_reducible refine aSliceO.l ?_) | (with_reducible refine aBuildO.l ?_) | (with_reducible refine aStoreO.l ?_)); simp (maxSteps := 2000000) only [↓askG_tt, ↓askG_ff, ↓askG_tf, ↓askG_ft, ↓AOp, ↓aBin, ↓aUn, ↓aConv, ↓aAlloc, ↓aBox, ↓aBuild, ↓aLoad, ↓aStore, ↓aNil, ↓aFieldAddr, ↓aField, ↓aExtract, ↓aIndexAddr, ↓aIndex, ↓aSlice, ↓aMake, ↓aBuildSlice, ↓aFrz, ↓aLen, ↓aAppend, ↓aCopy, Nat.reduceAdd, Nat.reduceSub, Nat.reduceMul, Nat.reduceLT, Nat.reduceLeDiff, Nat.reduceEqDiff, Int.reduceToNat, Int.reduceBEq, Int.reduceBNe, Int.reduceEq, Int.reduceNe, Int.reduceNeg, Int.reduceLE, Int.reduceLT, reduceIte, reduceCtorEq, go_sem, Nat.add_sub_cancel, Nat.add_one_sub_one, Nat.sub_zero, shiftP, shiftT, shiftC, shiftL, shiftB, newIds, idsOfT, List.zipIdx_cons, List.zipIdx_nil, bne_self_eq_false])
    | (with_reducible refine hK _ ?_; clear hK K)
    | (with_reducible refine askG.mk (fun hg => ?_) (fun hg => ?_) <;> (try simp only [hcS] at hg) <;> (try first | contradiction | (exfalso; omega)))
    | ((with_reducible refine And.intro ?_ ?_); focus (first | (with_reducible show pairsOk _ _ = true; kernel_rfl) | omega | (with_reducible assumption) | kernel_rfl | (exact bytesE_len _) | (exact letsE_len _) | (exact letsE_allP _) | (exact bytesE_allP _) | (exact rowsE_len _) | (exact rowsE_allP _) | (intro r hr; simp only [List.mem_cons] at hr; rcases hr with rfl | hr <;> first | rfl | exact letsE_len _ _ hr) | ((simp [allP_nil, allP_cons, persL]; done)) | (simp; done) | (simp; omega)))
    | ((with_reducible first | show inBlockS _ _ _ _ | show thenS _ _ _ _); simp only [inBlockS, thenS, reduceIte, Nat.reduceEqDiff]))
  refine AW.loopG (fun i : Nat => (13, intT i) :: (anys 5 1 (anys 14 12 []))) (fun _ => []) (fun i => xs.length - i) (fun i => i ≤ xs.length) 0 [] (by omega) ⟨by simp, by simp [leEs_one, leP, lePs, inP, inPs, inEs, leTs, leT, leC, leCs, leL, leLs, leBs, overT, anys, inTs, inT, inCs, inC, inLs, inL, inBs, hOf, undefT], by simp [leEs_one, leP, lePs, inP, inPs, inEs, leTs, leT, leC, leCs, leL, leLs, leBs, overT, anys, inTs, inT, inCs, inC, inLs, inL, inBs, hOf, undefT]⟩ (fun i _ => ⟨by simp [leEs_one, leP, lePs, inP, inPs, inEs, leTs, leT, leC, leCs, leL, leLs, leBs, overT, anys, inTs, inT, inCs, inC, inLs, inL, inBs, hOf, undefT], by simp [leEs_one, leP, lePs, inP, inPs, inEs, leTs, leT, leC, leCs, leL, leLs, leBs, overT, anys, inTs, inT, inCs, inC, inLs, inL, inBs, hOf, undefT]⟩) ?_
  intro i hi
  simp only [overT, anys, ↓askG_tt, ↓askG_ff, ↓askG_tf, ↓askG_ft, ↓AOp, ↓aBin, ↓aUn, ↓aConv, ↓aAlloc, ↓aBox, ↓aBuild, ↓aLoad, ↓aStore, ↓aNil, ↓aFieldAddr, ↓aField, ↓aExtract, ↓aIndexAddr, ↓aIndex, ↓aSlice, ↓aMake, ↓aBuildSlice, ↓aFrz, ↓aLen, ↓aAppend, ↓aCopy, Nat.reduceAdd, Nat.reduceSub, Nat.reduceMul, Nat.reduceLT, Nat.reduceLeDiff, Nat.reduceEqDiff, Int.reduceToNat, Int.reduceBEq, Int.reduceBNe, Int.reduceEq, Int.reduceNe, Int.reduceNeg, Int.reduceLE, Int.reduceLT, reduceIte, reduceCtorEq, go_sem, Nat.add_sub_cancel, Nat.add_one_sub_one, Nat.sub_zero]
  by_cases hlt : i < xs.length
  · obtain ⟨x, hx⟩ : ∃ x, xs[i]? = some x := ⟨_, List.getElem?_eq_getElem hlt⟩
    have g0 : decide ((i : Int) < (xs.length : Int)) = true := decide_eq_true (by omega)
    repeat' (first
    | (with_reducible first | refine AW.seq ?_ | refine AW.block ?_ | refine AW.ret ?_ | refine AW.skip ?_ | refine AW.exit ?_)
    | ((refine AW.cond (by rfl) (fun hc => ?_) (fun hc => ?_)) <;> (try simp only [hcS] at hc) <;> (try first | contradiction | (exfalso; omega)))
    | ((refine AW.condB (by rfl) (fun hc => ?_) (fun hc => ?_)))
    | ((first | (with_reducible refine AW.regionK mo (by kernel_rfl) ?_; intro K hK) | (with_reducible refine aSliceO.l ?_) | (with_reducible refine aBuildO.l ?_) | (with_reducible refine aStoreO.l ?_)); simp (maxSteps := 2000000) only [↓askG_tt, ↓askG_ff, ↓askG_tf, ↓askG_ft, ↓AOp, ↓aBin, ↓aUn, ↓aConv, ↓aAlloc, ↓aBox, ↓aBuild, ↓aLoad, ↓aStore, ↓aNil, ↓aFieldAddr, ↓aField, ↓aExtract, ↓aIndexAddr, ↓aIndex, ↓aSlice, ↓aMake, ↓aBuildSlice, ↓aFrz, ↓aLen, ↓aAppend, ↓aCopy, Nat.reduceAdd, Nat.reduceSub, Nat.reduceMul, Nat.reduceLT, Nat.reduceLeDiff, Nat.reduceEqDiff, Int.reduceToNat, Int.reduceBEq, Int.reduceBNe, Int.reduceEq, Int.reduceNe, Int.reduceNeg, Int.reduceLE, Int.reduceLT, reduceIte, reduceCtorEq, go_sem, Nat.add_sub_cancel, Nat.add_one_sub_one, Nat.sub_zero, shiftP, shiftT, shiftC, shiftL, shiftB, newIds, idsOfT, List.zipIdx_cons, List.zipIdx_nil, g0, hx, intC, bne_self_eq_false])
    | (with_reducible refine hK _ ?_; clear hK K)
    | (with_reducible refine askG.mk (fun hg => ?_) (fun hg => ?_) <;> (try simp only [hcS] at hg) <;> (try first | contradiction | (exfalso; omega)))
    | ((with_reducible refine And.intro ?_ ?_); focus (first | (with_reducible show pairsOk _ _ = true; kernel_rfl) | omega | (with_reducible assumption) | kernel_rfl | (exact bytesE_len _) | (exact letsE_len _) | (exact letsE_allP _) | (exact bytesE_allP _) | (exact rowsE_len _) | (exact rowsE_allP _) | (intro r hr; simp only [List.mem_cons] at hr; rcases hr with rfl | hr <;> first | rfl | exact letsE_len _ _ hr) | ((simp [allP_nil, allP_cons, persL]; done)) | (simp; done) | (simp; omega)))
    | ((with_reducible first | show inBlockS _ _ _ _ | show thenS _ _ _ _); simp only [inBlockS, thenS, reduceIte, Nat.reduceEqDiff]))
    rw [wrap_i64 _ (by omega)]
    exact ⟨[], i + 1, by omega, by omega, ⟨by simp, by simp [leEs_one, leP, lePs, inP, inPs, inEs, leTs, leT, leC, leCs, leL, leLs, leBs, overT, anys, inTs, inT, inCs, inC, inLs, inL, inBs, hOf, undefT], by simp [leEs_one, leP, lePs, inP, inPs, inEs, leTs, leT, leC, leCs, leL, leLs, leBs, overT, anys, inTs, inT, inCs, inC, inLs, inL, inBs, hOf, undefT]⟩⟩
  · obtain rfl : i = xs.length := by omega
    have g0 : decide ((xs.length : Int) < (xs.length : Int)) = false := by simp
    repeat' (first
    | (with_reducible first | refine AW.seq ?_ | refine AW.block ?_ | refine AW.ret ?_ | refine AW.skip ?_ | refine AW.exit ?_)
    | ((refine AW.cond (by rfl) (fun hc => ?_) (fun hc => ?_)) <;> (try simp only [hcS] at hc) <;> (try first | contradiction | (exfalso; omega)))
    | ((refine AW.condB (by rfl) (fun hc => ?_) (fun hc => ?_)))
    | ((first | (with_reducible refine AW.regionK mo (by kernel_rfl) ?_; intro K hK) | (with_reducible refine aSliceO.l ?_) | (with_reducible refine aBuildO.l ?_) | (with_reducible refine aStoreO.l ?_)); simp (maxSteps := 2000000) only [↓askG_tt, ↓askG_ff, ↓askG_tf, ↓askG_ft, ↓AOp, ↓aBin, ↓aUn, ↓aConv, ↓aAlloc, ↓aBox, ↓aBuild, ↓aLoad, ↓aStore, ↓aNil, ↓aFieldAddr, ↓aField, ↓aExtract, ↓aIndexAddr, ↓aIndex, ↓aSlice, ↓aMake, ↓aBuildSlice, ↓aFrz, ↓aLen, ↓aAppend, ↓aCopy, Nat.reduceAdd, Nat.reduceSub, Nat.reduceMul, Nat.reduceLT, Nat.reduceLeDiff, Nat.reduceEqDiff, Int.reduceToNat, Int.reduceBEq, Int.reduceBNe, Int.reduceEq, Int.reduceNe, Int.reduceNeg, Int.reduceLE, Int.reduceLT, reduceIte, reduceCtorEq, go_sem, Nat.add_sub_cancel, Nat.add_one_sub_one, Nat.sub_zero, shiftP, shiftT, shiftC, shiftL, shiftB, newIds, idsOfT, List.zipIdx_cons, List.zipIdx_nil, g0])
    | (with_reducible refine hK _ ?_; clear hK K)
    | (with_reducible refine askG.mk (fun hg => ?_) (fun hg => ?_) <;> (try simp only [hcS] at hg) <;> (try first | contradiction | (exfalso; omega)))
    | ((with_reducible refine And.intro ?_ ?_); focus (first | (with_reducible show pairsOk _ _ = true; kernel_rfl) | omega | (with_reducible assumption) | kernel_rfl | (exact bytesE_len _) | (exact letsE_len _) | (exact letsE_allP _) | (exact bytesE_allP _) | (exact rowsE_len _) | (exact rowsE_allP _) | (intro r hr; simp only [List.mem_cons] at hr; rcases hr with rfl | hr <;> first | rfl | exact letsE_len _ _ hr) | ((simp [allP_nil, allP_cons, persL]; done)) | (simp; done) | (simp; omega)))
    | ((with_reducible first | show inBlockS _ _ _ _ | show thenS _ _ _ _); simp only [inBlockS, thenS, reduceIte, Nat.reduceEqDiff]))
    all_goals (refine ⟨_, [], rfl, ⟨rfl, ?_, ?_, ?_⟩⟩ <;> simp [go_sem, Nat.add_sub_cancel, Nat.add_one_sub_one, Nat.sub_zero, finP, finPs, viewP, viewPs, finT, finC, finCs, finL, finLs, finBs, viewOk, viewsOk, persL, inT, inC, inCs, inL, inLs, ndB, allP_nil, allP_cons, allP_append])
theorem sameM_pc (m : Mdl) (hf : MFit m) : PC Try.prog 13 [mdlT m, mdlT m] [] (boolT true) := by
  have p1 := hf.q1
  have p2 := hf.c1
  have p3 := hf.b1
  have p4 := hf.b2
  have p5 := hf.q2
  have SI := sameI_pc m.co (by omega)
  clear hf
  obtain ⟨qs, co, bx⟩ := m
  simp only at p1 p2 p3 p4 p5 SI
  simp only [mdlT, mdlC]
  refine PC.of_body Try.func13 rfl ?_
  intro Γ _ _
  simp only [Try.ntmps13, List.length_cons, List.length_nil, Nat.reduceAdd, Nat.reduceSub, List.replicate_succ, List.replicate_zero, List.cons_append, List.nil_append]
  repeat' (first
    | (with_reducible first | refine AW.seq ?_ | refine AW.block ?_ | refine AW.ret ?_ | refine AW.skip ?_ | refine AW.exit ?_)
    | ((refine AW.cond (by rfl) (fun hc => ?_) (fun hc => ?_)) <;> (try simp only [hcS] at hc) <;> (try first | contradiction | (exfalso; omega)))
    | ((refine AW.condB (by rfl) (fun hc => ?_) (fun hc => ?_)))
    | ((first | (refine aCall.pers (SI) fnOk38 ?_ ?_ ?_ ?_; (focus rfl); (focus rfl); (focus (simp [persT, persL, bne_self_eq_false]; done))) | (with_reducible refine AW.regionK mo (by kernel_rfl) ?_; intro K hK) | (with_reducible refine aSliceO.l ?_) | (with_reducible refine aBuildO.l ?_) | (with_reducible refine aStoreO.l ?_)); simp (maxSteps := 2000000) only [↓askG_tt, ↓askG_ff, ↓askG_tf, ↓askG_ft, ↓AOp, ↓aBin, ↓aUn, ↓aConv, ↓aAlloc, ↓aBox, ↓aBuild, ↓aLoad, ↓aStore, ↓aNil, ↓aFieldAddr, ↓aField, ↓aExtract, ↓aIndexAddr, ↓aIndex, ↓aSlice, ↓aMake, ↓aBuildSlice, ↓aFrz, ↓aLen, ↓aAppend, ↓aCopy, Nat.reduceAdd, Nat.reduceSub, Nat.reduceMul, Nat.reduceLT, Nat.reduceLeDiff, Nat.reduceEqDiff, Int.reduceToNat, Int.reduceBEq, Int.reduceBNe, Int.reduceEq, Int.reduceNe, Int.reduceNeg, Int.reduceLE, Int.reduceLT, reduceIte, reduceCtorEq, go_sem, Nat.add_sub_cancel, Nat.add_one_sub_one, Nat.sub_zero, shiftP, shiftT, shiftC, shiftL, shiftB, newIds, idsOfT, List.zipIdx_cons, List.zipIdx_nil, bne_self_eq_false])
    | (with_reducible refine hK _ ?_; clear hK K)
    | (with_reducible refine askG.mk (fun hg => ?_) (fun hg => ?_) <;> (try simp only [hcS] at hg) <;> (try first | contradiction | (exfalso; omega)))
    | ((with_reducible refine And.intro ?_ ?_); focus (first | (with_reducible show pairsOk _ _ = true; kernel_rfl) | omega | (with_reducible assumption) | kernel_rfl | (exact bytesE_len _) | (exact letsE_len _) | (exact letsE_allP _) | (exact bytesE_allP _) | (exact rowsE_len _) | (exact rowsE_allP _) | (intro r hr; simp only [List.mem_cons] at hr; rcases hr with rfl | hr <;> first | rfl | exact letsE_len _ _ hr) | ((simp [allP_nil, allP_cons, persL]; done)) | (simp; done) | (simp; omega)))
    | ((with_reducible first | show inBlockS _ _ _ _ | show thenS _ _ _ _); simp only [inBlockS, thenS, reduceIte, Nat.reduceEqDiff]))
  refine AW.loopG (fun i : Nat => (34, intT i) :: (anys 5 1 (anys 35 15 []))) (fun _ => [some ⟨30, 3, [[rowsL queC qs, rowsL intC co, rowsL boxC bx]]⟩, some ⟨30, 3, [[rowsL queC qs, rowsL intC co, rowsL boxC bx]]⟩]) (fun i => qs.length - i) (fun i => i ≤ qs.length) 0 [0, 1] (by omega) ⟨by simp, by simp [leEs_one, leP, lePs, inP, inPs, inEs, leTs, leT, leC, leCs, leL, leLs, leBs, overT, anys, inTs, inT, inCs, inC, inLs, inL, inBs, hOf, undefT], by simp [leEs_one, leP, lePs, inP, inPs, inEs, leTs, leT, leC, leCs, leL, leLs, leBs, overT, anys, inTs, inT, inCs, inC, inLs, inL, inBs, hOf, undefT]⟩ (fun i _ => ⟨by simp [leEs_one, leP, lePs, inP, inPs, inEs, leTs, leT, leC, leCs, leL, leLs, leBs, overT, anys, inTs, inT, inCs, inC, inLs, inL, inBs, hOf, undefT], by simp [leEs_one, leP, lePs, inP, inPs, inEs, leTs, leT, leC, leCs, leL, leLs, leBs, overT, anys, inTs, inT, inCs, inC, inLs, inL, inBs, hOf, undefT]⟩) ?_
  intro i hi
  simp only [overT, anys, ↓askG_tt, ↓askG_ff, ↓askG_tf, ↓askG_ft, ↓AOp, ↓aBin, ↓aUn, ↓aConv, ↓aAlloc, ↓aBox, ↓aBuild, ↓aLoad, ↓aStore, ↓aNil, ↓aFieldAddr, ↓aField, ↓aExtract, ↓aIndexAddr, ↓aIndex, ↓aSlice, ↓aMake, ↓aBuildSlice, ↓aFrz, ↓aLen, ↓aAppend, ↓aCopy, Nat.reduceAdd, Nat.reduceSub, Nat.reduceMul, Nat.reduceLT, Nat.reduceLeDiff, Nat.reduceEqDiff, Int.reduceToNat, Int.reduceBEq, Int.reduceBNe, Int.reduceEq, Int.reduceNe, Int.reduceNeg, Int.reduceLE, Int.reduceLT, reduceIte, reduceCtorEq, go_sem, Nat.add_sub_cancel, Nat.add_one_sub_one, Nat.sub_zero]
  by_cases hlt : i < qs.length
  · obtain ⟨x, hx⟩ : ∃ x, qs[i]? = some x := ⟨_, List.getElem?_eq_getElem hlt⟩
    have g0 : decide ((i : Int) < (qs.length : Int)) = true := decide_eq_true (by omega)
    have f := (p5 x (List.mem_of_getElem? hx)).2.1
    have S := sameQ_pc x x (by omega) (by omega)
    rw [show decide (x = x) = true by simp] at S
    obtain ⟨nx, its⟩ := x
    simp only [queT] at S
    repeat' (first
    | (with_reducible first | refine AW.seq ?_ | refine AW.block ?_ | refine AW.ret ?_ | refine AW.skip ?_ | refine AW.exit ?_)
    | ((refine AW.cond (by rfl) (fun hc => ?_) (fun hc => ?_)) <;> (try simp only [hcS] at hc) <;> (try first | contradiction | (exfalso; omega)))
    | ((refine AW.condB (by rfl) (fun hc => ?_) (fun hc => ?_)))
    | ((first | (refine aCall.pers (S) fnOk39 ?_ ?_ ?_ ?_; (focus rfl); (focus rfl); (focus (simp [persT, persL, g0, hx, queC]; done))) | (with_reducible refine AW.regionK mo (by kernel_rfl) ?_; intro K hK) | (with_reducible refine aSliceO.l ?_) | (with_reducible refine aBuildO.l ?_) | (with_reducible refine aStoreO.l ?_)); simp (maxSteps := 2000000) only [↓askG_tt, ↓askG_ff, ↓askG_tf, ↓askG_ft, ↓AOp, ↓aBin, ↓aUn, ↓aConv, ↓aAlloc, ↓aBox, ↓aBuild, ↓aLoad, ↓aStore, ↓aNil, ↓aFieldAddr, ↓aField, ↓aExtract, ↓aIndexAddr, ↓aIndex, ↓aSlice, ↓aMake, ↓aBuildSlice, ↓aFrz, ↓aLen, ↓aAppend, ↓aCopy, Nat.reduceAdd, Nat.reduceSub, Nat.reduceMul, Nat.reduceLT, Nat.reduceLeDiff, Nat.reduceEqDiff, Int.reduceToNat, Int.reduceBEq, Int.reduceBNe, Int.reduceEq, Int.reduceNe, Int.reduceNeg, Int.reduceLE, Int.reduceLT, reduceIte, reduceCtorEq, go_sem, Nat.add_sub_cancel, Nat.add_one_sub_one, Nat.sub_zero, shiftP, shiftT, shiftC, shiftL, shiftB, newIds, idsOfT, List.zipIdx_cons, List.zipIdx_nil, g0, hx, queC])
    | (with_reducible refine hK _ ?_; clear hK K)
    | (with_reducible refine askG.mk (fun hg => ?_) (fun hg => ?_) <;> (try simp only [hcS] at hg) <;> (try first | contradiction | (exfalso; omega)))
    | ((with_reducible refine And.intro ?_ ?_); focus (first | (with_reducible show pairsOk _ _ = true; kernel_rfl) | omega | (with_reducible assumption) | kernel_rfl | (exact bytesE_len _) | (exact letsE_len _) | (exact letsE_allP _) | (exact bytesE_allP _) | (exact rowsE_len _) | (exact rowsE_allP _) | (intro r hr; simp only [List.mem_cons] at hr; rcases hr with rfl | hr <;> first | rfl | exact letsE_len _ _ hr) | ((simp [allP_nil, allP_cons, persL]; done)) | (simp; done) | (simp; omega)))
    | ((with_reducible first | show inBlockS _ _ _ _ | show thenS _ _ _ _); simp only [inBlockS, thenS, reduceIte, Nat.reduceEqDiff]))
    rw [wrap_i64 _ (by omega)]
    exact ⟨[0, 1], i + 1, by omega, by omega, ⟨by simp, by simp [leEs_one, leP, lePs, inP, inPs, inEs, leTs, leT, leC, leCs, leL, leLs, leBs, overT, anys, inTs, inT, inCs, inC, inLs, inL, inBs, hOf, undefT], by simp [leEs_one, leP, lePs, inP, inPs, inEs, leTs, leT, leC, leCs, leL, leLs, leBs, overT, anys, inTs, inT, inCs, inC, inLs, inL, inBs, hOf, undefT]⟩⟩
  · obtain rfl : i = qs.length := by omega
    have g0 : decide ((qs.length : Int) < (qs.length : Int)) = false := by simp
    repeat' (first
    | (with_reducible first | refine AW.seq ?_ | refine AW.block ?_ | refine AW.ret ?_ | refine AW.skip ?_ | refine AW.exit ?_)
    | ((refine AW.cond (by rfl) (fun hc => ?_) (fun hc => ?_)) <;> (try simp only [hcS] at hc) <;> (try first | contradiction | (exfalso; omega)))
    | ((refine AW.condB (by rfl) (fun hc => ?_) (fun hc => ?_)))
    | ((first | (with_reducible refine AW.regionK mo (by kernel_rfl) ?_; intro K hK) | (with_reducible refine aSliceO.l ?_) | (with_reducible refine aBuildO.l ?_) | (with_reducible refine aStoreO.l ?_)); simp (maxSteps := 2000000) only [↓askG_tt, ↓askG_ff, ↓askG_tf, ↓askG_ft, ↓AOp, ↓aBin, ↓aUn, ↓aConv, ↓aAlloc, ↓aBox, ↓aBuild, ↓aLoad, ↓aStore, ↓aNil, ↓aFieldAddr, ↓aField, ↓aExtract, ↓aIndexAddr, ↓aIndex, ↓aSlice, ↓aMake, ↓aBuildSlice, ↓aFrz, ↓aLen, ↓aAppend, ↓aCopy, Nat.reduceAdd, Nat.reduceSub, Nat.reduceMul, Nat.reduceLT, Nat.reduceLeDiff, Nat.reduceEqDiff, Int.reduceToNat, Int.reduceBEq, Int.reduceBNe, Int.reduceEq, Int.reduceNe, Int.reduceNeg, Int.reduceLE, Int.reduceLT, reduceIte, reduceCtorEq, go_sem, Nat.add_sub_cancel, Nat.add_one_sub_one, Nat.sub_zero, shiftP, shiftT, shiftC, shiftL, shiftB, newIds, idsOfT, List.zipIdx_cons, List.zipIdx_nil, g0])
    | (with_reducible refine hK _ ?_; clear hK K)
    | (with_reducible refine askG.mk (fun hg => ?_) (fun hg => ?_) <;> (try simp only [hcS] at hg) <;> (try first | contradiction | (exfalso; omega)))
    | ((with_reducible refine And.intro ?_ ?_); focus (first | (with_reducible show pairsOk _ _ = true; kernel_rfl) | omega | (with_reducible assumption) | kernel_rfl | (exact bytesE_len _) | (exact letsE_len _) | (exact letsE_allP _) | (exact bytesE_allP _) | (exact rowsE_len _) | (exact rowsE_allP _) | (intro r hr; simp only [List.mem_cons] at hr; rcases hr with rfl | hr <;> first | rfl | exact letsE_len _ _ hr) | ((simp [allP_nil, allP_cons, persL]; done)) | (simp; done) | (simp; omega)))
    | ((with_reducible first | show inBlockS _ _ _ _ | show thenS _ _ _ _); simp only [inBlockS, thenS, reduceIte, Nat.reduceEqDiff]))
    refine AW.loopG (fun j : Nat => (53, intT j) :: (anys 6 1 (anys 54 15 []))) (fun _ => [some ⟨30, 3, [[rowsL queC qs, rowsL intC co, rowsL boxC bx]]⟩, some ⟨30, 3, [[rowsL queC qs, rowsL intC co, rowsL boxC bx]]⟩]) (fun j => bx.length - j) (fun j => j ≤ bx.length) 0 [0, 1] (by omega) ⟨by simp, by simp [leEs_one, leP, lePs, inP, inPs, inEs, leTs, leT, leC, leCs, leL, leLs, leBs, overT, anys, inTs, inT, inCs, inC, inLs, inL, inBs, hOf, undefT], by simp [leEs_one, leP, lePs, inP, inPs, inEs, leTs, leT, leC, leCs, leL, leLs, leBs, overT, anys, inTs, inT, inCs, inC, inLs, inL, inBs, hOf, undefT]⟩ (fun i _ => ⟨by simp [leEs_one, leP, lePs, inP, inPs, inEs, leTs, leT, leC, leCs, leL, leLs, leBs, overT, anys, inTs, inT, inCs, inC, inLs, inL, inBs, hOf, undefT], by simp [leEs_one, leP, lePs, inP, inPs, inEs, leTs, leT, leC, leCs, leL, leLs, leBs, overT, anys, inTs, inT, inCs, inC, inLs, inL, inBs, hOf, undefT]⟩) ?_
    intro j hj
    simp only [overT, anys, ↓askG_tt, ↓askG_ff, ↓askG_tf, ↓askG_ft, ↓AOp, ↓aBin, ↓aUn, ↓aConv, ↓aAlloc, ↓aBox, ↓aBuild, ↓aLoad, ↓aStore, ↓aNil, ↓aFieldAddr, ↓aField, ↓aExtract, ↓aIndexAddr, ↓aIndex, ↓aSlice, ↓aMake, ↓aBuildSlice, ↓aFrz, ↓aLen, ↓aAppend, ↓aCopy, Nat.reduceAdd, Nat.reduceSub, Nat.reduceMul, Nat.reduceLT, Nat.reduceLeDiff, Nat.reduceEqDiff, Int.reduceToNat, Int.reduceBEq, Int.reduceBNe, Int.reduceEq, Int.reduceNe, Int.reduceNeg, Int.reduceLE, Int.reduceLT, reduceIte, reduceCtorEq, go_sem, Nat.add_sub_cancel, Nat.add_one_sub_one, Nat.sub_zero]
    by_cases hlt2 : j < bx.length
    · obtain ⟨x, hx⟩ : ∃ x, bx[j]? = some x := ⟨_, List.getElem?_eq_getElem hlt2⟩
      have g1 : decide ((j : Int) < (bx.length : Int)) = true := decide_eq_true (by omega)
      have f := (p4 x (List.mem_of_getElem? hx)).1
      have S := sameAll_pc x x (by omega) (by omega)
      rw [show decide (x = x) = true by simp] at S
      repeat' (first
    | (with_reducible first | refine AW.seq ?_ | refine AW.block ?_ | refine AW.ret ?_ | refine AW.skip ?_ | refine AW.exit ?_)
    | ((refine AW.cond (by rfl) (fun hc => ?_) (fun hc => ?_)) <;> (try simp only [hcS] at hc) <;> (try first | contradiction | (exfalso; omega)))
    | ((refine AW.condB (by rfl) (fun hc => ?_) (fun hc => ?_)))
    | ((first | (refine aCall.pers (S) fnOk26 ?_ ?_ ?_ ?_; (focus rfl); (focus rfl); (focus (simp [persT, persL, g1, hx, boxC]; done))) | (with_reducible refine AW.regionK mo (by kernel_rfl) ?_; intro K hK) | (with_reducible refine aSliceO.l ?_) | (with_reducible refine aBuildO.l ?_) | (with_reducible refine aStoreO.l ?_)); simp (maxSteps := 2000000) only [↓askG_tt, ↓askG_ff, ↓askG_tf, ↓askG_ft, ↓AOp, ↓aBin, ↓aUn, ↓aConv, ↓aAlloc, ↓aBox, ↓aBuild, ↓aLoad, ↓aStore, ↓aNil, ↓aFieldAddr, ↓aField, ↓aExtract, ↓aIndexAddr, ↓aIndex, ↓aSlice, ↓aMake, ↓aBuildSlice, ↓aFrz, ↓aLen, ↓aAppend, ↓aCopy, Nat.reduceAdd, Nat.reduceSub, Nat.reduceMul, Nat.reduceLT, Nat.reduceLeDiff, Nat.reduceEqDiff, Int.reduceToNat, Int.reduceBEq, Int.reduceBNe, Int.reduceEq, Int.reduceNe, Int.reduceNeg, Int.reduceLE, Int.reduceLT, reduceIte, reduceCtorEq, go_sem, Nat.add_sub_cancel, Nat.add_one_sub_one, Nat.sub_zero, shiftP, shiftT, shiftC, shiftL, shiftB, newIds, idsOfT, List.zipIdx_cons, List.zipIdx_nil, g1, hx, boxC])
    | (with_reducible refine hK _ ?_; clear hK K)
    | (with_reducible refine askG.mk (fun hg => ?_) (fun hg => ?_) <;> (try simp only [hcS] at hg) <;> (try first | contradiction | (exfalso; omega)))
    | ((with_reducible refine And.intro ?_ ?_); focus (first | (with_reducible show pairsOk _ _ = true; kernel_rfl) | omega | (with_reducible assumption) | kernel_rfl | (exact bytesE_len _) | (exact letsE_len _) | (exact letsE_allP _) | (exact bytesE_allP _) | (exact rowsE_len _) | (exact rowsE_allP _) | (intro r hr; simp only [List.mem_cons] at hr; rcases hr with rfl | hr <;> first | rfl | exact letsE_len _ _ hr) | ((simp [allP_nil, allP_cons, persL]; done)) | (simp; done) | (simp; omega)))
    | ((with_reducible first | show inBlockS _ _ _ _ | show thenS _ _ _ _); simp only [inBlockS, thenS, reduceIte, Nat.reduceEqDiff]))
      rw [wrap_i64 _ (by omega)]
      exact ⟨[0, 1], j + 1, by omega, by omega, ⟨by simp, by simp [leEs_one, leP, lePs, inP, inPs, inEs, leTs, leT, leC, leCs, leL, leLs, leBs, overT, anys, inTs, inT, inCs, inC, inLs, inL, inBs, hOf, undefT], by simp [leEs_one, leP, lePs, inP, inPs, inEs, leTs, leT, leC, leCs, leL, leLs, leBs, overT, anys, inTs, inT, inCs, inC, inLs, inL, inBs, hOf, undefT]⟩⟩
    · obtain rfl : j = bx.length := by omega
      have g1 : decide ((bx.length : Int) < (bx.length : Int)) = false := by simp
      repeat' (first
    | (with_reducible first | refine AW.seq ?_ | refine AW.block ?_ | refine AW.ret ?_ | refine AW.skip ?_ | refine AW.exit ?_)
    | ((refine AW.cond (by rfl) (fun hc => ?_) (fun hc => ?_)) <;> (try simp only [hcS] at hc) <;> (try first | contradiction | (exfalso; omega)))
    | ((refine AW.condB (by rfl) (fun hc => ?_) (fun hc => ?_)))
    | ((first | (with_reducible refine AW.regionK mo (by kernel_rfl) ?_; intro K hK) | (with_reducible refine aSliceO.l ?_) | (with_reducible refine aBuildO.l ?_) | (with_reducible refine aStoreO.l ?_)); simp (maxSteps := 2000000) only [↓askG_tt, ↓askG_ff, ↓askG_tf, ↓askG_ft, ↓AOp, ↓aBin, ↓aUn, ↓aConv, ↓aAlloc, ↓aBox, ↓aBuild, ↓aLoad, ↓aStore, ↓aNil, ↓aFieldAddr, ↓aField, ↓aExtract, ↓aIndexAddr, ↓aIndex, ↓aSlice, ↓aMake, ↓aBuildSlice, ↓aFrz, ↓aLen, ↓aAppend, ↓aCopy, Nat.reduceAdd, Nat.reduceSub, Nat.reduceMul, Nat.reduceLT, Nat.reduceLeDiff, Nat.reduceEqDiff, Int.reduceToNat, Int.reduceBEq, Int.reduceBNe, Int.reduceEq, Int.reduceNe, Int.reduceNeg, Int.reduceLE, Int.reduceLT, reduceIte, reduceCtorEq, go_sem, Nat.add_sub_cancel, Nat.add_one_sub_one, Nat.sub_zero, shiftP, shiftT, shiftC, shiftL, shiftB, newIds, idsOfT, List.zipIdx_cons, List.zipIdx_nil, g1])
    | (with_reducible refine hK _ ?_; clear hK K)
    | (with_reducible refine askG.mk (fun hg => ?_) (fun hg => ?_) <;> (try simp only [hcS] at hg) <;> (try first | contradiction | (exfalso; omega)))
    | ((with_reducible refine And.intro ?_ ?_); focus (first | (with_reducible show pairsOk _ _ = true; kernel_rfl) | omega | (with_reducible assumption) | kernel_rfl | (exact bytesE_len _) | (exact letsE_len _) | (exact letsE_allP _) | (exact bytesE_allP _) | (exact rowsE_len _) | (exact rowsE_allP _) | (intro r hr; simp only [List.mem_cons] at hr; rcases hr with rfl | hr <;> first | rfl | exact letsE_len _ _ hr) | ((simp [allP_nil, allP_cons, persL]; done)) | (simp; done) | (simp; omega)))
    | ((with_reducible first | show inBlockS _ _ _ _ | show thenS _ _ _ _); simp only [inBlockS, thenS, reduceIte, Nat.reduceEqDiff]))
      all_goals (refine ⟨_, [], rfl, ⟨rfl, ?_, ?_, ?_⟩⟩ <;> simp [go_sem, Nat.add_sub_cancel, Nat.add_one_sub_one, Nat.sub_zero, finP, finPs, viewP, viewPs, finT, finC, finCs, finL, finLs, finBs, viewOk, viewsOk, persL, inT, inC, inCs, inL, inLs, ndB, allP_nil, allP_cons, allP_append])
/-- What a step of one client leaves as it was. -/
structure Nr (m X : Mdl) (who : Int) : Prop where
  q : X.qs = m.qs ∨ ∃ (w : Nat) (q' : Que), who = w ∧ X.qs = m.qs.set w q'
  c : X.co = m.co ∨ ∃ (w : Nat) (c' : Int), who = w ∧ X.co = m.co.set w c'
  b : X.bx = m.bx ∨ ∃ (d : Nat) (b' : List Let), X.bx = m.bx.set d b'
  l : ∀ b ∈ X.bx, b.length ≤ 9223372036854775000
theorem MFit.l {m : Mdl} (hf : MFit m) : ∀ b ∈ m.bx, b.length ≤ 9223372036854775000 := fun b hb => by have := (hf.b2 b hb).1; omega
theorem l_set {bx : List (List Let)} (h : ∀ b ∈ bx, b.length ≤ 9223372036854775000) (d : Nat) {b' : List Let} (hb : b'.length ≤ 9223372036854775000) : ∀ b ∈ bx.set d b', b.length ≤ 9223372036854775000 := fun b hm => by
  rcases List.mem_or_eq_of_mem_set hm with q | q
  · exact h b q
  · rw [q]; exact hb
theorem Nr.rfl' (m : Mdl) (who : Int) (hf : MFit m) : Nr m m who := ⟨.inl rfl, .inl rfl, .inl rfl, hf.l⟩
theorem Nr.lq {m X : Mdl} {who : Int} (h : Nr m X who) : X.qs.length = m.qs.length := by
  rcases h.q with e | ⟨w, q', _, e⟩ <;> rw [e]
  rw [List.length_set]
theorem Nr.lc {m X : Mdl} {who : Int} (h : Nr m X who) : X.co.length = m.co.length := by
  rcases h.c with e | ⟨w, q', _, e⟩ <;> rw [e]
  rw [List.length_set]
theorem Nr.lb {m X : Mdl} {who : Int} (h : Nr m X who) : X.bx.length = m.bx.length := by
  rcases h.b with e | ⟨w, q', e⟩ <;> rw [e]
  rw [List.length_set]
theorem set_back {α : Type} {l : List α} {w : Nat} {x y : α} (h : l[w]? = some x) : (l.set w y).set w x = l := by
  rw [List.set_set]
  apply List.ext_getElem?
  intro j
  rw [List.getElem?_set]
  have hw := (List.getElem?_eq_some_iff.1 h).1
  by_cases hj : w = j
  · subst hj; rw [if_pos rfl, if_pos hw, h]
  · rw [if_neg hj]
theorem set_same {α : Type} {l : List α} {w : Nat} {x : α} (h : l[w]? = some x) : l.set w x = l := by
  have := set_back (y := x) h
  rwa [List.set_set] at this
theorem set_out {α : Type} {l : List α} {w : Nat} {y : α} (h : l.length ≤ w) : l.set w y = l := List.set_eq_of_length_le h
theorem Nr.qin {m X : Mdl} {w : Nat} (h : Nr m X w) {q0 : Que} (hq : m.qs[w]? = some q0) : X.qs.set w q0 = m.qs := by
  rcases h.q with e | ⟨w', q', e1, e⟩
  · rw [e, set_same hq]
  · obtain rfl : w = w' := by omega
    rw [e, set_back hq]
theorem Nr.qout {m X : Mdl} {who : Int} (h : Nr m X who) (ho : ¬ (0 ≤ who ∧ who < m.qs.length)) : X.qs = m.qs := by
  rcases h.q with e | ⟨w', q', e1, e⟩
  · exact e
  · rw [e, set_out (by omega)]
theorem Nr.cin {m X : Mdl} {w : Nat} (h : Nr m X w) {c0 : Int} (hq : m.co[w]? = some c0) : X.co.set w c0 = m.co := by
  rcases h.c with e | ⟨w', q', e1, e⟩
  · rw [e, set_same hq]
  · obtain rfl : w = w' := by omega
    rw [e, set_back hq]
theorem Nr.cout {m X : Mdl} {who : Int} (h : Nr m X who) (ho : ¬ (0 ≤ who ∧ who < m.co.length)) : X.co = m.co := by
  rcases h.c with e | ⟨w', q', e1, e⟩
  · exact e
  · rw [e, set_out (by omega)]
def cntD (a b : List (List Let)) (k : Nat) : Nat := (List.range k).countP fun j => decide (a[j]? ≠ b[j]?)
theorem cntD_succ (a b : List (List Let)) (k : Nat) : cntD a b (k + 1) = cntD a b k + if a[k]? = b[k]? then 0 else 1 := by
  unfold cntD
  rw [List.range_succ, List.countP_append]
  by_cases h : a[k]? = b[k]? <;> simp [h]
theorem cntD_le (a b : List (List Let)) (k : Nat) : cntD a b k ≤ k := Nat.le_trans List.countP_le_length (by simp)
theorem cntD_same (b : List (List Let)) : ∀ k, cntD b b k = 0
  | 0 => rfl
  | k + 1 => by rw [cntD_succ, cntD_same b k]; simp
theorem cntD_set (b : List (List Let)) (d : Nat) (x : List Let) : ∀ k, cntD (b.set d x) b k ≤ if d < k then 1 else 0
  | 0 => by simp [cntD]
  | k + 1 => by
    have ih := cntD_set b d x k
    rw [cntD_succ]
    by_cases hk : d = k
    · subst hk
      rw [if_neg (Nat.lt_irrefl d)] at ih
      rw [if_pos (Nat.lt_succ_self d)]
      split <;> omega
    · have e : (b.set d x)[k]? = b[k]? := by rw [List.getElem?_set_ne hk]
      rw [if_pos e]
      by_cases hd : d < k
      · rw [if_pos hd] at ih; rw [if_pos (show d < k + 1 by omega)]; omega
      · rw [if_neg hd] at ih; rw [if_neg (show ¬ d < k + 1 by omega)]; omega
theorem Nr.cnt {m X : Mdl} {who : Int} (h : Nr m X who) (k : Nat) : cntD X.bx m.bx k ≤ 1 := by
  rcases h.b with e | ⟨d, b', e⟩
  · rw [e, cntD_same]; omega
  · rw [e]
    have := cntD_set m.bx d b' k
    split at this <;> omega
theorem say_ex (c : Cf) (m : Mdl) (who tw : Int) (text : List UInt8) (hf : MFit m) (ht : text.length ≤ 9223372036854775807) : ∃ (X : Mdl) (k : Int), Nr m X who ∧ X.bx = m.bx ∧ PC Try.prog 11 [cfT c, mdlT m, intT who, intT tw, bytesT text] [] (.tup [mdlT X, intT k]) := by
  by_cases h : clP m who
  · obtain ⟨w, rfl⟩ : ∃ w : Nat, who = (w : Int) := ⟨who.toNat, by have := h.1; omega⟩
    obtain ⟨q, hq⟩ : ∃ q, m.qs[w]? = some q := ⟨_, List.getElem?_eq_getElem (by have := h.2.1; omega)⟩
    exact ⟨⟨m.qs.set w (putQ c q w tw text), m.co, m.bx⟩, putK c q w tw text, ⟨.inr ⟨w, _, rfl, rfl⟩, .inl rfl, .inl rfl, hf.l⟩, rfl, sayYes_pc c m w tw text q h hq hf ht⟩
  · exact ⟨m, 3, Nr.rfl' m who hf, rfl, sayNo_pc c m who tw text h⟩
theorem come_ex (m : Mdl) (who : Int) (hf : MFit m) : ∃ (X : Mdl) (f : Bool), Nr m X who ∧ (f = false → X = m) ∧ PC Try.prog 16 [mdlT m, intT who] [] (.tup [mdlT X, boolT f]) := by
  by_cases h : clP m who
  · obtain ⟨w, rfl⟩ : ∃ w : Nat, who = (w : Int) := ⟨who.toNat, by have := h.1; omega⟩
    obtain ⟨q, hq⟩ : ∃ q, m.qs[w]? = some q := ⟨_, List.getElem?_eq_getElem (by have := h.2.1; omega)⟩
    obtain ⟨a, ha⟩ : ∃ a, m.co[w]? = some a := ⟨_, List.getElem?_eq_getElem (by have := h.2.2.1; omega)⟩
    by_cases hn : 0 ≤ a ∧ a < q.items.length ∧ ∃ l, q.items[a.toNat]? = some l ∧ clP m l.dst
    · obtain ⟨h0, _, l, hl, hd⟩ := hn
      obtain ⟨k, rfl⟩ : ∃ k : Nat, a = (k : Int) := ⟨a.toNat, by omega⟩
      obtain ⟨d, hde⟩ : ∃ d : Nat, l.dst = (d : Int) := ⟨l.dst.toNat, by have := hd.1; omega⟩
      rw [hde] at hd
      obtain ⟨b, hb⟩ : ∃ b, m.bx[d]? = some b := ⟨_, List.getElem?_eq_getElem (by have := hd.2.2.2; omega)⟩
      exact ⟨⟨m.qs, m.co.set w ((k + 1 : Nat) : Int), m.bx.set d (b ++ [l])⟩, true, ⟨.inl rfl, .inr ⟨w, _, rfl, rfl⟩, .inr ⟨d, _, rfl⟩, l_set hf.l d (by have := (hf.b2 b (List.mem_of_getElem? hb)).1; simp; omega)⟩, (fun z => by cases z), comeYes_pc m w k d q l b h hq ha (by rw [← hl]; simp) hde hd hb hf⟩
    · exact ⟨m, false, Nr.rfl' m w hf, fun _ => rfl, comeNo_pc m w q a h hq ha hn⟩
  · exact ⟨m, false, Nr.rfl' m who hf, fun _ => rfl, comeNo0_pc m who h⟩
theorem gone_ex (m : Mdl) (who : Int) (hf : MFit m) : ∃ (X : Mdl) (f : Bool), Nr m X who ∧ X.bx = m.bx ∧ (f = false → X = m) ∧ PC Try.prog 18 [mdlT m, intT who] [] (.tup [mdlT X, boolT f]) := by
  by_cases h : clP m who ∧ 0 < m.co.getD who.toNat 0 ∧ (m.qs.getD who.toNat ⟨0, []⟩).items ≠ []
  · obtain ⟨h, ha, hi⟩ := h
    obtain ⟨w, rfl⟩ : ∃ w : Nat, who = (w : Int) := ⟨who.toNat, by have := h.1; omega⟩
    obtain ⟨q, hq⟩ : ∃ q, m.qs[w]? = some q := ⟨_, List.getElem?_eq_getElem (by have := h.2.1; omega)⟩
    obtain ⟨a, hae⟩ : ∃ a, m.co[w]? = some a := ⟨_, List.getElem?_eq_getElem (by have := h.2.2.1; omega)⟩
    rw [Int.toNat_natCast, List.getD_eq_getElem?_getD, hae] at ha
    rw [Int.toNat_natCast, List.getD_eq_getElem?_getD, hq] at hi
    simp only [Option.getD_some] at ha hi
    obtain ⟨nx, its⟩ := q
    simp only at hi
    obtain ⟨l, ls, rfl⟩ : ∃ l ls, its = l :: ls := by
      rcases its with _ | ⟨l, ls⟩
      · exact absurd rfl hi
      · exact ⟨l, ls, rfl⟩
    obtain ⟨k, rfl⟩ : ∃ k : Nat, a = ((k + 1 : Nat) : Int) := ⟨(a - 1).toNat, by omega⟩
    have hk := hf.c2 _ (List.mem_of_getElem? hae)
    exact ⟨⟨m.qs.set w ⟨nx, ls⟩, m.co.set w (k : Int), m.bx⟩, true, ⟨.inr ⟨w, _, rfl, rfl⟩, .inr ⟨w, _, rfl, rfl⟩, .inl rfl, hf.l⟩, rfl, (fun z => by cases z), goneYes_pc m w k nx l ls h hq hae hf (by omega)⟩
  · exact ⟨m, false, Nr.rfl' m who hf, rfl, fun _ => rfl, goneNo_pc m who h⟩
theorem take_ex (m : Mdl) (who : Int) (hf : MFit m) : ∃ (X : Mdl) (l : Let) (f : Bool), Nr m X who ∧ (f = false → X = m) ∧ PC Try.prog 20 [mdlT m, intT who] [] (.tup [mdlT X, letT l, boolT f]) := by
  by_cases h : clP m who ∧ m.bx[who.toNat]?.getD [] ≠ []
  · obtain ⟨h, hb⟩ := h
    obtain ⟨w, rfl⟩ : ∃ w : Nat, who = (w : Int) := ⟨who.toNat, by have := h.1; omega⟩
    obtain ⟨b, hbe⟩ : ∃ b, m.bx[w]? = some b := ⟨_, List.getElem?_eq_getElem (by have := h.2.2.2; omega)⟩
    rw [Int.toNat_natCast, hbe] at hb
    simp only [Option.getD_some] at hb
    obtain ⟨l, ls, rfl⟩ : ∃ l ls, b = l :: ls := by
      rcases b with _ | ⟨l, ls⟩
      · exact absurd rfl hb
      · exact ⟨l, ls, rfl⟩
    exact ⟨⟨m.qs, m.co, m.bx.set w ls⟩, l, true, ⟨.inl rfl, .inl rfl, .inr ⟨w, _, rfl⟩, l_set hf.l w (by have := hf.l _ (List.mem_of_getElem? hbe); simp only [List.length_cons] at this; omega)⟩, (fun z => by cases z), takeYes_pc m w l ls h hbe hf⟩
  · exact ⟨m, _, false, Nr.rfl' m who hf, fun _ => rfl, takeNo_pc m who h⟩
end Go.Proofs.Ytilfmeknjmdnoaa
