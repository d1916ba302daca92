/- Models as plain values: the chapter's example. -/
import Derived.Test.YtilfmeknjmdnoaaPwMf
namespace Go.Proofs.Ytilfmeknjmdnoaa
set_option linter.unusedSimpArgs false
set_option linter.unusedVariables false
open Go Go.RowKit
attribute [local congr] AW_congr AOs_congr aCall_congr aCall1_congr aSem_congr aSliceO_congr aBuildO_congr aStoreO_congr
attribute [local go_sem] letsE_length letsE_get rowsE_length rowsE_get Option.map_map bytesE_length bytesE_get shiftE_bytes shiftE_lets shiftE_rows exBytesE str_beq bytesE_take_self letsE_take_self
set_option maxRecDepth 100000
theorem z2 {ρ : List Nat} : leEs ρ [[L.sc (.int .i64 0)], [L.sc (.int .i64 0)]] [[L.sc (.int .i64 0)], [L.sc (.int .i64 0)]] := leEs_self (by simp [allP_cons, allP_nil, persL])
set_option maxHeartbeats 4000000 in
theorem newPl_pc : PC Try.prog 9 [cfT plC] [] (.tup [mdlT md0, intT 0]) := by
  have KC := chkPl_pc
  have KN := new_pc 1
  simp only [cfT, cfC, mdlT, mdlC, queT, letsE_nil] at *
  refine PC.of_body Try.func9 rfl ?_
  intro Γ _ _
  simp only [Try.ntmps9, List.length_cons, List.length_nil, Nat.reduceAdd, Nat.reduceSub, List.replicate_succ, List.replicate_zero, List.cons_append, List.nil_append]
  repeat' (first
    | (with_reducible first | refine AW.seq ?_ | refine AW.block ?_ | refine AW.ret ?_ | refine AW.skip ?_ | refine AW.exit ?_)
    | ((refine AW.cond (by rfl) (fun hc => ?_) (fun hc => ?_)) <;> (try simp only [hcS] at hc) <;> (try first | contradiction | (exfalso; omega)))
    | ((refine AW.condB (by rfl) (fun hc => ?_) (fun hc => ?_)))
    | ((first | (refine aCall.pers (KC) fnOk29 ?_ ?_ ?_ ?_; (focus rfl); (focus rfl); (focus (simp [persT, persL]; done))) | (with_reducible refine AW.regionK mo (by kernel_rfl) ?_; intro K hK) | (with_reducible refine aSliceO.l ?_) | (with_reducible refine aBuildO.l ?_) | (with_reducible refine aStoreO.l ?_)); simp (maxSteps := 2000000) only [↓askG_tt, ↓askG_ff, ↓askG_tf, ↓askG_ft, ↓AOp, ↓aBin, ↓aUn, ↓aConv, ↓aAlloc, ↓aBox, ↓aBuild, ↓aLoad, ↓aStore, ↓aNil, ↓aFieldAddr, ↓aField, ↓aExtract, ↓aIndexAddr, ↓aIndex, ↓aSlice, ↓aMake, ↓aBuildSlice, ↓aFrz, ↓aLen, ↓aAppend, ↓aCopy, Nat.reduceAdd, Nat.reduceSub, Nat.reduceMul, Nat.reduceLT, Nat.reduceLeDiff, Nat.reduceEqDiff, Int.reduceToNat, Int.reduceBEq, Int.reduceBNe, Int.reduceEq, Int.reduceNe, Int.reduceNeg, Int.reduceLE, Int.reduceLT, reduceIte, reduceCtorEq, go_sem, Nat.add_sub_cancel, Nat.add_one_sub_one, Nat.sub_zero, shiftP, shiftT, shiftC, shiftL, shiftB, newIds, idsOfT, List.zipIdx_cons, List.zipIdx_nil])
    | (with_reducible refine hK _ ?_; clear hK K)
    | (with_reducible refine askG.mk (fun hg => ?_) (fun hg => ?_) <;> (try simp only [hcS] at hg) <;> (try first | contradiction | (exfalso; omega)))
    | ((with_reducible refine And.intro ?_ ?_); focus (first | (with_reducible show pairsOk _ _ = true; kernel_rfl) | omega | (with_reducible assumption) | kernel_rfl | (exact bytesE_len _) | (exact letsE_len _) | (exact letsE_allP _) | (exact bytesE_allP _) | (exact rowsE_len _) | (exact rowsE_allP _) | (intro r hr; simp only [List.mem_cons] at hr; rcases hr with rfl | hr <;> first | rfl | exact letsE_len _ _ hr) | ((simp [allP_nil, allP_cons, persL]; done)) | (simp; done) | (simp; omega)))
    | ((with_reducible first | show inBlockS _ _ _ _ | show thenS _ _ _ _); simp only [inBlockS, thenS, reduceIte, Nat.reduceEqDiff]))
  refine AW.wkRows 3 _ (rowsE boxC (List.replicate 2 [])) rfl (by exact wkEs_rep (n := 2) ⟨.inr ⟨⟨_, rfl, rfl⟩, rfl⟩, trivial⟩) ?_
  simp only [↓askG_tt, ↓askG_ff, ↓askG_tf, ↓askG_ft, ↓AOp, ↓aBin, ↓aUn, ↓aConv, ↓aAlloc, ↓aBox, ↓aBuild, ↓aLoad, ↓aStore, ↓aNil, ↓aFieldAddr, ↓aField, ↓aExtract, ↓aIndexAddr, ↓aIndex, ↓aSlice, ↓aMake, ↓aBuildSlice, ↓aFrz, ↓aLen, ↓aAppend, ↓aCopy, Nat.reduceAdd, Nat.reduceSub, Nat.reduceMul, Nat.reduceLT, Nat.reduceLeDiff, Nat.reduceEqDiff, Int.reduceToNat, Int.reduceBEq, Int.reduceBNe, Int.reduceEq, Int.reduceNe, Int.reduceNeg, Int.reduceLE, Int.reduceLT, reduceIte, reduceCtorEq, go_sem, Nat.add_sub_cancel, Nat.add_one_sub_one, Nat.sub_zero]
  refine AW.nilCell 4 0 0 _ _ _ 53 2 rfl rfl rfl rfl ?_
  simp only [↓askG_tt, ↓askG_ff, ↓askG_tf, ↓askG_ft, ↓AOp, ↓aBin, ↓aUn, ↓aConv, ↓aAlloc, ↓aBox, ↓aBuild, ↓aLoad, ↓aStore, ↓aNil, ↓aFieldAddr, ↓aField, ↓aExtract, ↓aIndexAddr, ↓aIndex, ↓aSlice, ↓aMake, ↓aBuildSlice, ↓aFrz, ↓aLen, ↓aAppend, ↓aCopy, Nat.reduceAdd, Nat.reduceSub, Nat.reduceMul, Nat.reduceLT, Nat.reduceLeDiff, Nat.reduceEqDiff, Int.reduceToNat, Int.reduceBEq, Int.reduceBNe, Int.reduceEq, Int.reduceNe, Int.reduceNeg, Int.reduceLE, Int.reduceLT, reduceIte, reduceCtorEq, go_sem, Nat.add_sub_cancel, Nat.add_one_sub_one, Nat.sub_zero]
  refine AW.loopG (fun i : Nat => (21, intT i) :: (anys 22 10 [])) (fun i => [some ⟨25, 11, [[bytesL [], .sc (.int .i64 2), .sc (.int .i64 1), .sc (.int .i64 2), .sc (.int .i64 3), .sc (.int .i64 4), .sc (.int .i64 20), .sc (.int .i64 5), .sc (.int .i64 4), .sc (.int .u64 1), .sc (.int .u64 1)]]⟩, some ⟨30, 3, [[.sc (.slice none 0 0), .sc (.slice none 0 0), .sc (.slice none 0 0)]]⟩, some ⟨3, 1, [[.sc (.int .i64 0)], [.sc (.int .i64 0)]]⟩, some ⟨49, 1, rowsE boxC (List.replicate 2 [])⟩, some ⟨30, 3, [[.own 5 2 i, .own 2 1 2, .own 3 1 2]]⟩, some ⟨53, 2, rowsE queC (List.replicate i ⟨1, []⟩)⟩]) (fun i => 2 - i) (fun i => i ≤ 2) 0 [0, 1, 2, 3, 4, 5] (by omega) ⟨by simp, by simp [leEs_one, leP, lePs, inP, inPs, inEs, leTs, leT, leC, leCs, leL, leLs, leBs, overT, anys, inTs, inT, inCs, inC, inLs, inL, inBs, hOf, undefT], by (simp [leEs_one, leP, lePs, inP, inPs, inEs, leTs, leT, leC, leCs, leL, leLs, leBs, overT, anys, inTs, inT, inCs, inC, inLs, inL, inBs, hOf, undefT, z2]; try (simp [rowsE]; done))⟩ (fun i _ => ⟨by simp [leEs_one, leP, lePs, inP, inPs, inEs, leTs, leT, leC, leCs, leL, leLs, leBs, overT, anys, inTs, inT, inCs, inC, inLs, inL, inBs, hOf, undefT], by simp [leEs_one, leP, lePs, inP, inPs, inEs, leTs, leT, leC, leCs, leL, leLs, leBs, overT, anys, inTs, inT, inCs, inC, inLs, inL, inBs, hOf, undefT]⟩) ?_
  intro i hi
  simp only [overT, anys, ↓askG_tt, ↓askG_ff, ↓askG_tf, ↓askG_ft, ↓AOp, ↓aBin, ↓aUn, ↓aConv, ↓aAlloc, ↓aBox, ↓aBuild, ↓aLoad, ↓aStore, ↓aNil, ↓aFieldAddr, ↓aField, ↓aExtract, ↓aIndexAddr, ↓aIndex, ↓aSlice, ↓aMake, ↓aBuildSlice, ↓aFrz, ↓aLen, ↓aAppend, ↓aCopy, Nat.reduceAdd, Nat.reduceSub, Nat.reduceMul, Nat.reduceLT, Nat.reduceLeDiff, Nat.reduceEqDiff, Int.reduceToNat, Int.reduceBEq, Int.reduceBNe, Int.reduceEq, Int.reduceNe, Int.reduceNeg, Int.reduceLE, Int.reduceLT, reduceIte, reduceCtorEq, go_sem, Nat.add_sub_cancel, Nat.add_one_sub_one, Nat.sub_zero]
  obtain rfl | rfl | rfl : i = 0 ∨ i = 1 ∨ i = 2 := by omega
  · have hn : rowsE queC (List.replicate 0 ⟨1, []⟩) ++ [[L.sc (.int .u64 1), L.sl []]] = rowsE queC (List.replicate 1 ⟨1, []⟩) := rfl
    have g2 : decide (((0 : Nat) : Int) < 2) = true := by decide
    repeat' (first
    | (with_reducible first | refine AW.seq ?_ | refine AW.block ?_ | refine AW.ret ?_ | refine AW.skip ?_ | refine AW.exit ?_)
    | ((refine AW.cond (by rfl) (fun hc => ?_) (fun hc => ?_)) <;> (try simp only [hcS] at hc) <;> (try first | contradiction | (exfalso; omega)))
    | ((refine AW.condB (by rfl) (fun hc => ?_) (fun hc => ?_)))
    | ((first | (refine aCall.pers (KN) fnOk30 ?_ ?_ ?_ ?_; (focus rfl); (focus rfl); (focus (simp [persT, persL, g2, hn, List.length_replicate]; done))) | (with_reducible refine AW.regionK mo (by kernel_rfl) ?_; intro K hK) | (with_reducible refine aSliceO.l ?_) | (with_reducible refine aBuildO.l ?_) | (with_reducible refine aStoreO.l ?_)); simp (maxSteps := 2000000) only [↓askG_tt, ↓askG_ff, ↓askG_tf, ↓askG_ft, ↓AOp, ↓aBin, ↓aUn, ↓aConv, ↓aAlloc, ↓aBox, ↓aBuild, ↓aLoad, ↓aStore, ↓aNil, ↓aFieldAddr, ↓aField, ↓aExtract, ↓aIndexAddr, ↓aIndex, ↓aSlice, ↓aMake, ↓aBuildSlice, ↓aFrz, ↓aLen, ↓aAppend, ↓aCopy, Nat.reduceAdd, Nat.reduceSub, Nat.reduceMul, Nat.reduceLT, Nat.reduceLeDiff, Nat.reduceEqDiff, Int.reduceToNat, Int.reduceBEq, Int.reduceBNe, Int.reduceEq, Int.reduceNe, Int.reduceNeg, Int.reduceLE, Int.reduceLT, reduceIte, reduceCtorEq, go_sem, Nat.add_sub_cancel, Nat.add_one_sub_one, Nat.sub_zero, shiftP, shiftT, shiftC, shiftL, shiftB, newIds, idsOfT, List.zipIdx_cons, List.zipIdx_nil, g2, hn, List.length_replicate])
    | (with_reducible refine hK _ ?_; clear hK K)
    | (with_reducible refine askG.mk (fun hg => ?_) (fun hg => ?_) <;> (try simp only [hcS] at hg) <;> (try first | contradiction | (exfalso; omega)))
    | ((with_reducible refine And.intro ?_ ?_); focus (first | (with_reducible show pairsOk _ _ = true; kernel_rfl) | omega | (with_reducible assumption) | kernel_rfl | (exact bytesE_len _) | (exact letsE_len _) | (exact letsE_allP _) | (exact bytesE_allP _) | (exact rowsE_len _) | (exact rowsE_allP _) | (intro r hr; simp only [List.mem_cons] at hr; rcases hr with rfl | hr <;> first | rfl | exact letsE_len _ _ hr) | ((simp [allP_nil, allP_cons, persL]; done)) | (simp; done) | (simp; omega)))
    | ((with_reducible first | show inBlockS _ _ _ _ | show thenS _ _ _ _); simp only [inBlockS, thenS, reduceIte, Nat.reduceEqDiff]))
    rw [wrap_i64 _ (by omega)]
    exact ⟨[0, 1, 2, 3, 4, 7], 1, by omega, by omega, ⟨by simp, by (simp [leEs_one, leP, lePs, inP, inPs, inEs, leTs, leT, leC, leCs, leL, leLs, leBs, overT, anys, inTs, inT, inCs, inC, inLs, inL, inBs, hOf, undefT]; try omega), by (simp [leEs_one, leP, lePs, inP, inPs, inEs, leTs, leT, leC, leCs, leL, leLs, leBs, overT, anys, inTs, inT, inCs, inC, inLs, inL, inBs, hOf, undefT, z2]; exact leEs_rowsQ (ρ := [0, 1, 2, 3, 4, 7]) [⟨1, []⟩])⟩⟩
  · have hn : rowsE queC (List.replicate 1 ⟨1, []⟩) ++ [[L.sc (.int .u64 1), L.sl []]] = rowsE queC (List.replicate 2 ⟨1, []⟩) := rfl
    have g2 : decide (((1 : Nat) : Int) < 2) = true := by decide
    repeat' (first
    | (with_reducible first | refine AW.seq ?_ | refine AW.block ?_ | refine AW.ret ?_ | refine AW.skip ?_ | refine AW.exit ?_)
    | ((refine AW.cond (by rfl) (fun hc => ?_) (fun hc => ?_)) <;> (try simp only [hcS] at hc) <;> (try first | contradiction | (exfalso; omega)))
    | ((refine AW.condB (by rfl) (fun hc => ?_) (fun hc => ?_)))
    | ((first | (refine aCall.pers (KN) fnOk30 ?_ ?_ ?_ ?_; (focus rfl); (focus rfl); (focus (simp [persT, persL, g2, hn, List.length_replicate]; done))) | (with_reducible refine AW.regionK mo (by kernel_rfl) ?_; intro K hK) | (with_reducible refine aSliceO.l ?_) | (with_reducible refine aBuildO.l ?_) | (with_reducible refine aStoreO.l ?_)); simp (maxSteps := 2000000) only [↓askG_tt, ↓askG_ff, ↓askG_tf, ↓askG_ft, ↓AOp, ↓aBin, ↓aUn, ↓aConv, ↓aAlloc, ↓aBox, ↓aBuild, ↓aLoad, ↓aStore, ↓aNil, ↓aFieldAddr, ↓aField, ↓aExtract, ↓aIndexAddr, ↓aIndex, ↓aSlice, ↓aMake, ↓aBuildSlice, ↓aFrz, ↓aLen, ↓aAppend, ↓aCopy, Nat.reduceAdd, Nat.reduceSub, Nat.reduceMul, Nat.reduceLT, Nat.reduceLeDiff, Nat.reduceEqDiff, Int.reduceToNat, Int.reduceBEq, Int.reduceBNe, Int.reduceEq, Int.reduceNe, Int.reduceNeg, Int.reduceLE, Int.reduceLT, reduceIte, reduceCtorEq, go_sem, Nat.add_sub_cancel, Nat.add_one_sub_one, Nat.sub_zero, shiftP, shiftT, shiftC, shiftL, shiftB, newIds, idsOfT, List.zipIdx_cons, List.zipIdx_nil, g2, hn, List.length_replicate])
    | (with_reducible refine hK _ ?_; clear hK K)
    | (with_reducible refine askG.mk (fun hg => ?_) (fun hg => ?_) <;> (try simp only [hcS] at hg) <;> (try first | contradiction | (exfalso; omega)))
    | ((with_reducible refine And.intro ?_ ?_); focus (first | (with_reducible show pairsOk _ _ = true; kernel_rfl) | omega | (with_reducible assumption) | kernel_rfl | (exact bytesE_len _) | (exact letsE_len _) | (exact letsE_allP _) | (exact bytesE_allP _) | (exact rowsE_len _) | (exact rowsE_allP _) | (intro r hr; simp only [List.mem_cons] at hr; rcases hr with rfl | hr <;> first | rfl | exact letsE_len _ _ hr) | ((simp [allP_nil, allP_cons, persL]; done)) | (simp; done) | (simp; omega)))
    | ((with_reducible first | show inBlockS _ _ _ _ | show thenS _ _ _ _); simp only [inBlockS, thenS, reduceIte, Nat.reduceEqDiff]))
    rw [wrap_i64 _ (by omega)]
    exact ⟨[0, 1, 2, 3, 4, 7], 2, by omega, by omega, ⟨by simp, by (simp [leEs_one, leP, lePs, inP, inPs, inEs, leTs, leT, leC, leCs, leL, leLs, leBs, overT, anys, inTs, inT, inCs, inC, inLs, inL, inBs, hOf, undefT]; try omega), by (simp [leEs_one, leP, lePs, inP, inPs, inEs, leTs, leT, leC, leCs, leL, leLs, leBs, overT, anys, inTs, inT, inCs, inC, inLs, inL, inBs, hOf, undefT, z2]; exact leEs_rowsQ (ρ := [0, 1, 2, 3, 4, 7]) [⟨1, []⟩, ⟨1, []⟩])⟩⟩
  · have g2 : decide (((2 : Nat) : Int) < 2) = false := by decide
    repeat' (first
    | (with_reducible first | refine AW.seq ?_ | refine AW.block ?_ | refine AW.ret ?_ | refine AW.skip ?_ | refine AW.exit ?_)
    | ((refine AW.cond (by rfl) (fun hc => ?_) (fun hc => ?_)) <;> (try simp only [hcS] at hc) <;> (try first | contradiction | (exfalso; omega)))
    | ((refine AW.condB (by rfl) (fun hc => ?_) (fun hc => ?_)))
    | ((first | (with_reducible refine AW.regionK mo (by kernel_rfl) ?_; intro K hK) | (with_reducible refine aSliceO.l ?_) | (with_reducible refine aBuildO.l ?_) | (with_reducible refine aStoreO.l ?_)); simp (maxSteps := 2000000) only [↓askG_tt, ↓askG_ff, ↓askG_tf, ↓askG_ft, ↓AOp, ↓aBin, ↓aUn, ↓aConv, ↓aAlloc, ↓aBox, ↓aBuild, ↓aLoad, ↓aStore, ↓aNil, ↓aFieldAddr, ↓aField, ↓aExtract, ↓aIndexAddr, ↓aIndex, ↓aSlice, ↓aMake, ↓aBuildSlice, ↓aFrz, ↓aLen, ↓aAppend, ↓aCopy, Nat.reduceAdd, Nat.reduceSub, Nat.reduceMul, Nat.reduceLT, Nat.reduceLeDiff, Nat.reduceEqDiff, Int.reduceToNat, Int.reduceBEq, Int.reduceBNe, Int.reduceEq, Int.reduceNe, Int.reduceNeg, Int.reduceLE, Int.reduceLT, reduceIte, reduceCtorEq, go_sem, Nat.add_sub_cancel, Nat.add_one_sub_one, Nat.sub_zero, shiftP, shiftT, shiftC, shiftL, shiftB, newIds, idsOfT, List.zipIdx_cons, List.zipIdx_nil, g2, List.length_replicate])
    | (with_reducible refine hK _ ?_; clear hK K)
    | (with_reducible refine askG.mk (fun hg => ?_) (fun hg => ?_) <;> (try simp only [hcS] at hg) <;> (try first | contradiction | (exfalso; omega)))
    | ((with_reducible refine And.intro ?_ ?_); focus (first | (with_reducible show pairsOk _ _ = true; kernel_rfl) | omega | (with_reducible assumption) | kernel_rfl | (exact bytesE_len _) | (exact letsE_len _) | (exact letsE_allP _) | (exact bytesE_allP _) | (exact rowsE_len _) | (exact rowsE_allP _) | (intro r hr; simp only [List.mem_cons] at hr; rcases hr with rfl | hr <;> first | rfl | exact letsE_len _ _ hr) | ((simp [allP_nil, allP_cons, persL]; done)) | (simp; done) | (simp; omega)))
    | ((with_reducible first | show inBlockS _ _ _ _ | show thenS _ _ _ _); simp only [inBlockS, thenS, reduceIte, Nat.reduceEqDiff]))
    all_goals (refine ⟨_, [], rfl, ⟨rfl, ?_, ?_, ?_⟩⟩ <;> simp [go_sem, Nat.add_sub_cancel, Nat.add_one_sub_one, Nat.sub_zero, finP, finPs, viewP, viewPs, finT, finC, finCs, finL, finLs, finBs, viewOk, viewsOk, persL, inT, inC, inCs, inL, inLs, ndB, allP_nil, allP_cons, allP_append, rowsE, queC, intC, boxC, letsE_nil])
theorem cl01 (n : Nat) (h : n < 2) (qs : List Que) (co : List Int) (bx : List (List Let)) (h1 : qs.length = 2) (h2 : co.length = 2) (h3 : bx.length = 2) : clP ⟨qs, co, bx⟩ n := ⟨by omega, by simp only; omega, by simp only; omega, by simp only; omega⟩
theorem fit0 : MFit md0 := ⟨by simp, by simp, by simp, by simp, by simp, by simp⟩
theorem fit1 : MFit md1 := ⟨by simp, by simp, by simp, by simp, by simp, by simp⟩
theorem fit2 : MFit md2 := ⟨by simp, by simp, by simp, by simp, by simp, by simp⟩
theorem fit3 : MFit md3 := ⟨by simp, by simp, by simp, by simp, by simp, by simp⟩
theorem hi_rows : [[L.sc (.int .u8 104)], [L.sc (.int .u8 105)]] = bytesE [104, 105] := rfl
set_option maxHeartbeats 8000000 in
theorem live_pc : PC Try.prog 7 [] [] (boolT true) := by
  have C0 := plain_pc
  have C1 := newPl_pc
  have C2 := sayYes_pc plC md0 0 1 [104, 105] ⟨1, []⟩ (cl01 0 (by omega) _ _ _ rfl rfl rfl) rfl fit0 (by simp)
  have e1 : putQ plC ⟨1, []⟩ ((0 : Nat) : Int) 1 [104, 105] = ⟨2, [hiL]⟩ := by simp [putQ, knownP]
  have e2 : putK plC ⟨1, []⟩ ((0 : Nat) : Int) 1 [104, 105] = 1 := by simp [putK, knownP]
  rw [e1, e2] at C2
  have C3 := comeYes_pc md1 0 0 1 ⟨2, [hiL]⟩ hiL [] (cl01 0 (by omega) _ _ _ rfl rfl rfl) rfl rfl rfl rfl (cl01 1 (by omega) _ _ _ rfl rfl rfl) rfl fit1
  have C4 := goneYes_pc md2 0 0 2 hiL [] (cl01 0 (by omega) _ _ _ rfl rfl rfl) rfl rfl fit2 (by omega)
  have C5 := takeYes_pc md3 1 hiL [] (cl01 1 (by omega) _ _ _ rfl rfl rfl) rfl fit3
  obtain ⟨k1, W1, W1b⟩ := waiting_pc md2 0
  have W2 := W1 0 rfl (cl01 0 (by omega) _ _ _ rfl rfl rfl) _ rfl
  have W3 := W1b [[], [hiL]] rfl
  rw [W2] at W3
  obtain ⟨k2, V1, V1b⟩ := waiting_pc md3 0
  have V2 := V1 0 rfl (cl01 0 (by omega) _ _ _ rfl rfl rfl) _ rfl
  have V3 := V1b [[], [hiL]] rfl
  rw [V2] at V3
  have S := same_pc [104, 105] [104, 105]
  rw [show decide (([104, 105] : List UInt8) = [104, 105]) = true by decide] at S
  clear W1 W1b V1 V1b W2 V2 e1 e2
  simp only [List.set_cons_zero, List.set_cons_succ, List.nil_append, Nat.zero_add, List.length_cons, List.length_nil] at C2 C3 C4 C5 W3 V3
  simp only [cfT, cfC, mdlT, mdlC, letT, letC] at *
  simp only [show ((0 : Nat) : Int) = 0 from rfl, show ((1 : Nat) : Int) = 1 from rfl] at *
  refine PC.of_body Try.func7 rfl ?_
  intro Γ _ _
  simp only [Try.ntmps7, List.length_cons, List.length_nil, Nat.reduceAdd, Nat.reduceSub, List.replicate_succ, List.replicate_zero, List.cons_append, List.nil_append]
  repeat' (first
    | (with_reducible first | refine AW.seq ?_ | refine AW.block ?_ | refine AW.ret ?_ | refine AW.skip ?_ | refine AW.exit ?_)
    | ((refine AW.cond (by rfl) (fun hc => ?_) (fun hc => ?_)) <;> (try simp only [hcS] at hc) <;> (try first | contradiction | (exfalso; omega)))
    | ((refine AW.condB (by rfl) (fun hc => ?_) (fun hc => ?_)))
    | ((first | (refine aSem.constBytes rfl rfl rfl ?_ elem22 und5 ?_ ?_; (focus simp [allP_cons, allP_nil, persL]); (focus decide)) | (refine aCall.pers (C0) fnOk27 ?_ ?_ ?_ ?_; (focus rfl); (focus rfl); (focus (simp [persT, persL, hi_rows]; done))) | (refine aCall.pers (C1) fnOk9 ?_ ?_ ?_ ?_; (focus rfl); (focus rfl); (focus (simp [persT, persL, hi_rows]; done))) | (refine aCall.pers (C2) fnOk11 ?_ ?_ ?_ ?_; (focus rfl); (focus rfl); (focus (simp [persT, persL, hi_rows]; done))) | (refine aCall.pers (C3) fnOk16 ?_ ?_ ?_ ?_; (focus rfl); (focus rfl); (focus (simp [persT, persL, hi_rows]; done))) | (refine aCall.pers (C4) fnOk18 ?_ ?_ ?_ ?_; (focus rfl); (focus rfl); (focus (simp [persT, persL, hi_rows]; done))) | (refine aCall.pers (C5) fnOk20 ?_ ?_ ?_ ?_; (focus rfl); (focus rfl); (focus (simp [persT, persL, hi_rows]; done))) | (refine aCall.pers (W3) fnOk14 ?_ ?_ ?_ ?_; (focus rfl); (focus rfl); (focus (simp [persT, persL, hi_rows]; done))) | (refine aCall.pers (V3) fnOk14 ?_ ?_ ?_ ?_; (focus rfl); (focus rfl); (focus (simp [persT, persL, hi_rows]; done))) | (refine aCall.pers (S) fnOk25 ?_ ?_ ?_ ?_; (focus rfl); (focus rfl); (focus (simp [persT, persL, hi_rows]; done))) | (with_reducible refine AW.regionK mo (by kernel_rfl) ?_; intro K hK) | (with_reducible refine aSliceO.l ?_) | (with_reducible refine aBuildO.l ?_) | (with_reducible refine aStoreO.l ?_)); simp (maxSteps := 2000000) only [↓askG_tt, ↓askG_ff, ↓askG_tf, ↓askG_ft, ↓AOp, ↓aBin, ↓aUn, ↓aConv, ↓aAlloc, ↓aBox, ↓aBuild, ↓aLoad, ↓aStore, ↓aNil, ↓aFieldAddr, ↓aField, ↓aExtract, ↓aIndexAddr, ↓aIndex, ↓aSlice, ↓aMake, ↓aBuildSlice, ↓aFrz, ↓aLen, ↓aAppend, ↓aCopy, Nat.reduceAdd, Nat.reduceSub, Nat.reduceMul, Nat.reduceLT, Nat.reduceLeDiff, Nat.reduceEqDiff, Int.reduceToNat, Int.reduceBEq, Int.reduceBNe, Int.reduceEq, Int.reduceNe, Int.reduceNeg, Int.reduceLE, Int.reduceLT, reduceIte, reduceCtorEq, go_sem, Nat.add_sub_cancel, Nat.add_one_sub_one, Nat.sub_zero, shiftP, shiftT, shiftC, shiftL, shiftB, newIds, idsOfT, List.zipIdx_cons, List.zipIdx_nil, hi_rows])
    | (with_reducible refine hK _ ?_; clear hK K)
    | (with_reducible refine askG.mk (fun hg => ?_) (fun hg => ?_) <;> (try simp only [hcS] at hg) <;> (try first | contradiction | (exfalso; omega)))
    | ((with_reducible refine And.intro ?_ ?_); focus (first | (with_reducible show pairsOk _ _ = true; kernel_rfl) | omega | (with_reducible assumption) | kernel_rfl | (exact bytesE_len _) | (exact letsE_len _) | (exact letsE_allP _) | (exact bytesE_allP _) | (exact rowsE_len _) | (exact rowsE_allP _) | (intro r hr; simp only [List.mem_cons] at hr; rcases hr with rfl | hr <;> first | rfl | exact letsE_len _ _ hr) | ((simp [allP_nil, allP_cons, persL]; done)) | (simp; done) | (simp; omega)))
    | ((with_reducible first | show inBlockS _ _ _ _ | show thenS _ _ _ _); simp only [inBlockS, thenS, reduceIte, Nat.reduceEqDiff]))
  all_goals (refine ⟨_, [], rfl, ⟨rfl, ?_, ?_, ?_⟩⟩ <;> simp [go_sem, Nat.add_sub_cancel, Nat.add_one_sub_one, Nat.sub_zero, finP, finPs, viewP, viewPs, finT, finC, finCs, finL, finLs, finBs, viewOk, viewsOk, persL, inT, inC, inCs, inL, inLs, ndB, allP_nil, allP_cons, allP_append])
/-! ### What is handed in -/
theorem shape_bytes : Shape 22 (fun bs => [bytesL bs]) (fun bs => bs.length ≤ 140737488351232) :=
  (shape_slice (shape_u8 Try.underlying5) Try.underlying22 (b := 1) (by kernel_rfl)).map id (fun x => rfl) (fun x h => by simpa using h.2.1)
def LetOk (x : Let) : Prop := x.bs.length ≤ 140737488351232
theorem shape_let : Shape 43 letC LetOk := by
  have b := shape_struct (n := 5) Try.underlying43 (by kernel_rfl) (shapeF_c 1 4 (shape_bool Try.underlying4) (shapeF_c 1 3 (shape_i64 Try.underlying3) (shapeF_c 1 2 (shape_i64 Try.underlying3) (shapeF_c 1 1 (shape_u64 Try.underlying23) (shapeF_c 1 0 shape_bytes shapeF_nil rfl rfl (by kernel_rfl)) rfl rfl (by kernel_rfl)) rfl rfl (by kernel_rfl)) rfl rfl (by kernel_rfl)) rfl rfl (by kernel_rfl))
  exact b.map (fun x => ⟨x.1, x.2.1, x.2.2.1, x.2.2.2.1, x.2.2.2.2.1⟩) (fun x => rfl) (fun x h => h.2.2.2.2.1)
def QueOk (q : Que) : Prop := q.next ≤ 18446744073709551615 ∧ q.items.length * 56 ≤ 140737488351232 ∧ ∀ l ∈ q.items, l.bs.length ≤ 140737488351232
theorem shape_lets : Shape 49 (fun xs : List Let => [letsL xs]) (fun xs => xs.length * 56 ≤ 140737488351232 ∧ ∀ l ∈ xs, l.bs.length ≤ 140737488351232) :=
  (shape_slice shape_let Try.underlying49 (b := 56) (by kernel_rfl)).map id (fun x => rfl) (fun x h => ⟨h.2.1, h.1⟩)
theorem shape_que : Shape 53 queC QueOk := by
  have b := shape_struct (n := 2) Try.underlying53 (by kernel_rfl) (shapeF_c 1 1 (shape_u64 Try.underlying23) (shapeF_c 1 0 shape_lets shapeF_nil rfl rfl (by kernel_rfl)) rfl rfl (by kernel_rfl))
  exact b.map (fun x => ⟨x.1, x.2.1⟩) (fun x => rfl) (fun x h => ⟨h.1, h.2.1.1, h.2.1.2⟩)
theorem shape_mdl : Shape 30 mdlC MFit := by
  have b := shape_struct (n := 3) Try.underlying30 (by kernel_rfl) (shapeF_c 1 2 (rows_shape shape_que Try.underlying26 (b := 32) (by kernel_rfl)) (shapeF_c 1 1 (rows_shape (shape_i64 Try.underlying3) Try.underlying27 (b := 8) (by kernel_rfl)) (shapeF_c 1 0 (rows_shape shape_lets Try.underlying28 (b := 24) (by kernel_rfl)) shapeF_nil rfl rfl (by kernel_rfl)) rfl rfl (by kernel_rfl)) rfl rfl (by kernel_rfl))
  exact b.map (fun x => ⟨x.1, x.2.1, x.2.2.1⟩) (fun x => rfl) (fun x h => ⟨h.1.2.1, h.2.1.2.1, h.2.2.1.2.1, h.1.1, h.2.2.1.1, fun n hn => (h.2.1.1 n hn).2⟩)
theorem OpnR.mdl {W : World} {v : Value} (h : OpnR W 30 v) : ∃ m, MFit m ∧ RT (Cx (fun _ => True) W.heap.size) h0 μ0 W (mdlT m) v := by
  obtain ⟨cs, hc⟩ := h.cells_agg Try.underlying30
  exact h.agg shape_mdl cs hc _ (fun _ => trivial)
theorem OpnR.i64 {W : World} {v : Value} (h : OpnR W 3 v) : ∃ n : Int, RT (Cx (fun _ => True) W.heap.size) h0 μ0 W (intT n) v := by
  obtain ⟨n, _, r⟩ := h.leaf (l := fun n => .sc (.int .i64 n)) (shape_i64 Try.underlying3) (fun _ => rfl) (h.cells_int Try.underlying3) _ (fun _ => trivial)
  exact ⟨n, r⟩
theorem MFit.drop {m : Mdl} (h : MFit m) {w : Nat} {b : List Let} (hb : m.bx[w]? = some b) (i : Nat) : MFit ⟨m.qs, m.co, m.bx.set w (b.drop i)⟩ := by
  refine ⟨h.q1, h.c1, by simp only [List.length_set]; exact h.b1, h.q2, fun b' hb' => ?_, h.c2⟩
  have hm := List.mem_of_getElem? hb
  rcases List.mem_or_eq_of_mem_set hb' with q | q
  · exact h.b2 b' q
  · subst q
    refine ⟨?_, fun l hl => (h.b2 b hm).2 l (List.mem_of_mem_drop hl)⟩
    have := (h.b2 b hm).1
    have h2 : (b.drop i).length ≤ b.length := by rw [List.length_drop]; omega
    omega
end Go.Proofs.Ytilfmeknjmdnoaa
