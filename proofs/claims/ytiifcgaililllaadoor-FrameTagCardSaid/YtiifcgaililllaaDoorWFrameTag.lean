/- The walk of the law FrameTag. -/
import Derived.Test.YtiifcgaililllaaDoorPwF4
import Derived.Test.YtiifcgaililllaaDoorPwAb
namespace Go.Proofs.YtiifcgaililllaaDoor
set_option linter.unusedSimpArgs false
set_option linter.unusedVariables false
open Go Go.RowKit
attribute [local congr] AW_congr AOs_congr aCall_congr aCall1_congr aSem_congr aSliceO_congr aBuildO_congr aStoreO_congr
attribute [local go_sem] uC_own uC_ids uC_shift uC_frz uC_length tabK_uC ub_v bytes_set bytesE_one1 bytesE_consr bytesE_append bytesE_drop bytesE_take bC_length bC_rows bC_own bC_ids bC_shift bC_frz rowsE_length rowsE_get Option.map_map bytesE_length bytesE_get shiftE_bytes shiftE_rows exBytesE str_beq bytesE_take_self List.take_length
set_option maxRecDepth 100000

attribute [local simp] leEs_bytes leEs_iE iE_allP leEs_bC
theorem OpnR.b32 {W : World} {v : Value} (h : OpnR W 42 v) : ∃ bs : List UInt8, bs.length = 32 ∧ RT (Cx (fun _ => True) W.heap.size) h0 μ0 W (.agg (bC bs)) v :=
  h.bytesN Tryd.underlying42 Tryd.underlying5 (by kernel_rfl) (by kernel_rfl)
set_option maxHeartbeats 8000000 in
theorem frameTag_pc (key : List UInt8) (f : Frm) (tg : List UInt8) (hf : FrmB f) (ht : tg.length = 32) : PC Tryd.prog 7 [bytesT key, frmT f, .agg (bC tg)] [] (boolT true) := by
  have CL := live_pc
  have ta := bC_take_self tg
  rw [ht] at ta
  have ta2 : List.take 32 tg = tg := List.take_of_length_le (by omega)
  have da : List.drop 32 (bC tg) = [] := List.drop_of_length_le (by simp [bC_length, ht])
  by_cases h1 : FewF key f []
  · have F1 := frFew_pc key f [] true (by simp [h1])
    obtain ⟨X, e, hc, hX, _, P1, _⟩ := frPut_ex key f (by have := h1.1; omega) hf
    by_cases he : e = 0
    · subst he
      obtain ⟨hok, hbl, rfl⟩ := hX rfl
      have hkl := h1.1
      have hbl2 := h1.2.1
      have hc8 := hok.2.2.2.1.2.1
      have ls := saidF_len f
      have lX : (putF key f).length = (saidF f).length + 32 := by rw [putF_len, ls]; omega
      have g2 : decide (((putF key f).length : Int) < 33) = false := decide_eq_false (by omega)
      have w1 : IntKind.i64.wrap (((putF key f).length : Int) - 32) = ((saidF f).length : Int) := by rw [wrap_i64 _ (by omega)]; omega
      obtain ⟨e1, e2⟩ := allF_put key f
      have tX : List.take (saidF f).length (putF key f) = saidF f := List.take_left
      have dX : List.take ((putF key f).length - (saidF f).length) (List.drop (saidF f).length (putF key f)) = macTag key (saidF f) := by
        rw [show List.drop (saidF f).length (putF key f) = macTag key (saidF f) from List.drop_left, List.take_of_length_le (by rw [macTag_len]; omega)]
      have G1 := (tag_pc key (saidF f) (by omega) (by omega)).sl1
      have S1 := same_pc (macTag key (saidF f)) (macTag key (saidF f))
      rw [show decide (macTag key (saidF f) = macTag key (saidF f)) = true by simp] at S1
      have SG := same_pc tg (macTag key (saidF f))
      have eA : allF (saidF f ++ tg) = saidF f := by unfold allF; rw [List.length_append, ht, Nat.add_sub_cancel]; exact List.take_left
      have eE : endF (saidF f ++ tg) = tg := by unfold endF; rw [List.length_append, ht, Nat.add_sub_cancel]; exact List.drop_left
      have lA : (saidF f ++ tg).length = (saidF f).length + 32 := by rw [List.length_append, ht]
      have hR := (said_ok f hok hf (by omega)).1
      have lm := macTag_len key (saidF f)
      by_cases hg : tg = macTag key (saidF f)
      · have T1 := PC.slF (frTake_pc key (saidF f ++ tg) (by omega) (by omega) ⟨by omega, by rw [eA]; exact hR, by rw [eA, eE]; exact hg⟩)
        rw [eA, (said_ok f hok hf (by omega)).2] at T1
        rw [show decide (tg = macTag key (saidF f)) = true by simp [hg]] at SG
        clear hc hX h1 hf hok e1 e2 eA eE hR hg hbl
        generalize macTag key (saidF f) = m at *
        generalize putF key f = z at *
        generalize saidF f = s at *
        obtain ⟨fm, tw, ⟨ep, ro, ch⟩, kd, sq, bd⟩ := f
        simp only [frmT, frmC, zeroF] at *
        refine PC.of_body Tryd.func7 rfl ?_
        intro Γ _ _
        simp only [Tryd.ntmps7, List.length_cons, List.length_nil, Nat.reduceAdd, Nat.reduceSub, List.replicate_succ, List.replicate_zero, List.cons_append, List.nil_append]
        repeat' (first
    | (with_reducible first | refine AW.seq ?_ | refine AW.block ?_ | refine AW.ret ?_ | refine AW.skip ?_ | refine AW.exit ?_)
    | ((refine AW.cond (by rfl) (fun hc => ?_) (fun hc => ?_)) <;> (try simp only [hcS] at hc) <;> (try first | contradiction | (exfalso; omega)))
    | ((refine AW.condB (by rfl) (fun hc => ?_) (fun hc => ?_)))
    | ((first | (refine aSem.cutArr rfl rfl rfl arr42 size5 rfl rfl ?_ ?_ ?_ ?_ ?_ ?_; (focus (simp; done)); (focus (simp; done)); (focus (simp; done)); (focus (simp; done)); (focus (simp; done))) | (refine aCall.pers (CL) fnOk9 ?_ ?_ ?_ ?_; (focus rfl); (focus rfl); (focus (simp [persT, persL, ht, ta, da, g2, w1, tX, dX, lA, lm, ta2]; done))) | (refine aCall.wk (F1) fnOk10 ?_ ?_ ?_ ?_; (focus rfl); (focus (simp [wkTs, wkT, wkLs, wkL, isNilSl, St.ev, evalT, ht, ta, da, g2, w1, tX, dX, lA, lm, ta2]; done)); (focus (simp [persT, persL, St.ev, evalT, ht, ta, da, g2, w1, tX, dX, lA, lm, ta2]; done))) | (refine aCall.pers (P1) fnOk11 ?_ ?_ ?_ ?_; (focus rfl); (focus rfl); (focus (simp [persT, persL, ht, ta, da, g2, w1, tX, dX, lA, lm, ta2]; done))) | (refine aCall.pers (G1) fnOk20 ?_ ?_ ?_ ?_; (focus rfl); (focus rfl); (focus (simp [persT, persL, ht, ta, da, g2, w1, tX, dX, lA, lm, ta2]; done))) | (refine aCall.pers (S1) fnOk15 ?_ ?_ ?_ ?_; (focus rfl); (focus rfl); (focus (simp [persT, persL, ht, ta, da, g2, w1, tX, dX, lA, lm, ta2]; done))) | (refine aCall.view SG fnOk15 ?_ ?_ ?_ ?_ ?_; (focus rfl); (focus rfl); (focus (simp [plainBs]; done)); (focus (simp [argsOk, viewTOk, viewP, viewPs, ↓askG_tt, ↓askG_ff, ↓askG_tf, ↓askG_ft, ↓AOp, ↓aBin, ↓aUn, ↓aConv, ↓aAlloc, ↓aBox, ↓aBuild, ↓aLoad, ↓aStore, ↓aNil, ↓aFieldAddr, ↓aField, ↓aExtract, ↓aIndexAddr, ↓aIndex, ↓aSlice, ↓aMake, ↓aBuildSlice, ↓aFrz, ↓aLen, ↓aAppend, ↓aCopy, Nat.reduceAdd, Nat.reduceSub, Nat.reduceMul, Nat.reduceLT, Nat.reduceLeDiff, Nat.reduceEqDiff, Int.reduceToNat, Int.reduceBEq, Int.reduceBNe, Int.reduceEq, Int.reduceNe, Int.reduceNeg, Int.reduceLE, Int.reduceLT, reduceIte, reduceCtorEq, go_sem, Nat.add_sub_cancel, Nat.add_one_sub_one, Nat.sub_zero, Nat.mul_one, finP, finPs, viewP, viewPs, finT, finC, finCs, finL, finLs, finBs, viewOk, viewsOk, persL, inT, inC, inCs, inL, inLs, ndB, allP_nil, allP_cons, allP_append, bC_rows, ta, ta2]; done))) | (refine aCall.frzAll ?_) | (refine aCall1.wk (T1) fnOk18 ?_ ?_ ?_ ?_; (focus rfl); (focus (simp [wkTs, wkT, wkLs, wkL, isNilSl, St.ev, evalT, ht, ta, da, g2, w1, tX, dX, lA, lm, ta2]; done)); (focus (simp [persT, persL, St.ev, evalT, ht, ta, da, g2, w1, tX, dX, lA, lm, ta2]; done))) | (with_reducible refine AW.regionK mo (by kernel_rfl) ?_; intro K hK) | (with_reducible refine aSliceO.l ?_) | (with_reducible refine aBuildO.l ?_) | (with_reducible refine aStoreO.l ?_)); simp (maxSteps := 2000000) only [↓askG_tt, ↓askG_ff, ↓askG_tf, ↓askG_ft, ↓AOp, ↓aBin, ↓aUn, ↓aConv, ↓aAlloc, ↓aBox, ↓aBuild, ↓aLoad, ↓aStore, ↓aNil, ↓aFieldAddr, ↓aField, ↓aExtract, ↓aIndexAddr, ↓aIndex, ↓aSlice, ↓aMake, ↓aBuildSlice, ↓aFrz, ↓aLen, ↓aAppend, ↓aCopy, Nat.reduceAdd, Nat.reduceSub, Nat.reduceMul, Nat.reduceLT, Nat.reduceLeDiff, Nat.reduceEqDiff, Int.reduceToNat, Int.reduceBEq, Int.reduceBNe, Int.reduceEq, Int.reduceNe, Int.reduceNeg, Int.reduceLE, Int.reduceLT, reduceIte, reduceCtorEq, go_sem, Nat.add_sub_cancel, Nat.add_one_sub_one, Nat.sub_zero, Nat.mul_one, shiftP, shiftT, shiftC, shiftL, shiftB, newIds, idsOfT, List.zipIdx_cons, List.zipIdx_nil, ht, ta, da, g2, w1, tX, dX, lA, lm, ta2])
    | (with_reducible refine hK _ ?_; clear hK K)
    | (with_reducible refine askG.mk (fun hg => ?_) (fun hg => ?_) <;> (try simp only [hcS] at hg) <;> (try first | contradiction | (exfalso; omega)))
    | ((with_reducible refine And.intro ?_ ?_); focus (first | (with_reducible show pairsOk _ _ = true; kernel_rfl) | omega | (with_reducible assumption) | kernel_rfl | (exact bytesE_len _) | (exact iE_one _) | (exact iE_allP _) | (exact bytesE_allP _) | (exact rowsE_len _) | (exact rowsE_allP _) | ((simp [allP_nil, allP_cons, persL]; done)) | ((simp [byV]; done)) | (simp; done) | (simp; omega)))
    | ((with_reducible first | show inBlockS _ _ _ _ | show thenS _ _ _ _); simp only [inBlockS, thenS, reduceIte, Nat.reduceEqDiff]))
        all_goals (refine ⟨_, [], rfl, ⟨rfl, ?_, ?_, ?_⟩⟩ <;> simp [go_sem, Nat.add_sub_cancel, Nat.add_one_sub_one, Nat.sub_zero, Nat.mul_one, finP, finPs, viewP, viewPs, finT, finC, finCs, finL, finLs, finBs, viewOk, viewsOk, persL, inT, inC, inCs, inL, inLs, ndB, allP_nil, allP_cons, allP_append])
      · have T1 := frTakeTag_pc key (saidF f ++ tg) (by omega) (by omega) (by omega) (by rw [eA]; exact hR) (by rw [eA, eE]; exact hg)
        rw [show decide (tg = macTag key (saidF f)) = false by simp [hg]] at SG
        clear hc hX h1 hf hok e1 e2 eA eE hR hg hbl
        generalize macTag key (saidF f) = m at *
        generalize putF key f = z at *
        generalize saidF f = s at *
        obtain ⟨fm, tw, ⟨ep, ro, ch⟩, kd, sq, bd⟩ := f
        simp only [frmT, frmC, zeroF] at *
        refine PC.of_body Tryd.func7 rfl ?_
        intro Γ _ _
        simp only [Tryd.ntmps7, List.length_cons, List.length_nil, Nat.reduceAdd, Nat.reduceSub, List.replicate_succ, List.replicate_zero, List.cons_append, List.nil_append]
        repeat' (first
    | (with_reducible first | refine AW.seq ?_ | refine AW.block ?_ | refine AW.ret ?_ | refine AW.skip ?_ | refine AW.exit ?_)
    | ((refine AW.cond (by rfl) (fun hc => ?_) (fun hc => ?_)) <;> (try simp only [hcS] at hc) <;> (try first | contradiction | (exfalso; omega)))
    | ((refine AW.condB (by rfl) (fun hc => ?_) (fun hc => ?_)))
    | ((first | (refine aSem.cutArr rfl rfl rfl arr42 size5 rfl rfl ?_ ?_ ?_ ?_ ?_ ?_; (focus (simp; done)); (focus (simp; done)); (focus (simp; done)); (focus (simp; done)); (focus (simp; done))) | (refine aCall.pers (CL) fnOk9 ?_ ?_ ?_ ?_; (focus rfl); (focus rfl); (focus (simp [persT, persL, ht, ta, da, g2, w1, tX, dX, lA, lm, ta2]; done))) | (refine aCall.wk (F1) fnOk10 ?_ ?_ ?_ ?_; (focus rfl); (focus (simp [wkTs, wkT, wkLs, wkL, isNilSl, St.ev, evalT, ht, ta, da, g2, w1, tX, dX, lA, lm, ta2]; done)); (focus (simp [persT, persL, St.ev, evalT, ht, ta, da, g2, w1, tX, dX, lA, lm, ta2]; done))) | (refine aCall.pers (P1) fnOk11 ?_ ?_ ?_ ?_; (focus rfl); (focus rfl); (focus (simp [persT, persL, ht, ta, da, g2, w1, tX, dX, lA, lm, ta2]; done))) | (refine aCall.pers (G1) fnOk20 ?_ ?_ ?_ ?_; (focus rfl); (focus rfl); (focus (simp [persT, persL, ht, ta, da, g2, w1, tX, dX, lA, lm, ta2]; done))) | (refine aCall.pers (S1) fnOk15 ?_ ?_ ?_ ?_; (focus rfl); (focus rfl); (focus (simp [persT, persL, ht, ta, da, g2, w1, tX, dX, lA, lm, ta2]; done))) | (refine aCall.view SG fnOk15 ?_ ?_ ?_ ?_ ?_; (focus rfl); (focus rfl); (focus (simp [plainBs]; done)); (focus (simp [argsOk, viewTOk, viewP, viewPs, ↓askG_tt, ↓askG_ff, ↓askG_tf, ↓askG_ft, ↓AOp, ↓aBin, ↓aUn, ↓aConv, ↓aAlloc, ↓aBox, ↓aBuild, ↓aLoad, ↓aStore, ↓aNil, ↓aFieldAddr, ↓aField, ↓aExtract, ↓aIndexAddr, ↓aIndex, ↓aSlice, ↓aMake, ↓aBuildSlice, ↓aFrz, ↓aLen, ↓aAppend, ↓aCopy, Nat.reduceAdd, Nat.reduceSub, Nat.reduceMul, Nat.reduceLT, Nat.reduceLeDiff, Nat.reduceEqDiff, Int.reduceToNat, Int.reduceBEq, Int.reduceBNe, Int.reduceEq, Int.reduceNe, Int.reduceNeg, Int.reduceLE, Int.reduceLT, reduceIte, reduceCtorEq, go_sem, Nat.add_sub_cancel, Nat.add_one_sub_one, Nat.sub_zero, Nat.mul_one, finP, finPs, viewP, viewPs, finT, finC, finCs, finL, finLs, finBs, viewOk, viewsOk, persL, inT, inC, inCs, inL, inLs, ndB, allP_nil, allP_cons, allP_append, bC_rows, ta, ta2]; done))) | (refine aCall.frzAll ?_) | (refine aCall1.wk (T1) fnOk18 ?_ ?_ ?_ ?_; (focus rfl); (focus (simp [wkTs, wkT, wkLs, wkL, isNilSl, St.ev, evalT, ht, ta, da, g2, w1, tX, dX, lA, lm, ta2]; done)); (focus (simp [persT, persL, St.ev, evalT, ht, ta, da, g2, w1, tX, dX, lA, lm, ta2]; done))) | (with_reducible refine AW.regionK mo (by kernel_rfl) ?_; intro K hK) | (with_reducible refine aSliceO.l ?_) | (with_reducible refine aBuildO.l ?_) | (with_reducible refine aStoreO.l ?_)); simp (maxSteps := 2000000) only [↓askG_tt, ↓askG_ff, ↓askG_tf, ↓askG_ft, ↓AOp, ↓aBin, ↓aUn, ↓aConv, ↓aAlloc, ↓aBox, ↓aBuild, ↓aLoad, ↓aStore, ↓aNil, ↓aFieldAddr, ↓aField, ↓aExtract, ↓aIndexAddr, ↓aIndex, ↓aSlice, ↓aMake, ↓aBuildSlice, ↓aFrz, ↓aLen, ↓aAppend, ↓aCopy, Nat.reduceAdd, Nat.reduceSub, Nat.reduceMul, Nat.reduceLT, Nat.reduceLeDiff, Nat.reduceEqDiff, Int.reduceToNat, Int.reduceBEq, Int.reduceBNe, Int.reduceEq, Int.reduceNe, Int.reduceNeg, Int.reduceLE, Int.reduceLT, reduceIte, reduceCtorEq, go_sem, Nat.add_sub_cancel, Nat.add_one_sub_one, Nat.sub_zero, Nat.mul_one, shiftP, shiftT, shiftC, shiftL, shiftB, newIds, idsOfT, List.zipIdx_cons, List.zipIdx_nil, ht, ta, da, g2, w1, tX, dX, lA, lm, ta2])
    | (with_reducible refine hK _ ?_; clear hK K)
    | (with_reducible refine askG.mk (fun hg => ?_) (fun hg => ?_) <;> (try simp only [hcS] at hg) <;> (try first | contradiction | (exfalso; omega)))
    | ((with_reducible refine And.intro ?_ ?_); focus (first | (with_reducible show pairsOk _ _ = true; kernel_rfl) | omega | (with_reducible assumption) | kernel_rfl | (exact bytesE_len _) | (exact iE_one _) | (exact iE_allP _) | (exact bytesE_allP _) | (exact rowsE_len _) | (exact rowsE_allP _) | ((simp [allP_nil, allP_cons, persL]; done)) | ((simp [byV]; done)) | (simp; done) | (simp; omega)))
    | ((with_reducible first | show inBlockS _ _ _ _ | show thenS _ _ _ _); simp only [inBlockS, thenS, reduceIte, Nat.reduceEqDiff]))
        all_goals (refine ⟨_, [], rfl, ⟨rfl, ?_, ?_, ?_⟩⟩ <;> simp [go_sem, Nat.add_sub_cancel, Nat.add_one_sub_one, Nat.sub_zero, Nat.mul_one, finP, finPs, viewP, viewPs, finT, finC, finCs, finL, finLs, finBs, viewOk, viewsOk, persL, inT, inC, inCs, inL, inLs, ndB, allP_nil, allP_cons, allP_append])
    · have g1 : (e != 0) = true := by simp; omega
      clear hc hX h1 hf
      obtain ⟨fm, tw, ⟨ep, ro, ch⟩, kd, sq, bd⟩ := f
      simp only [frmT, frmC, zeroF] at *
      refine PC.of_body Tryd.func7 rfl ?_
      intro Γ _ _
      simp only [Tryd.ntmps7, List.length_cons, List.length_nil, Nat.reduceAdd, Nat.reduceSub, List.replicate_succ, List.replicate_zero, List.cons_append, List.nil_append]
      repeat' (first
    | (with_reducible first | refine AW.seq ?_ | refine AW.block ?_ | refine AW.ret ?_ | refine AW.skip ?_ | refine AW.exit ?_)
    | ((refine AW.cond (by rfl) (fun hc => ?_) (fun hc => ?_)) <;> (try simp only [hcS] at hc) <;> (try first | contradiction | (exfalso; omega)))
    | ((refine AW.condB (by rfl) (fun hc => ?_) (fun hc => ?_)))
    | ((first | (refine aCall.pers (CL) fnOk9 ?_ ?_ ?_ ?_; (focus rfl); (focus rfl); (focus (simp [persT, persL, ht, ta, da, g1]; done))) | (refine aCall.wk (F1) fnOk10 ?_ ?_ ?_ ?_; (focus rfl); (focus (simp [wkTs, wkT, wkLs, wkL, isNilSl, St.ev, evalT, ht, ta, da, g1]; done)); (focus (simp [persT, persL, St.ev, evalT, ht, ta, da, g1]; done))) | (refine aCall.pers (P1) fnOk11 ?_ ?_ ?_ ?_; (focus rfl); (focus rfl); (focus (simp [persT, persL, ht, ta, da, g1]; done))) | (with_reducible refine AW.regionK mo (by kernel_rfl) ?_; intro K hK) | (with_reducible refine aSliceO.l ?_) | (with_reducible refine aBuildO.l ?_) | (with_reducible refine aStoreO.l ?_)); simp (maxSteps := 2000000) only [↓askG_tt, ↓askG_ff, ↓askG_tf, ↓askG_ft, ↓AOp, ↓aBin, ↓aUn, ↓aConv, ↓aAlloc, ↓aBox, ↓aBuild, ↓aLoad, ↓aStore, ↓aNil, ↓aFieldAddr, ↓aField, ↓aExtract, ↓aIndexAddr, ↓aIndex, ↓aSlice, ↓aMake, ↓aBuildSlice, ↓aFrz, ↓aLen, ↓aAppend, ↓aCopy, Nat.reduceAdd, Nat.reduceSub, Nat.reduceMul, Nat.reduceLT, Nat.reduceLeDiff, Nat.reduceEqDiff, Int.reduceToNat, Int.reduceBEq, Int.reduceBNe, Int.reduceEq, Int.reduceNe, Int.reduceNeg, Int.reduceLE, Int.reduceLT, reduceIte, reduceCtorEq, go_sem, Nat.add_sub_cancel, Nat.add_one_sub_one, Nat.sub_zero, Nat.mul_one, shiftP, shiftT, shiftC, shiftL, shiftB, newIds, idsOfT, List.zipIdx_cons, List.zipIdx_nil, ht, ta, da, g1])
    | (with_reducible refine hK _ ?_; clear hK K)
    | (with_reducible refine askG.mk (fun hg => ?_) (fun hg => ?_) <;> (try simp only [hcS] at hg) <;> (try first | contradiction | (exfalso; omega)))
    | ((with_reducible refine And.intro ?_ ?_); focus (first | (with_reducible show pairsOk _ _ = true; kernel_rfl) | omega | (with_reducible assumption) | kernel_rfl | (exact bytesE_len _) | (exact iE_one _) | (exact iE_allP _) | (exact bytesE_allP _) | (exact rowsE_len _) | (exact rowsE_allP _) | ((simp [allP_nil, allP_cons, persL]; done)) | ((simp [byV]; done)) | (simp; done) | (simp; omega)))
    | ((with_reducible first | show inBlockS _ _ _ _ | show thenS _ _ _ _); simp only [inBlockS, thenS, reduceIte, Nat.reduceEqDiff]))
      all_goals (refine ⟨_, [], rfl, ⟨rfl, ?_, ?_, ?_⟩⟩ <;> simp [go_sem, Nat.add_sub_cancel, Nat.add_one_sub_one, Nat.sub_zero, Nat.mul_one, finP, finPs, viewP, viewPs, finT, finC, finCs, finL, finLs, finBs, viewOk, viewsOk, persL, inT, inC, inCs, inL, inLs, ndB, allP_nil, allP_cons, allP_append])
  · have F1 := frFew_pc key f [] false (by simp [h1])
    clear h1 hf
    obtain ⟨fm, tw, ⟨ep, ro, ch⟩, kd, sq, bd⟩ := f
    simp only [frmT, frmC, zeroF] at *
    refine PC.of_body Tryd.func7 rfl ?_
    intro Γ _ _
    simp only [Tryd.ntmps7, List.length_cons, List.length_nil, Nat.reduceAdd, Nat.reduceSub, List.replicate_succ, List.replicate_zero, List.cons_append, List.nil_append]
    repeat' (first
    | (with_reducible first | refine AW.seq ?_ | refine AW.block ?_ | refine AW.ret ?_ | refine AW.skip ?_ | refine AW.exit ?_)
    | ((refine AW.cond (by rfl) (fun hc => ?_) (fun hc => ?_)) <;> (try simp only [hcS] at hc) <;> (try first | contradiction | (exfalso; omega)))
    | ((refine AW.condB (by rfl) (fun hc => ?_) (fun hc => ?_)))
    | ((first | (refine aCall.pers (CL) fnOk9 ?_ ?_ ?_ ?_; (focus rfl); (focus rfl); (focus (simp [persT, persL, ht, ta, da, bC_rows]; done))) | (refine aCall.wk (F1) fnOk10 ?_ ?_ ?_ ?_; (focus rfl); (focus (simp [wkTs, wkT, wkLs, wkL, isNilSl, St.ev, evalT, ht, ta, da, bC_rows]; done)); (focus (simp [persT, persL, St.ev, evalT, ht, ta, da, bC_rows]; done))) | (with_reducible refine AW.regionK mo (by kernel_rfl) ?_; intro K hK) | (with_reducible refine aSliceO.l ?_) | (with_reducible refine aBuildO.l ?_) | (with_reducible refine aStoreO.l ?_)); simp (maxSteps := 2000000) only [↓askG_tt, ↓askG_ff, ↓askG_tf, ↓askG_ft, ↓AOp, ↓aBin, ↓aUn, ↓aConv, ↓aAlloc, ↓aBox, ↓aBuild, ↓aLoad, ↓aStore, ↓aNil, ↓aFieldAddr, ↓aField, ↓aExtract, ↓aIndexAddr, ↓aIndex, ↓aSlice, ↓aMake, ↓aBuildSlice, ↓aFrz, ↓aLen, ↓aAppend, ↓aCopy, Nat.reduceAdd, Nat.reduceSub, Nat.reduceMul, Nat.reduceLT, Nat.reduceLeDiff, Nat.reduceEqDiff, Int.reduceToNat, Int.reduceBEq, Int.reduceBNe, Int.reduceEq, Int.reduceNe, Int.reduceNeg, Int.reduceLE, Int.reduceLT, reduceIte, reduceCtorEq, go_sem, Nat.add_sub_cancel, Nat.add_one_sub_one, Nat.sub_zero, Nat.mul_one, shiftP, shiftT, shiftC, shiftL, shiftB, newIds, idsOfT, List.zipIdx_cons, List.zipIdx_nil, ht, ta, da, bC_rows])
    | (with_reducible refine hK _ ?_; clear hK K)
    | (with_reducible refine askG.mk (fun hg => ?_) (fun hg => ?_) <;> (try simp only [hcS] at hg) <;> (try first | contradiction | (exfalso; omega)))
    | ((with_reducible refine And.intro ?_ ?_); focus (first | (with_reducible show pairsOk _ _ = true; kernel_rfl) | omega | (with_reducible assumption) | kernel_rfl | (exact bytesE_len _) | (exact iE_one _) | (exact iE_allP _) | (exact bytesE_allP _) | (exact rowsE_len _) | (exact rowsE_allP _) | ((simp [allP_nil, allP_cons, persL]; done)) | ((simp [byV]; done)) | (simp; done) | (simp; omega)))
    | ((with_reducible first | show inBlockS _ _ _ _ | show thenS _ _ _ _); simp only [inBlockS, thenS, reduceIte, Nat.reduceEqDiff]))
    all_goals (refine ⟨_, [], rfl, ⟨rfl, ?_, ?_, ?_⟩⟩ <;> simp [go_sem, Nat.add_sub_cancel, Nat.add_one_sub_one, Nat.sub_zero, Nat.mul_one, finP, finPs, viewP, viewPs, finT, finC, finCs, finL, finLs, finBs, viewOk, viewsOk, persL, inT, inC, inCs, inL, inLs, ndB, allP_nil, allP_cons, allP_append])
theorem walk_FrameTag (W : World) (hG : Globs (Cx (fun _ => True) W.heap.size) h0 μ0 W) (v0 v1 v2 : Value) (o0 : OpnR W 22 v0) (o1 : OpnR W 28 v1) (o2 : OpnR W 42 v2) :
    Calls Tryd.prog 7 #[v0, v1, v2] W fun e w' => e = .returned (.bool true) ∧ Below W.heap.size W w' := by
  obtain ⟨key, h0, r0⟩ := o0.byte_s
  obtain ⟨f, h1, r1⟩ := o1.frm
  obtain ⟨tg, h2, r2⟩ := o2.b32
  refine law_ofG (frameTag_pc key f tg h1 h2) rfl (fun i t hi => ?_) hG
  rcases i with _ | _ | _ | i
  · cases hi; exact r0
  · cases hi; exact r1
  · cases hi; exact r2
  · cases hi
end Go.Proofs.YtiifcgaililllaaDoor
