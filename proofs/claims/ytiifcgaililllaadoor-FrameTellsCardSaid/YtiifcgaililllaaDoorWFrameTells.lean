/- The walk of the law FrameTells. -/
import Derived.Test.YtiifcgaililllaaDoorPwF4
namespace Go.Proofs.YtiifcgaililllaaDoor
set_option linter.unusedSimpArgs false
set_option linter.unusedVariables false
open Go Go.RowKit
attribute [local congr] AW_congr AOs_congr aCall_congr aCall1_congr aSem_congr aSliceO_congr aBuildO_congr aStoreO_congr
attribute [local go_sem] uC_own uC_ids uC_shift uC_frz uC_length tabK_uC ub_v bytes_set bytesE_one1 bytesE_consr bytesE_append bytesE_drop bytesE_take rowsE_length rowsE_get Option.map_map bytesE_length bytesE_get shiftE_bytes shiftE_rows exBytesE str_beq bytesE_take_self List.take_length
set_option maxRecDepth 100000

attribute [local simp] leEs_bytes leEs_iE iE_allP
set_option maxHeartbeats 4000000 in
theorem frameTells_pc (key : List UInt8) (f g : Frm) (hf : FrmB f) (hg : FrmB g) : PC Tryd.prog 3 [bytesT key, frmT f, frmT g] [] (boolT true) := by
  have CL := live_pc
  by_cases h1 : FewF key f []
  · have F1 := frFew_pc key f [] true (by simp [h1])
    by_cases h2 : FewF [] g []
    · have F2 := frFew_pc [] g [] true (by simp [h2])
      obtain ⟨X, e, hc, _, _, P1, P2⟩ := frPut_ex key f (by have := h1.1; omega) hf
      have K1 := frCheck_pc f e hc
      have K2 := refFrCheck_pc f e hc
      have SX := same_pc X X
      obtain ⟨r, hr⟩ : ∃ r : Bool, r = true ↔ f = g := by
        by_cases q : f = g
        · exact ⟨true, by simp [q]⟩
        · exact ⟨false, by simp [q]⟩
      have S1 := frSame_pc f g r hr (by have := h1.2.2.1; omega) (by have := h2.2.2.1; omega)
      have S2 := refFrSame_pc f g r hr (by have := h1.2.2.1; omega) (by have := h2.2.2.1; omega)
      have ee : (e == e) = true := by simp
      have rr : (r == r) = true := by simp
      clear hc hr h1 h2 hf hg
      obtain ⟨fm, tw, ⟨ep, ro, ch⟩, kd, sq, bd⟩ := f
      obtain ⟨fm2, tw2, ⟨ep2, ro2, ch2⟩, kd2, sq2, bd2⟩ := g
      simp only [frmT, frmC] at *
      refine PC.of_body Tryd.func3 rfl ?_
      intro Γ _ _
      simp only [Tryd.ntmps3, List.length_cons, List.length_nil, Nat.reduceAdd, Nat.reduceSub, List.replicate_succ, List.replicate_zero, List.cons_append, List.nil_append]
      repeat' (first
    | (with_reducible first | refine AW.seq ?_ | refine AW.block ?_ | refine AW.ret ?_ | refine AW.skip ?_ | refine AW.exit ?_)
    | ((refine AW.cond (by rfl) (fun hc => ?_) (fun hc => ?_)) <;> (try simp only [hcS] at hc) <;> (try first | contradiction | (exfalso; omega)))
    | ((refine AW.condB (by rfl) (fun hc => ?_) (fun hc => ?_)))
    | ((first | (refine aCall.pers (CL) fnOk9 ?_ ?_ ?_ ?_; (focus rfl); (focus rfl); (focus (simp [persT, persL, ee, rr]; done))) | (refine aCall.wk (F1) fnOk10 ?_ ?_ ?_ ?_; (focus rfl); (focus (simp [wkTs, wkT, wkLs, wkL, isNilSl, St.ev, evalT, ee, rr]; done)); (focus (simp [persT, persL, St.ev, evalT, ee, rr]; done))) | (refine aCall.wk (F2) fnOk10 ?_ ?_ ?_ ?_; (focus rfl); (focus (simp [wkTs, wkT, wkLs, wkL, isNilSl, St.ev, evalT, ee, rr]; done)); (focus (simp [persT, persL, St.ev, evalT, ee, rr]; done))) | (refine aCall.pers (P1) fnOk11 ?_ ?_ ?_ ?_; (focus rfl); (focus rfl); (focus (simp [persT, persL, ee, rr]; done))) | (refine aCall.pers (P2) fnOk12 ?_ ?_ ?_ ?_; (focus rfl); (focus rfl); (focus (simp [persT, persL, ee, rr]; done))) | (refine aCall.pers (K1) fnOk13 ?_ ?_ ?_ ?_; (focus rfl); (focus rfl); (focus (simp [persT, persL, ee, rr]; done))) | (refine aCall.pers (K2) fnOk14 ?_ ?_ ?_ ?_; (focus rfl); (focus rfl); (focus (simp [persT, persL, ee, rr]; done))) | (refine aCall.pers (SX) fnOk15 ?_ ?_ ?_ ?_; (focus rfl); (focus rfl); (focus (simp [persT, persL, ee, rr]; done))) | (refine aCall.pers (S1) fnOk16 ?_ ?_ ?_ ?_; (focus rfl); (focus rfl); (focus (simp [persT, persL, ee, rr]; done))) | (refine aCall.pers (S2) fnOk17 ?_ ?_ ?_ ?_; (focus rfl); (focus rfl); (focus (simp [persT, persL, ee, rr]; done))) | (with_reducible refine AW.regionK mo (by kernel_rfl) ?_; intro K hK) | (with_reducible refine aSliceO.l ?_) | (with_reducible refine aBuildO.l ?_) | (with_reducible refine aStoreO.l ?_)); simp (maxSteps := 2000000) only [↓askG_tt, ↓askG_ff, ↓askG_tf, ↓askG_ft, ↓AOp, ↓aBin, ↓aUn, ↓aConv, ↓aAlloc, ↓aBox, ↓aBuild, ↓aLoad, ↓aStore, ↓aNil, ↓aFieldAddr, ↓aField, ↓aExtract, ↓aIndexAddr, ↓aIndex, ↓aSlice, ↓aMake, ↓aBuildSlice, ↓aFrz, ↓aLen, ↓aAppend, ↓aCopy, Nat.reduceAdd, Nat.reduceSub, Nat.reduceMul, Nat.reduceLT, Nat.reduceLeDiff, Nat.reduceEqDiff, Int.reduceToNat, Int.reduceBEq, Int.reduceBNe, Int.reduceEq, Int.reduceNe, Int.reduceNeg, Int.reduceLE, Int.reduceLT, reduceIte, reduceCtorEq, go_sem, Nat.add_sub_cancel, Nat.add_one_sub_one, Nat.sub_zero, Nat.mul_one, shiftP, shiftT, shiftC, shiftL, shiftB, newIds, idsOfT, List.zipIdx_cons, List.zipIdx_nil, ee, rr])
    | (with_reducible refine hK _ ?_; clear hK K)
    | (with_reducible refine askG.mk (fun hg => ?_) (fun hg => ?_) <;> (try simp only [hcS] at hg) <;> (try first | contradiction | (exfalso; omega)))
    | ((with_reducible refine And.intro ?_ ?_); focus (first | (with_reducible show pairsOk _ _ = true; kernel_rfl) | omega | (with_reducible assumption) | kernel_rfl | (exact bytesE_len _) | (exact iE_one _) | (exact iE_allP _) | (exact bytesE_allP _) | (exact rowsE_len _) | (exact rowsE_allP _) | ((simp [allP_nil, allP_cons, persL]; done)) | ((simp [byV]; done)) | (simp; done) | (simp; omega)))
    | ((with_reducible first | show inBlockS _ _ _ _ | show thenS _ _ _ _); simp only [inBlockS, thenS, reduceIte, Nat.reduceEqDiff]))
      all_goals (refine ⟨_, [], rfl, ⟨rfl, ?_, ?_, ?_⟩⟩ <;> simp [go_sem, Nat.add_sub_cancel, Nat.add_one_sub_one, Nat.sub_zero, Nat.mul_one, finP, finPs, viewP, viewPs, finT, finC, finCs, finL, finLs, finBs, viewOk, viewsOk, persL, inT, inC, inCs, inL, inLs, ndB, allP_nil, allP_cons, allP_append])
    · have F2 := frFew_pc [] g [] false (by simp [h2])
      clear h1 h2 hf hg
      obtain ⟨fm, tw, ⟨ep, ro, ch⟩, kd, sq, bd⟩ := f
      obtain ⟨fm2, tw2, ⟨ep2, ro2, ch2⟩, kd2, sq2, bd2⟩ := g
      simp only [frmT, frmC] at *
      refine PC.of_body Tryd.func3 rfl ?_
      intro Γ _ _
      simp only [Tryd.ntmps3, List.length_cons, List.length_nil, Nat.reduceAdd, Nat.reduceSub, List.replicate_succ, List.replicate_zero, List.cons_append, List.nil_append]
      repeat' (first
    | (with_reducible first | refine AW.seq ?_ | refine AW.block ?_ | refine AW.ret ?_ | refine AW.skip ?_ | refine AW.exit ?_)
    | ((refine AW.cond (by rfl) (fun hc => ?_) (fun hc => ?_)) <;> (try simp only [hcS] at hc) <;> (try first | contradiction | (exfalso; omega)))
    | ((refine AW.condB (by rfl) (fun hc => ?_) (fun hc => ?_)))
    | ((first | (refine aCall.pers (CL) fnOk9 ?_ ?_ ?_ ?_; (focus rfl); (focus rfl); (focus (simp [persT, persL]; done))) | (refine aCall.wk (F1) fnOk10 ?_ ?_ ?_ ?_; (focus rfl); (focus (simp [wkTs, wkT, wkLs, wkL, isNilSl, St.ev, evalT]; done)); (focus (simp [persT, persL, St.ev, evalT]; done))) | (refine aCall.wk (F2) fnOk10 ?_ ?_ ?_ ?_; (focus rfl); (focus (simp [wkTs, wkT, wkLs, wkL, isNilSl, St.ev, evalT]; done)); (focus (simp [persT, persL, St.ev, evalT]; done))) | (with_reducible refine AW.regionK mo (by kernel_rfl) ?_; intro K hK) | (with_reducible refine aSliceO.l ?_) | (with_reducible refine aBuildO.l ?_) | (with_reducible refine aStoreO.l ?_)); simp (maxSteps := 2000000) only [↓askG_tt, ↓askG_ff, ↓askG_tf, ↓askG_ft, ↓AOp, ↓aBin, ↓aUn, ↓aConv, ↓aAlloc, ↓aBox, ↓aBuild, ↓aLoad, ↓aStore, ↓aNil, ↓aFieldAddr, ↓aField, ↓aExtract, ↓aIndexAddr, ↓aIndex, ↓aSlice, ↓aMake, ↓aBuildSlice, ↓aFrz, ↓aLen, ↓aAppend, ↓aCopy, Nat.reduceAdd, Nat.reduceSub, Nat.reduceMul, Nat.reduceLT, Nat.reduceLeDiff, Nat.reduceEqDiff, Int.reduceToNat, Int.reduceBEq, Int.reduceBNe, Int.reduceEq, Int.reduceNe, Int.reduceNeg, Int.reduceLE, Int.reduceLT, reduceIte, reduceCtorEq, go_sem, Nat.add_sub_cancel, Nat.add_one_sub_one, Nat.sub_zero, Nat.mul_one, shiftP, shiftT, shiftC, shiftL, shiftB, newIds, idsOfT, List.zipIdx_cons, List.zipIdx_nil])
    | (with_reducible refine hK _ ?_; clear hK K)
    | (with_reducible refine askG.mk (fun hg => ?_) (fun hg => ?_) <;> (try simp only [hcS] at hg) <;> (try first | contradiction | (exfalso; omega)))
    | ((with_reducible refine And.intro ?_ ?_); focus (first | (with_reducible show pairsOk _ _ = true; kernel_rfl) | omega | (with_reducible assumption) | kernel_rfl | (exact bytesE_len _) | (exact iE_one _) | (exact iE_allP _) | (exact bytesE_allP _) | (exact rowsE_len _) | (exact rowsE_allP _) | ((simp [allP_nil, allP_cons, persL]; done)) | ((simp [byV]; done)) | (simp; done) | (simp; omega)))
    | ((with_reducible first | show inBlockS _ _ _ _ | show thenS _ _ _ _); simp only [inBlockS, thenS, reduceIte, Nat.reduceEqDiff]))
      all_goals (refine ⟨_, [], rfl, ⟨rfl, ?_, ?_, ?_⟩⟩ <;> simp [go_sem, Nat.add_sub_cancel, Nat.add_one_sub_one, Nat.sub_zero, Nat.mul_one, finP, finPs, viewP, viewPs, finT, finC, finCs, finL, finLs, finBs, viewOk, viewsOk, persL, inT, inC, inCs, inL, inLs, ndB, allP_nil, allP_cons, allP_append])
  · have F1 := frFew_pc key f [] false (by simp [h1])
    clear h1 hf hg
    obtain ⟨fm, tw, ⟨ep, ro, ch⟩, kd, sq, bd⟩ := f
    obtain ⟨fm2, tw2, ⟨ep2, ro2, ch2⟩, kd2, sq2, bd2⟩ := g
    simp only [frmT, frmC] at *
    refine PC.of_body Tryd.func3 rfl ?_
    intro Γ _ _
    simp only [Tryd.ntmps3, List.length_cons, List.length_nil, Nat.reduceAdd, Nat.reduceSub, List.replicate_succ, List.replicate_zero, List.cons_append, List.nil_append]
    repeat' (first
    | (with_reducible first | refine AW.seq ?_ | refine AW.block ?_ | refine AW.ret ?_ | refine AW.skip ?_ | refine AW.exit ?_)
    | ((refine AW.cond (by rfl) (fun hc => ?_) (fun hc => ?_)) <;> (try simp only [hcS] at hc) <;> (try first | contradiction | (exfalso; omega)))
    | ((refine AW.condB (by rfl) (fun hc => ?_) (fun hc => ?_)))
    | ((first | (refine aCall.pers (CL) fnOk9 ?_ ?_ ?_ ?_; (focus rfl); (focus rfl); (focus (simp [persT, persL]; done))) | (refine aCall.wk (F1) fnOk10 ?_ ?_ ?_ ?_; (focus rfl); (focus (simp [wkTs, wkT, wkLs, wkL, isNilSl, St.ev, evalT]; done)); (focus (simp [persT, persL, St.ev, evalT]; done))) | (with_reducible refine AW.regionK mo (by kernel_rfl) ?_; intro K hK) | (with_reducible refine aSliceO.l ?_) | (with_reducible refine aBuildO.l ?_) | (with_reducible refine aStoreO.l ?_)); simp (maxSteps := 2000000) only [↓askG_tt, ↓askG_ff, ↓askG_tf, ↓askG_ft, ↓AOp, ↓aBin, ↓aUn, ↓aConv, ↓aAlloc, ↓aBox, ↓aBuild, ↓aLoad, ↓aStore, ↓aNil, ↓aFieldAddr, ↓aField, ↓aExtract, ↓aIndexAddr, ↓aIndex, ↓aSlice, ↓aMake, ↓aBuildSlice, ↓aFrz, ↓aLen, ↓aAppend, ↓aCopy, Nat.reduceAdd, Nat.reduceSub, Nat.reduceMul, Nat.reduceLT, Nat.reduceLeDiff, Nat.reduceEqDiff, Int.reduceToNat, Int.reduceBEq, Int.reduceBNe, Int.reduceEq, Int.reduceNe, Int.reduceNeg, Int.reduceLE, Int.reduceLT, reduceIte, reduceCtorEq, go_sem, Nat.add_sub_cancel, Nat.add_one_sub_one, Nat.sub_zero, Nat.mul_one, shiftP, shiftT, shiftC, shiftL, shiftB, newIds, idsOfT, List.zipIdx_cons, List.zipIdx_nil])
    | (with_reducible refine hK _ ?_; clear hK K)
    | (with_reducible refine askG.mk (fun hg => ?_) (fun hg => ?_) <;> (try simp only [hcS] at hg) <;> (try first | contradiction | (exfalso; omega)))
    | ((with_reducible refine And.intro ?_ ?_); focus (first | (with_reducible show pairsOk _ _ = true; kernel_rfl) | omega | (with_reducible assumption) | kernel_rfl | (exact bytesE_len _) | (exact iE_one _) | (exact iE_allP _) | (exact bytesE_allP _) | (exact rowsE_len _) | (exact rowsE_allP _) | ((simp [allP_nil, allP_cons, persL]; done)) | ((simp [byV]; done)) | (simp; done) | (simp; omega)))
    | ((with_reducible first | show inBlockS _ _ _ _ | show thenS _ _ _ _); simp only [inBlockS, thenS, reduceIte, Nat.reduceEqDiff]))
    all_goals (refine ⟨_, [], rfl, ⟨rfl, ?_, ?_, ?_⟩⟩ <;> simp [go_sem, Nat.add_sub_cancel, Nat.add_one_sub_one, Nat.sub_zero, Nat.mul_one, finP, finPs, viewP, viewPs, finT, finC, finCs, finL, finLs, finBs, viewOk, viewsOk, persL, inT, inC, inCs, inL, inLs, ndB, allP_nil, allP_cons, allP_append])
theorem walk_FrameTells (W : World) (hG : Globs (Cx (fun _ => True) W.heap.size) h0 μ0 W) (v0 v1 v2 : Value) (o0 : OpnR W 22 v0) (o1 : OpnR W 28 v1) (o2 : OpnR W 28 v2) :
    Calls Tryd.prog 3 #[v0, v1, v2] W fun e w' => e = .returned (.bool true) ∧ Below W.heap.size W w' := by
  obtain ⟨key, h0, r0⟩ := o0.byte_s
  obtain ⟨f, h1, r1⟩ := o1.frm
  obtain ⟨g, h2, r2⟩ := o2.frm
  refine law_ofG (frameTells_pc key f g h1 h2) rfl (fun i t hi => ?_) hG
  rcases i with _ | _ | _ | i
  · cases hi; exact r0
  · cases hi; exact r1
  · cases hi; exact r2
  · cases hi
end Go.Proofs.YtiifcgaililllaaDoor
