/- PwFz, PwFe, PwFf, PwFp, PwFg, PwFh. -/
import Derived.Test.YtiifcgaililllaaDoorPwX
import Derived.Test.YtiifcgaililllaaDoorPwP
import Derived.Test.YtiifcgaililllaaDoorPwF3
/- A row of bytes that is the call's own, read for good from here on. -/
namespace Go.Proofs.YtiifcgaililllaaDoor
set_option linter.unusedSimpArgs false
set_option linter.unusedVariables false
open Go Go.RowKit
theorem AW.frzB {Γ : Ctx} {P : Program} {c : Code} {Q : Exit → St → Prop} {σ : St} (id : Nat) (b : List UInt8) {t : TypeId} (hab : σ.bl[id]? = some (some ⟨t, 1, bytesE b⟩)) (h : AW Γ P c Q ⟨σ.tm.map (frzT id (bytesE b)), σ.bl.set id none⟩) : AW Γ P c Q σ := by
  intro w0 a w ⟨μ, E, I, F, M⟩
  have hlt : id < σ.bl.length := (List.getElem?_eq_some_iff.1 hab).1
  have hi : σ.h id = some (some ⟨t, 1, bytesE b⟩) := hab
  obtain ⟨E1, I1⟩ := killed I hi
  have hst : hOf (σ.bl.set id none) = upd σ.h [(id, none)] := by
    have := hOf_step (bl := σ.bl) (id := id) (x := none) (Nat.le_of_lt hlt)
    rwa [if_pos hlt] at this
  refine h w0 a w ⟨μ, ?_, ?_, ⟨⟨?_, ?_⟩, fun i t' ht => ?_⟩, M⟩
  · show Ev Γ w0 (hOf (σ.bl.set id none)) μ w
    rw [hst]; exact E.trans E1
  · show Inv Γ (hOf (σ.bl.set id none)) μ w
    rw [hst]; exact I1
  · simpa using F.1.1
  · show Globs Γ (hOf (σ.bl.set id none)) μ w
    rw [hst]; exact F.1.2.evo E1
  · show RT Γ (hOf (σ.bl.set id none)) μ w t' _
    rw [hst]
    simp only [List.getElem?_map] at ht
    cases h0 : σ.tm[i]? with
    | none => rw [h0] at ht; cases ht
    | some t0 =>
      rw [h0] at ht
      simp only [Option.map_some, Option.some.injEq] at ht
      subst ht
      exact frz_RT (ab := ⟨t, 1, bytesE b⟩) I hi (bytesE_allP _) (F.2 i t0 h0)
end Go.Proofs.YtiifcgaililllaaDoor

/- frames: taken (the program). -/
namespace Go.Proofs.YtiifcgaililllaaDoor
set_option linter.unusedSimpArgs false
set_option linter.unusedVariables false
open Go Go.RowKit
attribute [local congr] AW_congr AOs_congr aCall_congr aCall1_congr aSem_congr aSliceO_congr aBuildO_congr aStoreO_congr
attribute [local go_sem] uC_own uC_ids uC_shift uC_frz uC_length tabK_uC ub_v bytes_set bytesE_one1 bytesE_consr bytesE_append bytesE_drop bytesE_take rowsE_length rowsE_get Option.map_map bytesE_length bytesE_get shiftE_bytes shiftE_rows exBytesE str_beq bytesE_take_self List.take_length
set_option maxRecDepth 100000

attribute [local simp] leEs_bytes leEs_iE iE_allP
/-- A frame's cells, its body a row of its own. -/
def frmO (f : Frm) : List L := [.sc (.int .i64 f.fm), .sc (.int .i64 f.tw), .sc (.int .u64 (f.st.ep : Int)), .sc (.int .u64 (f.st.ro : Int)), .sl (iE f.st.ch), .sc (.int .i64 f.kd), .sc (.int .i64 f.sq), .own 0 1 f.bd.length]
theorem PC.slF {P : Program} {g : FuncId} {vs : List T} {t : TypeId} {f : Frm} {v : Value} (h : PC P g vs [⟨t, 1, bytesE f.bd⟩] (.tup [.agg (frmO f), .leaf (.sc v)])) : PC P g vs [] (.tup [frmT f, .leaf (.sc v)]) := by
  refine h.weak [] ⟨rfl, ?_, ?_, ?_⟩ <;> simp [↓askG_tt, ↓askG_ff, ↓askG_tf, ↓askG_ft, ↓AOp, ↓aBin, ↓aUn, ↓aConv, ↓aAlloc, ↓aBox, ↓aBuild, ↓aLoad, ↓aStore, ↓aNil, ↓aFieldAddr, ↓aField, ↓aExtract, ↓aIndexAddr, ↓aIndex, ↓aSlice, ↓aMake, ↓aBuildSlice, ↓aFrz, ↓aLen, ↓aAppend, ↓aCopy, Nat.reduceAdd, Nat.reduceSub, Nat.reduceMul, Nat.reduceLT, Nat.reduceLeDiff, Nat.reduceEqDiff, Int.reduceToNat, Int.reduceBEq, Int.reduceBNe, Int.reduceEq, Int.reduceNe, Int.reduceNeg, Int.reduceLE, Int.reduceLT, reduceIte, reduceCtorEq, go_sem, Nat.add_sub_cancel, Nat.add_one_sub_one, Nat.sub_zero, Nat.mul_one, finP, finPs, viewP, viewPs, finT, finC, finCs, finL, finLs, finBs, viewOk, viewsOk, persL, inT, inC, inCs, inL, inLs, ndB, allP_nil, allP_cons, allP_append, rowsOf, bytesE_allP, iE_allP, frmO, frmC]
theorem stB_ok {b : List UInt8} (h : RdOk b) : okC (stB (b.drop 2) (mF b)).ch := h.2.2.2.2.2.1
theorem readGood_pc (b : List UInt8) (hb : b.length ≤ 60000) (h : RdOk b) : PC Tryd.prog 32 [bytesT b] [⟨5, 1, bytesE (frmB b).bd⟩] (.tup [.agg (frmO (frmB b)), boolT true]) := by
  have T := stTake_pc (b.drop 2) (mF b) _ (by have := h.1; simp; omega) rfl rfl (by simp; omega) _ _ 0 (.inl ⟨stB_ok h, rfl, rfl, rfl⟩)
  have K := frCheck_pc (frmB b) 0 (.inl ⟨h.2.2, by show ((restF b).drop 9).length ≤ 65536; simp [restF]; omega, rfl⟩)
  have R := readAll_pc b _ h.1 h.2.1 (by omega) rfl T 0 true rfl K
  have e : (frmB b).bd.length = (restF b).length - 9 := List.length_drop
  unfold frmO
  rw [e]
  exact R
theorem readBad_pc (b : List UInt8) (hb : b.length ≤ 60000) (h : ¬ RdOk b) : ∃ g : Frm, PC Tryd.prog 32 [bytesT b] [] (.tup [frmT g, boolT false]) := by
  by_cases h2 : b.length < 2
  · exact ⟨_, readShort_pc b h2⟩
  · by_cases hS : (b.drop 2).length < 17 ∨ (b.drop 2).length < 17 + ((b.drop 2).getD 16 0).toNat
    · exact ⟨_, readNone_pc b (by omega) 0 (stTakeShort_pc (b.drop 2) hS (by simp; omega))⟩
    · have hS2 : 17 + mF b ≤ (b.drop 2).length := by unfold mF; omega
      have hS3 : 19 + mF b ≤ b.length := by simp at hS2; omega
      by_cases hc : okC (stB (b.drop 2) (mF b)).ch
      · have T := stTake_pc (b.drop 2) (mF b) _ hS2 rfl rfl (by simp; omega) _ _ 0 (.inl ⟨hc, rfl, rfl, rfl⟩)
        by_cases h9 : b.length < 28 + mF b
        · exact ⟨_, readTail_pc b _ hS3 h9 (by omega) T⟩
        · by_cases hn : getN (((restF b).drop 5).take 4) = ((restF b).drop 9).length
          · have hF : ¬ okF (frmB b) := fun q => h ⟨by omega, hn, q⟩
            have K := frCheck_pc (frmB b) 1 (.inr (.inr ⟨hF, rfl⟩))
            have R := readAll_pc b _ (by omega) hn (by omega) rfl T 1 false rfl K
            have e : (frmB b).bd.length = (restF b).length - 9 := List.length_drop
            rw [← e] at R
            exact ⟨frmB b, PC.slF (f := frmB b) R⟩
          · exact ⟨_, readMany_pc b _ (by omega) hn (by omega) T⟩
      · have T := stTake_pc (b.drop 2) (mF b) _ hS2 rfl rfl (by simp; omega) _ _ 3 (.inr ⟨hc, rfl, rfl, rfl⟩)
        exact ⟨_, readNone_pc b (by omega) 0 T⟩
def allF (b : List UInt8) : List UInt8 := b.take (b.length - 32)
def endF (b : List UInt8) : List UInt8 := b.drop (b.length - 32)
def TkOk (key b : List UInt8) : Prop := 32 ≤ b.length ∧ RdOk (allF b) ∧ endF b = macTag key (allF b)
theorem frTakeForm_pc (key b : List UInt8) (hb : b.length ≤ 60000) (h : ¬ (32 ≤ b.length ∧ RdOk (allF b))) : PC Tryd.prog 18 [bytesT key, bytesT b] [] (.tup [frmT zeroF, intT 3]) := by
  by_cases h1 : 32 ≤ b.length
  · obtain ⟨⟨fm, tw, ⟨ep, ro, ch⟩, kd, sq, bd⟩, R⟩ := readBad_pc (allF b) (by simp [allF]; omega) (fun q => h ⟨h1, q⟩)
    have g0 : decide ((b.length : Int) < 32) = false := by simp; omega
    have w1 : IntKind.i64.wrap ((b.length : Int) - 32) = ((b.length - 32 : Nat) : Int) := by rw [wrap_i64 _ (by omega)]; omega
    have t1 : List.take (b.length - 32) b = allF b := rfl
    have t2 : List.take (b.length - (b.length - 32)) (List.drop (b.length - 32) b) = endF b := List.take_of_length_le (by simp)
    have l1 : (allF b).length = b.length - 32 := by simp [allF]
    simp only [frmT, frmC, zeroF] at *
    refine PC.of_body Tryd.func18 rfl ?_
    intro Γ _ _
    simp only [Tryd.ntmps18, List.length_cons, List.length_nil, Nat.reduceAdd, Nat.reduceSub, List.replicate_succ, List.replicate_zero, List.cons_append, List.nil_append]
    repeat' (first
    | (with_reducible first | refine AW.seq ?_ | refine AW.block ?_ | refine AW.ret ?_ | refine AW.skip ?_ | refine AW.exit ?_)
    | ((refine AW.cond (by rfl) (fun hc => ?_) (fun hc => ?_)) <;> (try simp only [hcS] at hc) <;> (try first | contradiction | (exfalso; omega)))
    | ((refine AW.condB (by rfl) (fun hc => ?_) (fun hc => ?_)))
    | ((first | (refine aCall.pers (R) fnOk32 ?_ ?_ ?_ ?_; (focus rfl); (focus rfl); (focus (simp [persT, persL, g0, w1, t1, t2]; done))) | (with_reducible refine AW.regionK mo (by kernel_rfl) ?_; intro K hK) | (with_reducible refine aSliceO.l ?_) | (with_reducible refine aBuildO.l ?_) | (with_reducible refine aStoreO.l ?_)); simp (maxSteps := 2000000) only [↓askG_tt, ↓askG_ff, ↓askG_tf, ↓askG_ft, ↓AOp, ↓aBin, ↓aUn, ↓aConv, ↓aAlloc, ↓aBox, ↓aBuild, ↓aLoad, ↓aStore, ↓aNil, ↓aFieldAddr, ↓aField, ↓aExtract, ↓aIndexAddr, ↓aIndex, ↓aSlice, ↓aMake, ↓aBuildSlice, ↓aFrz, ↓aLen, ↓aAppend, ↓aCopy, Nat.reduceAdd, Nat.reduceSub, Nat.reduceMul, Nat.reduceLT, Nat.reduceLeDiff, Nat.reduceEqDiff, Int.reduceToNat, Int.reduceBEq, Int.reduceBNe, Int.reduceEq, Int.reduceNe, Int.reduceNeg, Int.reduceLE, Int.reduceLT, reduceIte, reduceCtorEq, go_sem, Nat.add_sub_cancel, Nat.add_one_sub_one, Nat.sub_zero, Nat.mul_one, shiftP, shiftT, shiftC, shiftL, shiftB, newIds, idsOfT, List.zipIdx_cons, List.zipIdx_nil, g0, w1, t1, t2])
    | (with_reducible refine hK _ ?_; clear hK K)
    | (with_reducible refine askG.mk (fun hg => ?_) (fun hg => ?_) <;> (try simp only [hcS] at hg) <;> (try first | contradiction | (exfalso; omega)))
    | ((with_reducible refine And.intro ?_ ?_); focus (first | (with_reducible show pairsOk _ _ = true; kernel_rfl) | omega | (with_reducible assumption) | kernel_rfl | (exact bytesE_len _) | (exact iE_one _) | (exact iE_allP _) | (exact bytesE_allP _) | (exact rowsE_len _) | (exact rowsE_allP _) | ((simp [allP_nil, allP_cons, persL]; done)) | ((simp [byV]; done)) | (simp; done) | (simp; omega)))
    | ((with_reducible first | show inBlockS _ _ _ _ | show thenS _ _ _ _); simp only [inBlockS, thenS, reduceIte, Nat.reduceEqDiff]))
    all_goals (refine ⟨_, [], rfl, ⟨rfl, ?_, ?_, ?_⟩⟩ <;> simp [go_sem, Nat.add_sub_cancel, Nat.add_one_sub_one, Nat.sub_zero, Nat.mul_one, finP, finPs, viewP, viewPs, finT, finC, finCs, finL, finLs, finBs, viewOk, viewsOk, persL, inT, inC, inCs, inL, inLs, ndB, allP_nil, allP_cons, allP_append])
  · have g0 : decide ((b.length : Int) < 32) = true := by simp; omega
    simp only [frmT, frmC, zeroF] at *
    refine PC.of_body Tryd.func18 rfl ?_
    intro Γ _ _
    simp only [Tryd.ntmps18, List.length_cons, List.length_nil, Nat.reduceAdd, Nat.reduceSub, List.replicate_succ, List.replicate_zero, List.cons_append, List.nil_append]
    repeat' (first
    | (with_reducible first | refine AW.seq ?_ | refine AW.block ?_ | refine AW.ret ?_ | refine AW.skip ?_ | refine AW.exit ?_)
    | ((refine AW.cond (by rfl) (fun hc => ?_) (fun hc => ?_)) <;> (try simp only [hcS] at hc) <;> (try first | contradiction | (exfalso; omega)))
    | ((refine AW.condB (by rfl) (fun hc => ?_) (fun hc => ?_)))
    | ((first | (with_reducible refine AW.regionK mo (by kernel_rfl) ?_; intro K hK) | (with_reducible refine aSliceO.l ?_) | (with_reducible refine aBuildO.l ?_) | (with_reducible refine aStoreO.l ?_)); simp (maxSteps := 2000000) only [↓askG_tt, ↓askG_ff, ↓askG_tf, ↓askG_ft, ↓AOp, ↓aBin, ↓aUn, ↓aConv, ↓aAlloc, ↓aBox, ↓aBuild, ↓aLoad, ↓aStore, ↓aNil, ↓aFieldAddr, ↓aField, ↓aExtract, ↓aIndexAddr, ↓aIndex, ↓aSlice, ↓aMake, ↓aBuildSlice, ↓aFrz, ↓aLen, ↓aAppend, ↓aCopy, Nat.reduceAdd, Nat.reduceSub, Nat.reduceMul, Nat.reduceLT, Nat.reduceLeDiff, Nat.reduceEqDiff, Int.reduceToNat, Int.reduceBEq, Int.reduceBNe, Int.reduceEq, Int.reduceNe, Int.reduceNeg, Int.reduceLE, Int.reduceLT, reduceIte, reduceCtorEq, go_sem, Nat.add_sub_cancel, Nat.add_one_sub_one, Nat.sub_zero, Nat.mul_one, shiftP, shiftT, shiftC, shiftL, shiftB, newIds, idsOfT, List.zipIdx_cons, List.zipIdx_nil, g0])
    | (with_reducible refine hK _ ?_; clear hK K)
    | (with_reducible refine askG.mk (fun hg => ?_) (fun hg => ?_) <;> (try simp only [hcS] at hg) <;> (try first | contradiction | (exfalso; omega)))
    | ((with_reducible refine And.intro ?_ ?_); focus (first | (with_reducible show pairsOk _ _ = true; kernel_rfl) | omega | (with_reducible assumption) | kernel_rfl | (exact bytesE_len _) | (exact iE_one _) | (exact iE_allP _) | (exact bytesE_allP _) | (exact rowsE_len _) | (exact rowsE_allP _) | ((simp [allP_nil, allP_cons, persL]; done)) | ((simp [byV]; done)) | (simp; done) | (simp; omega)))
    | ((with_reducible first | show inBlockS _ _ _ _ | show thenS _ _ _ _); simp only [inBlockS, thenS, reduceIte, Nat.reduceEqDiff]))
    all_goals (refine ⟨_, [], rfl, ⟨rfl, ?_, ?_, ?_⟩⟩ <;> simp [go_sem, Nat.add_sub_cancel, Nat.add_one_sub_one, Nat.sub_zero, Nat.mul_one, finP, finPs, viewP, viewPs, finT, finC, finCs, finL, finLs, finBs, viewOk, viewsOk, persL, inT, inC, inCs, inL, inLs, ndB, allP_nil, allP_cons, allP_append])
set_option maxHeartbeats 4000000 in
theorem frTakeTag_pc (key b : List UInt8) (hk : key.length ≤ 1000000) (hb : b.length ≤ 60000) (h1 : 32 ≤ b.length) (h2 : RdOk (allF b)) (h : endF b ≠ macTag key (allF b)) : PC Tryd.prog 18 [bytesT key, bytesT b] [] (.tup [frmT zeroF, intT 4]) := by
  have R := PC.slF (readGood_pc (allF b) (by simp [allF]; omega) h2)
  have C := check_pc key (allF b) (endF b) hk (by simp [allF]; omega)
  have hc : chkTag key (allF b) (endF b) = 4 := by unfold chkTag; exact if_neg h
  rw [hc] at C
  have g0 : decide ((b.length : Int) < 32) = false := by simp; omega
  have w1 : IntKind.i64.wrap ((b.length : Int) - 32) = ((b.length - 32 : Nat) : Int) := by rw [wrap_i64 _ (by omega)]; omega
  have t1 : List.take (b.length - 32) b = allF b := rfl
  have t2 : List.take (b.length - (b.length - 32)) (List.drop (b.length - 32) b) = endF b := List.take_of_length_le (by simp)
  have l1 : (allF b).length = b.length - 32 := by simp [allF]
  clear hc h h2
  generalize frmB (allF b) = f at *
  generalize allF b = a at *
  generalize endF b = d at *
  obtain ⟨fm, tw, ⟨ep, ro, ch⟩, kd, sq, bd⟩ := f
  simp only [frmT, frmC, zeroF] at *
  refine PC.of_body Tryd.func18 rfl ?_
  intro Γ _ _
  simp only [Tryd.ntmps18, List.length_cons, List.length_nil, Nat.reduceAdd, Nat.reduceSub, List.replicate_succ, List.replicate_zero, List.cons_append, List.nil_append]
  repeat' (first
    | (with_reducible first | refine AW.seq ?_ | refine AW.block ?_ | refine AW.ret ?_ | refine AW.skip ?_ | refine AW.exit ?_)
    | ((refine AW.cond (by rfl) (fun hc => ?_) (fun hc => ?_)) <;> (try simp only [hcS] at hc) <;> (try first | contradiction | (exfalso; omega)))
    | ((refine AW.condB (by rfl) (fun hc => ?_) (fun hc => ?_)))
    | ((first | (refine aCall.pers (R) fnOk32 ?_ ?_ ?_ ?_; (focus rfl); (focus rfl); (focus (simp [persT, persL, g0, w1, t1, t2]; done))) | (refine aCall.pers (C) fnOk33 ?_ ?_ ?_ ?_; (focus rfl); (focus rfl); (focus (simp [persT, persL, g0, w1, t1, t2]; done))) | (with_reducible refine AW.regionK mo (by kernel_rfl) ?_; intro K hK) | (with_reducible refine aSliceO.l ?_) | (with_reducible refine aBuildO.l ?_) | (with_reducible refine aStoreO.l ?_)); simp (maxSteps := 2000000) only [↓askG_tt, ↓askG_ff, ↓askG_tf, ↓askG_ft, ↓AOp, ↓aBin, ↓aUn, ↓aConv, ↓aAlloc, ↓aBox, ↓aBuild, ↓aLoad, ↓aStore, ↓aNil, ↓aFieldAddr, ↓aField, ↓aExtract, ↓aIndexAddr, ↓aIndex, ↓aSlice, ↓aMake, ↓aBuildSlice, ↓aFrz, ↓aLen, ↓aAppend, ↓aCopy, Nat.reduceAdd, Nat.reduceSub, Nat.reduceMul, Nat.reduceLT, Nat.reduceLeDiff, Nat.reduceEqDiff, Int.reduceToNat, Int.reduceBEq, Int.reduceBNe, Int.reduceEq, Int.reduceNe, Int.reduceNeg, Int.reduceLE, Int.reduceLT, reduceIte, reduceCtorEq, go_sem, Nat.add_sub_cancel, Nat.add_one_sub_one, Nat.sub_zero, Nat.mul_one, shiftP, shiftT, shiftC, shiftL, shiftB, newIds, idsOfT, List.zipIdx_cons, List.zipIdx_nil, g0, w1, t1, t2])
    | (with_reducible refine hK _ ?_; clear hK K)
    | (with_reducible refine askG.mk (fun hg => ?_) (fun hg => ?_) <;> (try simp only [hcS] at hg) <;> (try first | contradiction | (exfalso; omega)))
    | ((with_reducible refine And.intro ?_ ?_); focus (first | (with_reducible show pairsOk _ _ = true; kernel_rfl) | omega | (with_reducible assumption) | kernel_rfl | (exact bytesE_len _) | (exact iE_one _) | (exact iE_allP _) | (exact bytesE_allP _) | (exact rowsE_len _) | (exact rowsE_allP _) | ((simp [allP_nil, allP_cons, persL]; done)) | ((simp [byV]; done)) | (simp; done) | (simp; omega)))
    | ((with_reducible first | show inBlockS _ _ _ _ | show thenS _ _ _ _); simp only [inBlockS, thenS, reduceIte, Nat.reduceEqDiff]))
  all_goals (refine ⟨_, [], rfl, ⟨rfl, ?_, ?_, ?_⟩⟩ <;> simp [go_sem, Nat.add_sub_cancel, Nat.add_one_sub_one, Nat.sub_zero, Nat.mul_one, finP, finPs, viewP, viewPs, finT, finC, finCs, finL, finLs, finBs, viewOk, viewsOk, persL, inT, inC, inCs, inL, inLs, ndB, allP_nil, allP_cons, allP_append])
set_option maxHeartbeats 4000000 in
theorem frTake_pc (key b : List UInt8) (hk : key.length ≤ 1000000) (hb : b.length ≤ 60000) (h : TkOk key b) : PC Tryd.prog 18 [bytesT key, bytesT b] [⟨5, 1, bytesE (frmB (allF b)).bd⟩] (.tup [.agg (frmO (frmB (allF b))), intT 0]) := by
  obtain ⟨h1, h2, h⟩ := h
  have R := readGood_pc (allF b) (by simp [allF]; omega) h2
  have C := check_pc key (allF b) (endF b) hk (by simp [allF]; omega)
  have hc : chkTag key (allF b) (endF b) = 0 := by unfold chkTag; exact if_pos h
  rw [hc] at C
  have g0 : decide ((b.length : Int) < 32) = false := by simp; omega
  have w1 : IntKind.i64.wrap ((b.length : Int) - 32) = ((b.length - 32 : Nat) : Int) := by rw [wrap_i64 _ (by omega)]; omega
  have t1 : List.take (b.length - 32) b = allF b := rfl
  have t2 : List.take (b.length - (b.length - 32)) (List.drop (b.length - 32) b) = endF b := List.take_of_length_le (by simp)
  have l1 : (allF b).length = b.length - 32 := by simp [allF]
  clear hc h h2
  generalize frmB (allF b) = f at *
  generalize allF b = a at *
  generalize endF b = d at *
  obtain ⟨fm, tw, ⟨ep, ro, ch⟩, kd, sq, bd⟩ := f
  simp only [frmT, frmO, zeroF] at *
  refine PC.of_body Tryd.func18 rfl ?_
  intro Γ _ _
  simp only [Tryd.ntmps18, List.length_cons, List.length_nil, Nat.reduceAdd, Nat.reduceSub, List.replicate_succ, List.replicate_zero, List.cons_append, List.nil_append]
  repeat' (first
    | (with_reducible first | refine AW.seq ?_ | refine AW.block ?_ | refine AW.ret ?_ | refine AW.skip ?_ | refine AW.exit ?_)
    | ((refine AW.cond (by rfl) (fun hc => ?_) (fun hc => ?_)) <;> (try simp only [hcS] at hc) <;> (try first | contradiction | (exfalso; omega)))
    | ((refine AW.condB (by rfl) (fun hc => ?_) (fun hc => ?_)))
    | ((first | (refine aCall.pers (R) fnOk32 ?_ ?_ ?_ ?_; (focus rfl); (focus rfl); (focus (simp [persT, persL, g0, w1, t1, t2]; done))) | (refine aCall.pers (C) fnOk33 ?_ ?_ ?_ ?_; (focus rfl); (focus rfl); (focus (simp [persT, persL, g0, w1, t1, t2]; done))) | (with_reducible refine AW.regionK mo (by kernel_rfl) ?_; intro K hK) | (with_reducible refine aSliceO.l ?_) | (with_reducible refine aBuildO.l ?_) | (with_reducible refine aStoreO.l ?_)); simp (maxSteps := 2000000) only [↓askG_tt, ↓askG_ff, ↓askG_tf, ↓askG_ft, ↓AOp, ↓aBin, ↓aUn, ↓aConv, ↓aAlloc, ↓aBox, ↓aBuild, ↓aLoad, ↓aStore, ↓aNil, ↓aFieldAddr, ↓aField, ↓aExtract, ↓aIndexAddr, ↓aIndex, ↓aSlice, ↓aMake, ↓aBuildSlice, ↓aFrz, ↓aLen, ↓aAppend, ↓aCopy, Nat.reduceAdd, Nat.reduceSub, Nat.reduceMul, Nat.reduceLT, Nat.reduceLeDiff, Nat.reduceEqDiff, Int.reduceToNat, Int.reduceBEq, Int.reduceBNe, Int.reduceEq, Int.reduceNe, Int.reduceNeg, Int.reduceLE, Int.reduceLT, reduceIte, reduceCtorEq, go_sem, Nat.add_sub_cancel, Nat.add_one_sub_one, Nat.sub_zero, Nat.mul_one, shiftP, shiftT, shiftC, shiftL, shiftB, newIds, idsOfT, List.zipIdx_cons, List.zipIdx_nil, g0, w1, t1, t2])
    | (with_reducible refine hK _ ?_; clear hK K)
    | (with_reducible refine askG.mk (fun hg => ?_) (fun hg => ?_) <;> (try simp only [hcS] at hg) <;> (try first | contradiction | (exfalso; omega)))
    | ((with_reducible refine And.intro ?_ ?_); focus (first | (with_reducible show pairsOk _ _ = true; kernel_rfl) | omega | (with_reducible assumption) | kernel_rfl | (exact bytesE_len _) | (exact iE_one _) | (exact iE_allP _) | (exact bytesE_allP _) | (exact rowsE_len _) | (exact rowsE_allP _) | ((simp [allP_nil, allP_cons, persL]; done)) | ((simp [byV]; done)) | (simp; done) | (simp; omega)))
    | ((with_reducible first | show inBlockS _ _ _ _ | show thenS _ _ _ _); simp only [inBlockS, thenS, reduceIte, Nat.reduceEqDiff]))
  all_goals (refine ⟨_, [.inl 1], rfl, ⟨rfl, ?_, ?_, ?_⟩⟩ <;> simp [go_sem, Nat.add_sub_cancel, Nat.add_one_sub_one, Nat.sub_zero, Nat.mul_one, finP, finPs, viewP, viewPs, finT, finC, finCs, finL, finLs, finBs, viewOk, viewsOk, persL, inT, inC, inCs, inL, inLs, ndB, allP_nil, allP_cons, allP_append])
end Go.Proofs.YtiifcgaililllaaDoor

/- frames: taken (the document). -/
namespace Go.Proofs.YtiifcgaililllaaDoor
set_option linter.unusedSimpArgs false
set_option linter.unusedVariables false
open Go Go.RowKit
attribute [local congr] AW_congr AOs_congr aCall_congr aCall1_congr aSem_congr aSliceO_congr aBuildO_congr aStoreO_congr
attribute [local go_sem] uC_own uC_ids uC_shift uC_frz uC_length tabK_uC ub_v bytes_set bytesE_one1 bytesE_consr bytesE_append bytesE_drop bytesE_take rowsE_length rowsE_get Option.map_map bytesE_length bytesE_get shiftE_bytes shiftE_rows exBytesE str_beq bytesE_take_self List.take_length
set_option maxRecDepth 100000

attribute [local simp] leEs_bytes leEs_iE iE_allP
theorem refTakeShort_pc (key b : List UInt8) (h : b.length < 34) : PC Tryd.prog 19 [bytesT key, bytesT b] [] (.tup [frmT zeroF, intT 3]) := by
  have g0 : decide ((b.length : Int) < 34) = true := by simp; omega
  simp only [frmT, frmC, zeroF]
  refine PC.of_body Tryd.func19 rfl ?_
  intro Γ _ _
  simp only [Tryd.ntmps19, List.length_cons, List.length_nil, Nat.reduceAdd, Nat.reduceSub, List.replicate_succ, List.replicate_zero, List.cons_append, List.nil_append]
  repeat' (first
    | (with_reducible first | refine AW.seq ?_ | refine AW.block ?_ | refine AW.ret ?_ | refine AW.skip ?_ | refine AW.exit ?_)
    | ((refine AW.cond (by rfl) (fun hc => ?_) (fun hc => ?_)) <;> (try simp only [hcS] at hc) <;> (try first | contradiction | (exfalso; omega)))
    | ((refine AW.condB (by rfl) (fun hc => ?_) (fun hc => ?_)))
    | ((first | (with_reducible refine AW.regionK mo (by kernel_rfl) ?_; intro K hK) | (with_reducible refine aSliceO.l ?_) | (with_reducible refine aBuildO.l ?_) | (with_reducible refine aStoreO.l ?_)); simp (maxSteps := 2000000) only [↓askG_tt, ↓askG_ff, ↓askG_tf, ↓askG_ft, ↓AOp, ↓aBin, ↓aUn, ↓aConv, ↓aAlloc, ↓aBox, ↓aBuild, ↓aLoad, ↓aStore, ↓aNil, ↓aFieldAddr, ↓aField, ↓aExtract, ↓aIndexAddr, ↓aIndex, ↓aSlice, ↓aMake, ↓aBuildSlice, ↓aFrz, ↓aLen, ↓aAppend, ↓aCopy, Nat.reduceAdd, Nat.reduceSub, Nat.reduceMul, Nat.reduceLT, Nat.reduceLeDiff, Nat.reduceEqDiff, Int.reduceToNat, Int.reduceBEq, Int.reduceBNe, Int.reduceEq, Int.reduceNe, Int.reduceNeg, Int.reduceLE, Int.reduceLT, reduceIte, reduceCtorEq, go_sem, Nat.add_sub_cancel, Nat.add_one_sub_one, Nat.sub_zero, Nat.mul_one, shiftP, shiftT, shiftC, shiftL, shiftB, newIds, idsOfT, List.zipIdx_cons, List.zipIdx_nil, g0])
    | (with_reducible refine hK _ ?_; clear hK K)
    | (with_reducible refine askG.mk (fun hg => ?_) (fun hg => ?_) <;> (try simp only [hcS] at hg) <;> (try first | contradiction | (exfalso; omega)))
    | ((with_reducible refine And.intro ?_ ?_); focus (first | (with_reducible show pairsOk _ _ = true; kernel_rfl) | omega | (with_reducible assumption) | kernel_rfl | (exact bytesE_len _) | (exact iE_one _) | (exact iE_allP _) | (exact bytesE_allP _) | (exact rowsE_len _) | (exact rowsE_allP _) | ((simp [allP_nil, allP_cons, persL]; done)) | ((simp [byV]; done)) | (simp; done) | (simp; omega)))
    | ((with_reducible first | show inBlockS _ _ _ _ | show thenS _ _ _ _); simp only [inBlockS, thenS, reduceIte, Nat.reduceEqDiff]))
  all_goals (refine ⟨_, [], rfl, ⟨rfl, ?_, ?_, ?_⟩⟩ <;> simp [go_sem, Nat.add_sub_cancel, Nat.add_one_sub_one, Nat.sub_zero, Nat.mul_one, finP, finPs, viewP, viewPs, finT, finC, finCs, finL, finLs, finBs, viewOk, viewsOk, persL, inT, inC, inCs, inL, inLs, ndB, allP_nil, allP_cons, allP_append])
theorem refTakeNone_pc (key b : List UInt8) (h : 34 ≤ b.length) (hb : b.length ≤ 60000) (n : Int) (T : PC Tryd.prog 34 [bytesT ((allF b).drop 2)] [] (.tup [stmT zeroS, .leaf (.sc (.int .i64 n)), intT 3])) : PC Tryd.prog 19 [bytesT key, bytesT b] [] (.tup [frmT zeroF, intT 3]) := by
  have g0 : decide ((b.length : Int) < 34) = false := by simp; omega
  have w1 : IntKind.i64.wrap ((b.length : Int) - 32) = ((b.length - 32 : Nat) : Int) := by rw [wrap_i64 _ (by omega)]; omega
  have ta : List.take (b.length - 32) b = allF b := rfl
  have te : List.take (b.length - (b.length - 32)) (List.drop (b.length - 32) b) = endF b := List.take_of_length_le (by simp)
  have la : (allF b).length = b.length - 32 := by simp [allF]
  have t2 : List.take ((b.length - 32) - 2) (List.drop 2 (allF b)) = List.drop 2 (allF b) := List.take_of_length_le (by simp [la])
  generalize allF b = a at *
  simp only [frmT, frmC, zeroF, stmT, stmC] at *
  refine PC.of_body Tryd.func19 rfl ?_
  intro Γ _ _
  simp only [Tryd.ntmps19, List.length_cons, List.length_nil, Nat.reduceAdd, Nat.reduceSub, List.replicate_succ, List.replicate_zero, List.cons_append, List.nil_append]
  repeat' (first
    | (with_reducible first | refine AW.seq ?_ | refine AW.block ?_ | refine AW.ret ?_ | refine AW.skip ?_ | refine AW.exit ?_)
    | ((refine AW.cond (by rfl) (fun hc => ?_) (fun hc => ?_)) <;> (try simp only [hcS] at hc) <;> (try first | contradiction | (exfalso; omega)))
    | ((refine AW.condB (by rfl) (fun hc => ?_) (fun hc => ?_)))
    | ((first | (refine aCall.pers (T) fnOk34 ?_ ?_ ?_ ?_; (focus rfl); (focus rfl); (focus (simp [persT, persL, g0, w1, ta, la, t2]; done))) | (with_reducible refine AW.regionK mo (by kernel_rfl) ?_; intro K hK) | (with_reducible refine aSliceO.l ?_) | (with_reducible refine aBuildO.l ?_) | (with_reducible refine aStoreO.l ?_)); simp (maxSteps := 2000000) only [↓askG_tt, ↓askG_ff, ↓askG_tf, ↓askG_ft, ↓AOp, ↓aBin, ↓aUn, ↓aConv, ↓aAlloc, ↓aBox, ↓aBuild, ↓aLoad, ↓aStore, ↓aNil, ↓aFieldAddr, ↓aField, ↓aExtract, ↓aIndexAddr, ↓aIndex, ↓aSlice, ↓aMake, ↓aBuildSlice, ↓aFrz, ↓aLen, ↓aAppend, ↓aCopy, Nat.reduceAdd, Nat.reduceSub, Nat.reduceMul, Nat.reduceLT, Nat.reduceLeDiff, Nat.reduceEqDiff, Int.reduceToNat, Int.reduceBEq, Int.reduceBNe, Int.reduceEq, Int.reduceNe, Int.reduceNeg, Int.reduceLE, Int.reduceLT, reduceIte, reduceCtorEq, go_sem, Nat.add_sub_cancel, Nat.add_one_sub_one, Nat.sub_zero, Nat.mul_one, shiftP, shiftT, shiftC, shiftL, shiftB, newIds, idsOfT, List.zipIdx_cons, List.zipIdx_nil, g0, w1, ta, la, t2])
    | (with_reducible refine hK _ ?_; clear hK K)
    | (with_reducible refine askG.mk (fun hg => ?_) (fun hg => ?_) <;> (try simp only [hcS] at hg) <;> (try first | contradiction | (exfalso; omega)))
    | ((with_reducible refine And.intro ?_ ?_); focus (first | (with_reducible show pairsOk _ _ = true; kernel_rfl) | omega | (with_reducible assumption) | kernel_rfl | (exact bytesE_len _) | (exact iE_one _) | (exact iE_allP _) | (exact bytesE_allP _) | (exact rowsE_len _) | (exact rowsE_allP _) | ((simp [allP_nil, allP_cons, persL]; done)) | ((simp [byV]; done)) | (simp; done) | (simp; omega)))
    | ((with_reducible first | show inBlockS _ _ _ _ | show thenS _ _ _ _); simp only [inBlockS, thenS, reduceIte, Nat.reduceEqDiff]))
  all_goals (refine ⟨_, [], rfl, ⟨rfl, ?_, ?_, ?_⟩⟩ <;> simp [go_sem, Nat.add_sub_cancel, Nat.add_one_sub_one, Nat.sub_zero, Nat.mul_one, finP, finPs, viewP, viewPs, finT, finC, finCs, finL, finLs, finBs, viewOk, viewsOk, persL, inT, inC, inCs, inL, inLs, ndB, allP_nil, allP_cons, allP_append])
theorem refTakeTail_pc (key b : List UInt8) (s : Stm) (h : 34 ≤ b.length) (hm : mF (allF b) ≤ 1000) (h2 : b.length - 32 < 28 + mF (allF b)) (hb : b.length ≤ 60000) (T : PC Tryd.prog 34 [bytesT ((allF b).drop 2)] [] (.tup [stmT s, .leaf (.sc (.int .i64 ((17 + mF (allF b) : Nat) : Int))), intT 0])) : PC Tryd.prog 19 [bytesT key, bytesT b] [] (.tup [frmT zeroF, intT 3]) := by
  have g0 : decide ((b.length : Int) < 34) = false := by simp; omega
  have w1 : IntKind.i64.wrap ((b.length : Int) - 32) = ((b.length - 32 : Nat) : Int) := by rw [wrap_i64 _ (by omega)]; omega
  have ta : List.take (b.length - 32) b = allF b := rfl
  have te : List.take (b.length - (b.length - 32)) (List.drop (b.length - 32) b) = endF b := List.take_of_length_le (by simp)
  have la : (allF b).length = b.length - 32 := by simp [allF]
  have t2 : List.take ((b.length - 32) - 2) (List.drop 2 (allF b)) = List.drop 2 (allF b) := List.take_of_length_le (by simp [la])
  have w2 : IntKind.i64.wrap (2 + ((17 + mF (allF b) : Nat) : Int)) = ((19 + mF (allF b) : Nat) : Int) := by rw [wrap_i64 _ (by omega)]; omega
  have w3 : IntKind.i64.wrap (((19 + mF (allF b) : Nat) : Int) + 9) = ((28 + mF (allF b) : Nat) : Int) := by rw [wrap_i64 _ (by omega)]; omega
  have g2 : decide (((b.length - 32 : Nat) : Int) < ((28 + mF (allF b) : Nat) : Int)) = true := by simp; omega
  obtain ⟨ep, ro, ch⟩ := s
  generalize mF (allF b) = m at *
  generalize allF b = a at *
  simp only [frmT, frmC, zeroF, stmT, stmC] at *
  refine PC.of_body Tryd.func19 rfl ?_
  intro Γ _ _
  simp only [Tryd.ntmps19, List.length_cons, List.length_nil, Nat.reduceAdd, Nat.reduceSub, List.replicate_succ, List.replicate_zero, List.cons_append, List.nil_append]
  repeat' (first
    | (with_reducible first | refine AW.seq ?_ | refine AW.block ?_ | refine AW.ret ?_ | refine AW.skip ?_ | refine AW.exit ?_)
    | ((refine AW.cond (by rfl) (fun hc => ?_) (fun hc => ?_)) <;> (try simp only [hcS] at hc) <;> (try first | contradiction | (exfalso; omega)))
    | ((refine AW.condB (by rfl) (fun hc => ?_) (fun hc => ?_)))
    | ((first | (refine aCall.pers (T) fnOk34 ?_ ?_ ?_ ?_; (focus rfl); (focus rfl); (focus (simp [persT, persL, g0, w1, ta, la, t2, w2, w3, g2]; done))) | (with_reducible refine AW.regionK mo (by kernel_rfl) ?_; intro K hK) | (with_reducible refine aSliceO.l ?_) | (with_reducible refine aBuildO.l ?_) | (with_reducible refine aStoreO.l ?_)); simp (maxSteps := 2000000) only [↓askG_tt, ↓askG_ff, ↓askG_tf, ↓askG_ft, ↓AOp, ↓aBin, ↓aUn, ↓aConv, ↓aAlloc, ↓aBox, ↓aBuild, ↓aLoad, ↓aStore, ↓aNil, ↓aFieldAddr, ↓aField, ↓aExtract, ↓aIndexAddr, ↓aIndex, ↓aSlice, ↓aMake, ↓aBuildSlice, ↓aFrz, ↓aLen, ↓aAppend, ↓aCopy, Nat.reduceAdd, Nat.reduceSub, Nat.reduceMul, Nat.reduceLT, Nat.reduceLeDiff, Nat.reduceEqDiff, Int.reduceToNat, Int.reduceBEq, Int.reduceBNe, Int.reduceEq, Int.reduceNe, Int.reduceNeg, Int.reduceLE, Int.reduceLT, reduceIte, reduceCtorEq, go_sem, Nat.add_sub_cancel, Nat.add_one_sub_one, Nat.sub_zero, Nat.mul_one, shiftP, shiftT, shiftC, shiftL, shiftB, newIds, idsOfT, List.zipIdx_cons, List.zipIdx_nil, g0, w1, ta, la, t2, w2, w3, g2])
    | (with_reducible refine hK _ ?_; clear hK K)
    | (with_reducible refine askG.mk (fun hg => ?_) (fun hg => ?_) <;> (try simp only [hcS] at hg) <;> (try first | contradiction | (exfalso; omega)))
    | ((with_reducible refine And.intro ?_ ?_); focus (first | (with_reducible show pairsOk _ _ = true; kernel_rfl) | omega | (with_reducible assumption) | kernel_rfl | (exact bytesE_len _) | (exact iE_one _) | (exact iE_allP _) | (exact bytesE_allP _) | (exact rowsE_len _) | (exact rowsE_allP _) | ((simp [allP_nil, allP_cons, persL]; done)) | ((simp [byV]; done)) | (simp; done) | (simp; omega)))
    | ((with_reducible first | show inBlockS _ _ _ _ | show thenS _ _ _ _); simp only [inBlockS, thenS, reduceIte, Nat.reduceEqDiff]))
  all_goals (refine ⟨_, [], rfl, ⟨rfl, ?_, ?_, ?_⟩⟩ <;> simp [go_sem, Nat.add_sub_cancel, Nat.add_one_sub_one, Nat.sub_zero, Nat.mul_one, finP, finPs, viewP, viewPs, finT, finC, finCs, finL, finLs, finBs, viewOk, viewsOk, persL, inT, inC, inCs, inL, inLs, ndB, allP_nil, allP_cons, allP_append])
set_option maxHeartbeats 4000000 in
theorem refTakeMany_pc (key b : List UInt8) (s : Stm) (h : 28 + mF (allF b) ≤ b.length - 32) (hb : b.length ≤ 60000) (hn : getN (((restF (allF b)).drop 5).take 4) ≠ ((restF (allF b)).drop 9).length) (T : PC Tryd.prog 34 [bytesT ((allF b).drop 2)] [] (.tup [stmT s, .leaf (.sc (.int .i64 ((17 + mF (allF b) : Nat) : Int))), intT 0])) : PC Tryd.prog 19 [bytesT key, bytesT b] [] (.tup [frmT zeroF, intT 3]) := by
  have g0 : decide ((b.length : Int) < 34) = false := by simp; omega
  have w1 : IntKind.i64.wrap ((b.length : Int) - 32) = ((b.length - 32 : Nat) : Int) := by rw [wrap_i64 _ (by omega)]; omega
  have ta : List.take (b.length - 32) b = allF b := rfl
  have te : List.take (b.length - (b.length - 32)) (List.drop (b.length - 32) b) = endF b := List.take_of_length_le (by simp)
  have la : (allF b).length = b.length - 32 := by simp [allF]
  have t2 : List.take ((b.length - 32) - 2) (List.drop 2 (allF b)) = List.drop 2 (allF b) := List.take_of_length_le (by simp [la])
  have w2 : IntKind.i64.wrap (2 + ((17 + mF (allF b) : Nat) : Int)) = ((19 + mF (allF b) : Nat) : Int) := by rw [wrap_i64 _ (by omega)]; omega
  have w3 : IntKind.i64.wrap (((19 + mF (allF b) : Nat) : Int) + 9) = ((28 + mF (allF b) : Nat) : Int) := by rw [wrap_i64 _ (by omega)]; omega
  have g2 : decide (((b.length - 32 : Nat) : Int) < ((28 + mF (allF b) : Nat) : Int)) = false := by simp; omega
  have td : List.take ((b.length - 32) - (19 + mF (allF b))) (List.drop (19 + mF (allF b)) (allF b)) = restF (allF b) := List.take_of_length_le (by simp [la])
  have ld := restF_len (allF b)
  have G1 := refGet_pc (((restF (allF b)).drop 1).take 4) (by simp; omega) (by simp; omega)
  have G5 := refGet_pc (((restF (allF b)).drop 5).take 4) (by simp; omega) (by simp; omega)
  have t9 : List.take ((restF (allF b)).length - 9) (List.drop 9 (restF (allF b))) = List.drop 9 (restF (allF b)) := List.take_of_length_le (by simp)
  have l9 : (List.drop 9 (restF (allF b))).length = (restF (allF b)).length - 9 := List.length_drop
  have b1 := getN_lt (((restF (allF b)).drop 1).take 4) 4 (by simp; omega)
  have b5 := getN_lt (((restF (allF b)).drop 5).take 4) 4 (by simp; omega)
  rw [List.take_of_length_le (by simp; omega)] at b1 b5
  have w9 : IntKind.u64.wrap (((restF (allF b)).length - 9 : Nat) : Int) = (((restF (allF b)).length - 9 : Nat) : Int) := wrap_u64 _ (by omega)
  have m0 := byte_get (b := allF b) (k := 0) (by omega)
  have m1 := byte_get (b := allF b) (k := 1) (by omega)
  have md := byte_get (b := restF (allF b)) (k := 0) (by omega)
  have wsq : IntKind.i64.wrap (getN (((restF (allF b)).drop 1).take 4) : Int) = (getN (((restF (allF b)).drop 1).take 4) : Int) := wrap_i64 _ (by omega)
  have g5 : ((getN (((restF (allF b)).drop 5).take 4) : Int) != (((restF (allF b)).length - 9 : Nat) : Int)) = true := by simp only [bne_iff_ne, ne_eq]; omega
  clear hn
  generalize getN (((restF (allF b)).drop 5).take 4) = n5 at *
  generalize getN (((restF (allF b)).drop 1).take 4) = n1 at *
  obtain ⟨ep, ro, ch⟩ := s
  generalize (restF (allF b)).getD 0 0 = x3 at *
  generalize (allF b).getD 0 0 = x0 at *
  generalize (allF b).getD 1 0 = x1 at *
  generalize restF (allF b) = d at *
  generalize mF (allF b) = m at *
  generalize allF b = a at *
  generalize endF b = z at *
  simp only [frmT, frmC, zeroF, stmT, stmC] at *
  refine PC.of_body Tryd.func19 rfl ?_
  intro Γ _ _
  simp only [Tryd.ntmps19, List.length_cons, List.length_nil, Nat.reduceAdd, Nat.reduceSub, List.replicate_succ, List.replicate_zero, List.cons_append, List.nil_append]
  repeat' (first
    | (with_reducible first | refine AW.seq ?_ | refine AW.block ?_ | refine AW.ret ?_ | refine AW.skip ?_ | refine AW.exit ?_)
    | ((refine AW.cond (by rfl) (fun hc => ?_) (fun hc => ?_)) <;> (try simp only [hcS] at hc) <;> (try first | contradiction | (exfalso; omega)))
    | ((refine AW.condB (by rfl) (fun hc => ?_) (fun hc => ?_)))
    | ((first | (refine aCall.pers (T) fnOk34 ?_ ?_ ?_ ?_; (focus rfl); (focus rfl); (focus (simp [persT, persL, g0, w1, ta, la, t2, w2, w3, g2, td, t9, l9, w9, g5, m0, m1, md, wsq, byV_nat, byte_nat]; done))) | (refine aCall.pers (G1) fnOk35 ?_ ?_ ?_ ?_; (focus rfl); (focus rfl); (focus (simp [persT, persL, g0, w1, ta, la, t2, w2, w3, g2, td, t9, l9, w9, g5, m0, m1, md, wsq, byV_nat, byte_nat]; done))) | (refine aCall.pers (G5) fnOk35 ?_ ?_ ?_ ?_; (focus rfl); (focus rfl); (focus (simp [persT, persL, g0, w1, ta, la, t2, w2, w3, g2, td, t9, l9, w9, g5, m0, m1, md, wsq, byV_nat, byte_nat]; done))) | (with_reducible refine AW.regionK mo (by kernel_rfl) ?_; intro K hK) | (with_reducible refine aSliceO.l ?_) | (with_reducible refine aBuildO.l ?_) | (with_reducible refine aStoreO.l ?_)); simp (maxSteps := 2000000) only [↓askG_tt, ↓askG_ff, ↓askG_tf, ↓askG_ft, ↓AOp, ↓aBin, ↓aUn, ↓aConv, ↓aAlloc, ↓aBox, ↓aBuild, ↓aLoad, ↓aStore, ↓aNil, ↓aFieldAddr, ↓aField, ↓aExtract, ↓aIndexAddr, ↓aIndex, ↓aSlice, ↓aMake, ↓aBuildSlice, ↓aFrz, ↓aLen, ↓aAppend, ↓aCopy, Nat.reduceAdd, Nat.reduceSub, Nat.reduceMul, Nat.reduceLT, Nat.reduceLeDiff, Nat.reduceEqDiff, Int.reduceToNat, Int.reduceBEq, Int.reduceBNe, Int.reduceEq, Int.reduceNe, Int.reduceNeg, Int.reduceLE, Int.reduceLT, reduceIte, reduceCtorEq, go_sem, Nat.add_sub_cancel, Nat.add_one_sub_one, Nat.sub_zero, Nat.mul_one, shiftP, shiftT, shiftC, shiftL, shiftB, newIds, idsOfT, List.zipIdx_cons, List.zipIdx_nil, g0, w1, ta, la, t2, w2, w3, g2, td, t9, l9, w9, g5, m0, m1, md, wsq, byV_nat, byte_nat])
    | (with_reducible refine hK _ ?_; clear hK K)
    | (with_reducible refine askG.mk (fun hg => ?_) (fun hg => ?_) <;> (try simp only [hcS] at hg) <;> (try first | contradiction | (exfalso; omega)))
    | ((with_reducible refine And.intro ?_ ?_); focus (first | (with_reducible show pairsOk _ _ = true; kernel_rfl) | omega | (with_reducible assumption) | kernel_rfl | (exact bytesE_len _) | (exact iE_one _) | (exact iE_allP _) | (exact bytesE_allP _) | (exact rowsE_len _) | (exact rowsE_allP _) | ((simp [allP_nil, allP_cons, persL]; done)) | ((simp [byV]; done)) | (simp; done) | (simp; omega)))
    | ((with_reducible first | show inBlockS _ _ _ _ | show thenS _ _ _ _); simp only [inBlockS, thenS, reduceIte, Nat.reduceEqDiff]))
  all_goals (refine ⟨_, [], rfl, ⟨rfl, ?_, ?_, ?_⟩⟩ <;> simp [go_sem, Nat.add_sub_cancel, Nat.add_one_sub_one, Nat.sub_zero, Nat.mul_one, finP, finPs, viewP, viewPs, finT, finC, finCs, finL, finLs, finBs, viewOk, viewsOk, persL, inT, inC, inCs, inL, inLs, ndB, allP_nil, allP_cons, allP_append])
set_option maxHeartbeats 4000000 in
theorem refTakeChk_pc (key b : List UInt8) (s : Stm) (h : 28 + mF (allF b) ≤ b.length - 32) (hb : b.length ≤ 60000) (hn : getN (((restF (allF b)).drop 5).take 4) = ((restF (allF b)).drop 9).length) (hs : stB ((allF b).drop 2) (mF (allF b)) = s) (T : PC Tryd.prog 34 [bytesT ((allF b).drop 2)] [] (.tup [stmT s, .leaf (.sc (.int .i64 ((17 + mF (allF b) : Nat) : Int))), intT 0])) (KC : PC Tryd.prog 14 [frmT (frmB (allF b))] [] (intT 1)) : PC Tryd.prog 19 [bytesT key, bytesT b] [] (.tup [frmT zeroF, intT 3]) := by
  have g0 : decide ((b.length : Int) < 34) = false := by simp; omega
  have w1 : IntKind.i64.wrap ((b.length : Int) - 32) = ((b.length - 32 : Nat) : Int) := by rw [wrap_i64 _ (by omega)]; omega
  have ta : List.take (b.length - 32) b = allF b := rfl
  have te : List.take (b.length - (b.length - 32)) (List.drop (b.length - 32) b) = endF b := List.take_of_length_le (by simp)
  have la : (allF b).length = b.length - 32 := by simp [allF]
  have t2 : List.take ((b.length - 32) - 2) (List.drop 2 (allF b)) = List.drop 2 (allF b) := List.take_of_length_le (by simp [la])
  have w2 : IntKind.i64.wrap (2 + ((17 + mF (allF b) : Nat) : Int)) = ((19 + mF (allF b) : Nat) : Int) := by rw [wrap_i64 _ (by omega)]; omega
  have w3 : IntKind.i64.wrap (((19 + mF (allF b) : Nat) : Int) + 9) = ((28 + mF (allF b) : Nat) : Int) := by rw [wrap_i64 _ (by omega)]; omega
  have g2 : decide (((b.length - 32 : Nat) : Int) < ((28 + mF (allF b) : Nat) : Int)) = false := by simp; omega
  have td : List.take ((b.length - 32) - (19 + mF (allF b))) (List.drop (19 + mF (allF b)) (allF b)) = restF (allF b) := List.take_of_length_le (by simp [la])
  have ld := restF_len (allF b)
  have G1 := refGet_pc (((restF (allF b)).drop 1).take 4) (by simp; omega) (by simp; omega)
  have G5 := refGet_pc (((restF (allF b)).drop 5).take 4) (by simp; omega) (by simp; omega)
  have t9 : List.take ((restF (allF b)).length - 9) (List.drop 9 (restF (allF b))) = List.drop 9 (restF (allF b)) := List.take_of_length_le (by simp)
  have l9 : (List.drop 9 (restF (allF b))).length = (restF (allF b)).length - 9 := List.length_drop
  have b1 := getN_lt (((restF (allF b)).drop 1).take 4) 4 (by simp; omega)
  have b5 := getN_lt (((restF (allF b)).drop 5).take 4) 4 (by simp; omega)
  rw [List.take_of_length_le (by simp; omega)] at b1 b5
  have w9 : IntKind.u64.wrap (((restF (allF b)).length - 9 : Nat) : Int) = (((restF (allF b)).length - 9 : Nat) : Int) := wrap_u64 _ (by omega)
  have m0 := byte_get (b := allF b) (k := 0) (by omega)
  have m1 := byte_get (b := allF b) (k := 1) (by omega)
  have md := byte_get (b := restF (allF b)) (k := 0) (by omega)
  have wsq : IntKind.i64.wrap (getN (((restF (allF b)).drop 1).take 4) : Int) = (getN (((restF (allF b)).drop 1).take 4) : Int) := wrap_i64 _ (by omega)
  have g5 : ((getN (((restF (allF b)).drop 5).take 4) : Int) != (((restF (allF b)).length - 9 : Nat) : Int)) = false := by simp only [bne_eq_false_iff_eq]; omega
  have C := True.intro
  unfold frmB at KC
  rw [hs] at KC
  clear hn hs
  generalize getN (((restF (allF b)).drop 5).take 4) = n5 at *
  generalize getN (((restF (allF b)).drop 1).take 4) = n1 at *
  obtain ⟨ep, ro, ch⟩ := s
  generalize (restF (allF b)).getD 0 0 = x3 at *
  generalize (allF b).getD 0 0 = x0 at *
  generalize (allF b).getD 1 0 = x1 at *
  generalize restF (allF b) = d at *
  generalize mF (allF b) = m at *
  generalize allF b = a at *
  generalize endF b = z at *
  simp only [frmT, frmC, zeroF, stmT, stmC] at *
  refine PC.of_body Tryd.func19 rfl ?_
  intro Γ _ _
  simp only [Tryd.ntmps19, List.length_cons, List.length_nil, Nat.reduceAdd, Nat.reduceSub, List.replicate_succ, List.replicate_zero, List.cons_append, List.nil_append]
  repeat' (first
    | (with_reducible first | refine AW.seq ?_ | refine AW.block ?_ | refine AW.ret ?_ | refine AW.skip ?_ | refine AW.exit ?_)
    | ((refine AW.cond (by rfl) (fun hc => ?_) (fun hc => ?_)) <;> (try simp only [hcS] at hc) <;> (try first | contradiction | (exfalso; omega)))
    | ((refine AW.condB (by rfl) (fun hc => ?_) (fun hc => ?_)))
    | ((first | (refine aCall.pers (T) fnOk34 ?_ ?_ ?_ ?_; (focus rfl); (focus rfl); (focus (simp [persT, persL, g0, w1, ta, la, t2, w2, w3, g2, td, t9, l9, w9, g5, m0, m1, md, wsq, byV_nat, byte_nat]; done))) | (refine aCall.pers (G1) fnOk35 ?_ ?_ ?_ ?_; (focus rfl); (focus rfl); (focus (simp [persT, persL, g0, w1, ta, la, t2, w2, w3, g2, td, t9, l9, w9, g5, m0, m1, md, wsq, byV_nat, byte_nat]; done))) | (refine aCall.pers (G5) fnOk35 ?_ ?_ ?_ ?_; (focus rfl); (focus rfl); (focus (simp [persT, persL, g0, w1, ta, la, t2, w2, w3, g2, td, t9, l9, w9, g5, m0, m1, md, wsq, byV_nat, byte_nat]; done))) | (refine aCall.view KC fnOk14 ?_ ?_ ?_ ?_ ?_; (focus rfl); (focus (simp [plainT, plainC, plainL]; done)); (focus (first | exact plainBs_bytes _ | (simp [plainBs]; done))); (focus (simp [argsOk, viewTOk, viewP, viewPs, ↓askG_tt, ↓askG_ff, ↓askG_tf, ↓askG_ft, ↓AOp, ↓aBin, ↓aUn, ↓aConv, ↓aAlloc, ↓aBox, ↓aBuild, ↓aLoad, ↓aStore, ↓aNil, ↓aFieldAddr, ↓aField, ↓aExtract, ↓aIndexAddr, ↓aIndex, ↓aSlice, ↓aMake, ↓aBuildSlice, ↓aFrz, ↓aLen, ↓aAppend, ↓aCopy, Nat.reduceAdd, Nat.reduceSub, Nat.reduceMul, Nat.reduceLT, Nat.reduceLeDiff, Nat.reduceEqDiff, Int.reduceToNat, Int.reduceBEq, Int.reduceBNe, Int.reduceEq, Int.reduceNe, Int.reduceNeg, Int.reduceLE, Int.reduceLT, reduceIte, reduceCtorEq, go_sem, Nat.add_sub_cancel, Nat.add_one_sub_one, Nat.sub_zero, Nat.mul_one, finP, finPs, viewP, viewPs, finT, finC, finCs, finL, finLs, finBs, viewOk, viewsOk, persL, inT, inC, inCs, inL, inLs, ndB, allP_nil, allP_cons, allP_append, iE_len]; done))) | (refine aCall.pers (C) fnOk36 ?_ ?_ ?_ ?_; (focus rfl); (focus rfl); (focus (simp [persT, persL, g0, w1, ta, la, t2, w2, w3, g2, td, t9, l9, w9, g5, m0, m1, md, wsq, byV_nat, byte_nat]; done))) | (with_reducible refine AW.regionK mo (by kernel_rfl) ?_; intro K hK) | (with_reducible refine aSliceO.l ?_) | (with_reducible refine aBuildO.l ?_) | (with_reducible refine aStoreO.l ?_)); simp (maxSteps := 2000000) only [↓askG_tt, ↓askG_ff, ↓askG_tf, ↓askG_ft, ↓AOp, ↓aBin, ↓aUn, ↓aConv, ↓aAlloc, ↓aBox, ↓aBuild, ↓aLoad, ↓aStore, ↓aNil, ↓aFieldAddr, ↓aField, ↓aExtract, ↓aIndexAddr, ↓aIndex, ↓aSlice, ↓aMake, ↓aBuildSlice, ↓aFrz, ↓aLen, ↓aAppend, ↓aCopy, Nat.reduceAdd, Nat.reduceSub, Nat.reduceMul, Nat.reduceLT, Nat.reduceLeDiff, Nat.reduceEqDiff, Int.reduceToNat, Int.reduceBEq, Int.reduceBNe, Int.reduceEq, Int.reduceNe, Int.reduceNeg, Int.reduceLE, Int.reduceLT, reduceIte, reduceCtorEq, go_sem, Nat.add_sub_cancel, Nat.add_one_sub_one, Nat.sub_zero, Nat.mul_one, shiftP, shiftT, shiftC, shiftL, shiftB, newIds, idsOfT, List.zipIdx_cons, List.zipIdx_nil, g0, w1, ta, la, t2, w2, w3, g2, td, t9, l9, w9, g5, m0, m1, md, wsq, byV_nat, byte_nat])
    | (with_reducible refine hK _ ?_; clear hK K)
    | (with_reducible refine askG.mk (fun hg => ?_) (fun hg => ?_) <;> (try simp only [hcS] at hg) <;> (try first | contradiction | (exfalso; omega)))
    | ((with_reducible refine And.intro ?_ ?_); focus (first | (with_reducible show pairsOk _ _ = true; kernel_rfl) | omega | (with_reducible assumption) | kernel_rfl | (exact bytesE_len _) | (exact iE_one _) | (exact iE_allP _) | (exact bytesE_allP _) | (exact rowsE_len _) | (exact rowsE_allP _) | ((simp [allP_nil, allP_cons, persL]; done)) | ((simp [byV]; done)) | (simp; done) | (simp; omega)))
    | ((with_reducible first | show inBlockS _ _ _ _ | show thenS _ _ _ _); simp only [inBlockS, thenS, reduceIte, Nat.reduceEqDiff]))
  all_goals (refine ⟨_, [], rfl, ⟨rfl, ?_, ?_, ?_⟩⟩ <;> simp [go_sem, Nat.add_sub_cancel, Nat.add_one_sub_one, Nat.sub_zero, Nat.mul_one, finP, finPs, viewP, viewPs, finT, finC, finCs, finL, finLs, finBs, viewOk, viewsOk, persL, inT, inC, inCs, inL, inLs, ndB, allP_nil, allP_cons, allP_append])
set_option maxHeartbeats 4000000 in
theorem refTakeTag_pc (key b : List UInt8) (s : Stm) (h : 28 + mF (allF b) ≤ b.length - 32) (hb : b.length ≤ 60000) (hn : getN (((restF (allF b)).drop 5).take 4) = ((restF (allF b)).drop 9).length) (hs : stB ((allF b).drop 2) (mF (allF b)) = s) (T : PC Tryd.prog 34 [bytesT ((allF b).drop 2)] [] (.tup [stmT s, .leaf (.sc (.int .i64 ((17 + mF (allF b) : Nat) : Int))), intT 0])) (KC : PC Tryd.prog 14 [frmT (frmB (allF b))] [] (intT 0)) (C : PC Tryd.prog 36 [bytesT key, bytesT (allF b), bytesT (endF b)] [] (intT 4)) : PC Tryd.prog 19 [bytesT key, bytesT b] [] (.tup [frmT zeroF, intT 4]) := by
  have g0 : decide ((b.length : Int) < 34) = false := by simp; omega
  have w1 : IntKind.i64.wrap ((b.length : Int) - 32) = ((b.length - 32 : Nat) : Int) := by rw [wrap_i64 _ (by omega)]; omega
  have ta : List.take (b.length - 32) b = allF b := rfl
  have te : List.take (b.length - (b.length - 32)) (List.drop (b.length - 32) b) = endF b := List.take_of_length_le (by simp)
  have la : (allF b).length = b.length - 32 := by simp [allF]
  have t2 : List.take ((b.length - 32) - 2) (List.drop 2 (allF b)) = List.drop 2 (allF b) := List.take_of_length_le (by simp [la])
  have w2 : IntKind.i64.wrap (2 + ((17 + mF (allF b) : Nat) : Int)) = ((19 + mF (allF b) : Nat) : Int) := by rw [wrap_i64 _ (by omega)]; omega
  have w3 : IntKind.i64.wrap (((19 + mF (allF b) : Nat) : Int) + 9) = ((28 + mF (allF b) : Nat) : Int) := by rw [wrap_i64 _ (by omega)]; omega
  have g2 : decide (((b.length - 32 : Nat) : Int) < ((28 + mF (allF b) : Nat) : Int)) = false := by simp; omega
  have td : List.take ((b.length - 32) - (19 + mF (allF b))) (List.drop (19 + mF (allF b)) (allF b)) = restF (allF b) := List.take_of_length_le (by simp [la])
  have ld := restF_len (allF b)
  have G1 := refGet_pc (((restF (allF b)).drop 1).take 4) (by simp; omega) (by simp; omega)
  have G5 := refGet_pc (((restF (allF b)).drop 5).take 4) (by simp; omega) (by simp; omega)
  have t9 : List.take ((restF (allF b)).length - 9) (List.drop 9 (restF (allF b))) = List.drop 9 (restF (allF b)) := List.take_of_length_le (by simp)
  have l9 : (List.drop 9 (restF (allF b))).length = (restF (allF b)).length - 9 := List.length_drop
  have b1 := getN_lt (((restF (allF b)).drop 1).take 4) 4 (by simp; omega)
  have b5 := getN_lt (((restF (allF b)).drop 5).take 4) 4 (by simp; omega)
  rw [List.take_of_length_le (by simp; omega)] at b1 b5
  have w9 : IntKind.u64.wrap (((restF (allF b)).length - 9 : Nat) : Int) = (((restF (allF b)).length - 9 : Nat) : Int) := wrap_u64 _ (by omega)
  have m0 := byte_get (b := allF b) (k := 0) (by omega)
  have m1 := byte_get (b := allF b) (k := 1) (by omega)
  have md := byte_get (b := restF (allF b)) (k := 0) (by omega)
  have wsq : IntKind.i64.wrap (getN (((restF (allF b)).drop 1).take 4) : Int) = (getN (((restF (allF b)).drop 1).take 4) : Int) := wrap_i64 _ (by omega)
  have g5 : ((getN (((restF (allF b)).drop 5).take 4) : Int) != (((restF (allF b)).length - 9 : Nat) : Int)) = false := by simp only [bne_eq_false_iff_eq]; omega
  unfold frmB at KC
  rw [hs] at KC
  clear hn hs
  generalize getN (((restF (allF b)).drop 5).take 4) = n5 at *
  generalize getN (((restF (allF b)).drop 1).take 4) = n1 at *
  obtain ⟨ep, ro, ch⟩ := s
  generalize (restF (allF b)).getD 0 0 = x3 at *
  generalize (allF b).getD 0 0 = x0 at *
  generalize (allF b).getD 1 0 = x1 at *
  generalize restF (allF b) = d at *
  generalize mF (allF b) = m at *
  generalize allF b = a at *
  generalize endF b = z at *
  simp only [frmT, frmC, zeroF, stmT, stmC] at *
  refine PC.of_body Tryd.func19 rfl ?_
  intro Γ _ _
  simp only [Tryd.ntmps19, List.length_cons, List.length_nil, Nat.reduceAdd, Nat.reduceSub, List.replicate_succ, List.replicate_zero, List.cons_append, List.nil_append]
  repeat' (first
    | (with_reducible first | refine AW.seq ?_ | refine AW.block ?_ | refine AW.ret ?_ | refine AW.skip ?_ | refine AW.exit ?_)
    | ((refine AW.cond (by rfl) (fun hc => ?_) (fun hc => ?_)) <;> (try simp only [hcS] at hc) <;> (try first | contradiction | (exfalso; omega)))
    | ((refine AW.condB (by rfl) (fun hc => ?_) (fun hc => ?_)))
    | ((first | (refine aCall.pers (T) fnOk34 ?_ ?_ ?_ ?_; (focus rfl); (focus rfl); (focus (simp [persT, persL, g0, w1, ta, te, la, t2, w2, w3, g2, td, t9, l9, w9, g5, m0, m1, md, wsq, byV_nat, byte_nat]; done))) | (refine aCall.pers (G1) fnOk35 ?_ ?_ ?_ ?_; (focus rfl); (focus rfl); (focus (simp [persT, persL, g0, w1, ta, te, la, t2, w2, w3, g2, td, t9, l9, w9, g5, m0, m1, md, wsq, byV_nat, byte_nat]; done))) | (refine aCall.pers (G5) fnOk35 ?_ ?_ ?_ ?_; (focus rfl); (focus rfl); (focus (simp [persT, persL, g0, w1, ta, te, la, t2, w2, w3, g2, td, t9, l9, w9, g5, m0, m1, md, wsq, byV_nat, byte_nat]; done))) | (refine aCall.view KC fnOk14 ?_ ?_ ?_ ?_ ?_; (focus rfl); (focus (simp [plainT, plainC, plainL]; done)); (focus (first | exact plainBs_bytes _ | (simp [plainBs]; done))); (focus (simp [argsOk, viewTOk, viewP, viewPs, ↓askG_tt, ↓askG_ff, ↓askG_tf, ↓askG_ft, ↓AOp, ↓aBin, ↓aUn, ↓aConv, ↓aAlloc, ↓aBox, ↓aBuild, ↓aLoad, ↓aStore, ↓aNil, ↓aFieldAddr, ↓aField, ↓aExtract, ↓aIndexAddr, ↓aIndex, ↓aSlice, ↓aMake, ↓aBuildSlice, ↓aFrz, ↓aLen, ↓aAppend, ↓aCopy, Nat.reduceAdd, Nat.reduceSub, Nat.reduceMul, Nat.reduceLT, Nat.reduceLeDiff, Nat.reduceEqDiff, Int.reduceToNat, Int.reduceBEq, Int.reduceBNe, Int.reduceEq, Int.reduceNe, Int.reduceNeg, Int.reduceLE, Int.reduceLT, reduceIte, reduceCtorEq, go_sem, Nat.add_sub_cancel, Nat.add_one_sub_one, Nat.sub_zero, Nat.mul_one, finP, finPs, viewP, viewPs, finT, finC, finCs, finL, finLs, finBs, viewOk, viewsOk, persL, inT, inC, inCs, inL, inLs, ndB, allP_nil, allP_cons, allP_append, iE_len]; done))) | (refine aCall.pers (C) fnOk36 ?_ ?_ ?_ ?_; (focus rfl); (focus rfl); (focus (simp [persT, persL, g0, w1, ta, te, la, t2, w2, w3, g2, td, t9, l9, w9, g5, m0, m1, md, wsq, byV_nat, byte_nat]; done))) | (with_reducible refine AW.regionK mo (by kernel_rfl) ?_; intro K hK) | (with_reducible refine aSliceO.l ?_) | (with_reducible refine aBuildO.l ?_) | (with_reducible refine aStoreO.l ?_)); simp (maxSteps := 2000000) only [↓askG_tt, ↓askG_ff, ↓askG_tf, ↓askG_ft, ↓AOp, ↓aBin, ↓aUn, ↓aConv, ↓aAlloc, ↓aBox, ↓aBuild, ↓aLoad, ↓aStore, ↓aNil, ↓aFieldAddr, ↓aField, ↓aExtract, ↓aIndexAddr, ↓aIndex, ↓aSlice, ↓aMake, ↓aBuildSlice, ↓aFrz, ↓aLen, ↓aAppend, ↓aCopy, Nat.reduceAdd, Nat.reduceSub, Nat.reduceMul, Nat.reduceLT, Nat.reduceLeDiff, Nat.reduceEqDiff, Int.reduceToNat, Int.reduceBEq, Int.reduceBNe, Int.reduceEq, Int.reduceNe, Int.reduceNeg, Int.reduceLE, Int.reduceLT, reduceIte, reduceCtorEq, go_sem, Nat.add_sub_cancel, Nat.add_one_sub_one, Nat.sub_zero, Nat.mul_one, shiftP, shiftT, shiftC, shiftL, shiftB, newIds, idsOfT, List.zipIdx_cons, List.zipIdx_nil, g0, w1, ta, te, la, t2, w2, w3, g2, td, t9, l9, w9, g5, m0, m1, md, wsq, byV_nat, byte_nat])
    | (with_reducible refine hK _ ?_; clear hK K)
    | (with_reducible refine askG.mk (fun hg => ?_) (fun hg => ?_) <;> (try simp only [hcS] at hg) <;> (try first | contradiction | (exfalso; omega)))
    | ((with_reducible refine And.intro ?_ ?_); focus (first | (with_reducible show pairsOk _ _ = true; kernel_rfl) | omega | (with_reducible assumption) | kernel_rfl | (exact bytesE_len _) | (exact iE_one _) | (exact iE_allP _) | (exact bytesE_allP _) | (exact rowsE_len _) | (exact rowsE_allP _) | ((simp [allP_nil, allP_cons, persL]; done)) | ((simp [byV]; done)) | (simp; done) | (simp; omega)))
    | ((with_reducible first | show inBlockS _ _ _ _ | show thenS _ _ _ _); simp only [inBlockS, thenS, reduceIte, Nat.reduceEqDiff]))
  all_goals (refine ⟨_, [], rfl, ⟨rfl, ?_, ?_, ?_⟩⟩ <;> simp [go_sem, Nat.add_sub_cancel, Nat.add_one_sub_one, Nat.sub_zero, Nat.mul_one, finP, finPs, viewP, viewPs, finT, finC, finCs, finL, finLs, finBs, viewOk, viewsOk, persL, inT, inC, inCs, inL, inLs, ndB, allP_nil, allP_cons, allP_append])
set_option maxHeartbeats 4000000 in
theorem refTakeAll_pc (key b : List UInt8) (s : Stm) (h : 28 + mF (allF b) ≤ b.length - 32) (hb : b.length ≤ 60000) (hn : getN (((restF (allF b)).drop 5).take 4) = ((restF (allF b)).drop 9).length) (hs : stB ((allF b).drop 2) (mF (allF b)) = s) (T : PC Tryd.prog 34 [bytesT ((allF b).drop 2)] [] (.tup [stmT s, .leaf (.sc (.int .i64 ((17 + mF (allF b) : Nat) : Int))), intT 0])) (KC : PC Tryd.prog 14 [frmT (frmB (allF b))] [] (intT 0)) (C : PC Tryd.prog 36 [bytesT key, bytesT (allF b), bytesT (endF b)] [] (intT 0)) : PC Tryd.prog 19 [bytesT key, bytesT b] [] (.tup [frmT (frmB (allF b)), intT 0]) := by
  have g0 : decide ((b.length : Int) < 34) = false := by simp; omega
  have w1 : IntKind.i64.wrap ((b.length : Int) - 32) = ((b.length - 32 : Nat) : Int) := by rw [wrap_i64 _ (by omega)]; omega
  have ta : List.take (b.length - 32) b = allF b := rfl
  have te : List.take (b.length - (b.length - 32)) (List.drop (b.length - 32) b) = endF b := List.take_of_length_le (by simp)
  have la : (allF b).length = b.length - 32 := by simp [allF]
  have t2 : List.take ((b.length - 32) - 2) (List.drop 2 (allF b)) = List.drop 2 (allF b) := List.take_of_length_le (by simp [la])
  have w2 : IntKind.i64.wrap (2 + ((17 + mF (allF b) : Nat) : Int)) = ((19 + mF (allF b) : Nat) : Int) := by rw [wrap_i64 _ (by omega)]; omega
  have w3 : IntKind.i64.wrap (((19 + mF (allF b) : Nat) : Int) + 9) = ((28 + mF (allF b) : Nat) : Int) := by rw [wrap_i64 _ (by omega)]; omega
  have g2 : decide (((b.length - 32 : Nat) : Int) < ((28 + mF (allF b) : Nat) : Int)) = false := by simp; omega
  have td : List.take ((b.length - 32) - (19 + mF (allF b))) (List.drop (19 + mF (allF b)) (allF b)) = restF (allF b) := List.take_of_length_le (by simp [la])
  have ld := restF_len (allF b)
  have G1 := refGet_pc (((restF (allF b)).drop 1).take 4) (by simp; omega) (by simp; omega)
  have G5 := refGet_pc (((restF (allF b)).drop 5).take 4) (by simp; omega) (by simp; omega)
  have t9 : List.take ((restF (allF b)).length - 9) (List.drop 9 (restF (allF b))) = List.drop 9 (restF (allF b)) := List.take_of_length_le (by simp)
  have l9 : (List.drop 9 (restF (allF b))).length = (restF (allF b)).length - 9 := List.length_drop
  have b1 := getN_lt (((restF (allF b)).drop 1).take 4) 4 (by simp; omega)
  have b5 := getN_lt (((restF (allF b)).drop 5).take 4) 4 (by simp; omega)
  rw [List.take_of_length_le (by simp; omega)] at b1 b5
  have w9 : IntKind.u64.wrap (((restF (allF b)).length - 9 : Nat) : Int) = (((restF (allF b)).length - 9 : Nat) : Int) := wrap_u64 _ (by omega)
  have m0 := byte_get (b := allF b) (k := 0) (by omega)
  have m1 := byte_get (b := allF b) (k := 1) (by omega)
  have md := byte_get (b := restF (allF b)) (k := 0) (by omega)
  have wsq : IntKind.i64.wrap (getN (((restF (allF b)).drop 1).take 4) : Int) = (getN (((restF (allF b)).drop 1).take 4) : Int) := wrap_i64 _ (by omega)
  have g5 : ((getN (((restF (allF b)).drop 5).take 4) : Int) != (((restF (allF b)).length - 9 : Nat) : Int)) = false := by simp only [bne_eq_false_iff_eq]; omega
  unfold frmB at *
  rw [hs] at *
  clear hn hs
  generalize getN (((restF (allF b)).drop 5).take 4) = n5 at *
  generalize getN (((restF (allF b)).drop 1).take 4) = n1 at *
  obtain ⟨ep, ro, ch⟩ := s
  generalize (restF (allF b)).getD 0 0 = x3 at *
  generalize (allF b).getD 0 0 = x0 at *
  generalize (allF b).getD 1 0 = x1 at *
  generalize restF (allF b) = d at *
  generalize mF (allF b) = m at *
  generalize allF b = a at *
  generalize endF b = z at *
  simp only [frmT, frmC, zeroF, stmT, stmC] at *
  refine PC.of_body Tryd.func19 rfl ?_
  intro Γ _ _
  simp only [Tryd.ntmps19, List.length_cons, List.length_nil, Nat.reduceAdd, Nat.reduceSub, List.replicate_succ, List.replicate_zero, List.cons_append, List.nil_append]
  repeat' (first
    | (with_reducible first | refine AW.seq ?_ | refine AW.block ?_ | refine AW.ret ?_ | refine AW.skip ?_ | refine AW.exit ?_)
    | ((refine AW.cond (by rfl) (fun hc => ?_) (fun hc => ?_)) <;> (try simp only [hcS] at hc) <;> (try first | contradiction | (exfalso; omega)))
    | ((refine AW.condB (by rfl) (fun hc => ?_) (fun hc => ?_)))
    | ((first | (refine aCall.pers (T) fnOk34 ?_ ?_ ?_ ?_; (focus rfl); (focus rfl); (focus (simp [persT, persL, g0, w1, ta, te, la, t2, w2, w3, g2, td, t9, l9, w9, g5, m0, m1, md, wsq, byV_nat, byte_nat]; done))) | (refine aCall.pers (G1) fnOk35 ?_ ?_ ?_ ?_; (focus rfl); (focus rfl); (focus (simp [persT, persL, g0, w1, ta, te, la, t2, w2, w3, g2, td, t9, l9, w9, g5, m0, m1, md, wsq, byV_nat, byte_nat]; done))) | (refine aCall.pers (G5) fnOk35 ?_ ?_ ?_ ?_; (focus rfl); (focus rfl); (focus (simp [persT, persL, g0, w1, ta, te, la, t2, w2, w3, g2, td, t9, l9, w9, g5, m0, m1, md, wsq, byV_nat, byte_nat]; done))) | (refine aCall.view KC fnOk14 ?_ ?_ ?_ ?_ ?_; (focus rfl); (focus (simp [plainT, plainC, plainL]; done)); (focus (first | exact plainBs_bytes _ | (simp [plainBs]; done))); (focus (simp [argsOk, viewTOk, viewP, viewPs, ↓askG_tt, ↓askG_ff, ↓askG_tf, ↓askG_ft, ↓AOp, ↓aBin, ↓aUn, ↓aConv, ↓aAlloc, ↓aBox, ↓aBuild, ↓aLoad, ↓aStore, ↓aNil, ↓aFieldAddr, ↓aField, ↓aExtract, ↓aIndexAddr, ↓aIndex, ↓aSlice, ↓aMake, ↓aBuildSlice, ↓aFrz, ↓aLen, ↓aAppend, ↓aCopy, Nat.reduceAdd, Nat.reduceSub, Nat.reduceMul, Nat.reduceLT, Nat.reduceLeDiff, Nat.reduceEqDiff, Int.reduceToNat, Int.reduceBEq, Int.reduceBNe, Int.reduceEq, Int.reduceNe, Int.reduceNeg, Int.reduceLE, Int.reduceLT, reduceIte, reduceCtorEq, go_sem, Nat.add_sub_cancel, Nat.add_one_sub_one, Nat.sub_zero, Nat.mul_one, finP, finPs, viewP, viewPs, finT, finC, finCs, finL, finLs, finBs, viewOk, viewsOk, persL, inT, inC, inCs, inL, inLs, ndB, allP_nil, allP_cons, allP_append, iE_len]; done))) | (refine aCall.pers (C) fnOk36 ?_ ?_ ?_ ?_; (focus rfl); (focus rfl); (focus (simp [persT, persL, g0, w1, ta, te, la, t2, w2, w3, g2, td, t9, l9, w9, g5, m0, m1, md, wsq, byV_nat, byte_nat]; done))) | (with_reducible refine AW.regionK mo (by kernel_rfl) ?_; intro K hK) | (with_reducible refine aSliceO.l ?_) | (with_reducible refine aBuildO.l ?_) | (with_reducible refine aStoreO.l ?_)); simp (maxSteps := 2000000) only [↓askG_tt, ↓askG_ff, ↓askG_tf, ↓askG_ft, ↓AOp, ↓aBin, ↓aUn, ↓aConv, ↓aAlloc, ↓aBox, ↓aBuild, ↓aLoad, ↓aStore, ↓aNil, ↓aFieldAddr, ↓aField, ↓aExtract, ↓aIndexAddr, ↓aIndex, ↓aSlice, ↓aMake, ↓aBuildSlice, ↓aFrz, ↓aLen, ↓aAppend, ↓aCopy, Nat.reduceAdd, Nat.reduceSub, Nat.reduceMul, Nat.reduceLT, Nat.reduceLeDiff, Nat.reduceEqDiff, Int.reduceToNat, Int.reduceBEq, Int.reduceBNe, Int.reduceEq, Int.reduceNe, Int.reduceNeg, Int.reduceLE, Int.reduceLT, reduceIte, reduceCtorEq, go_sem, Nat.add_sub_cancel, Nat.add_one_sub_one, Nat.sub_zero, Nat.mul_one, shiftP, shiftT, shiftC, shiftL, shiftB, newIds, idsOfT, List.zipIdx_cons, List.zipIdx_nil, g0, w1, ta, te, la, t2, w2, w3, g2, td, t9, l9, w9, g5, m0, m1, md, wsq, byV_nat, byte_nat])
    | (with_reducible refine hK _ ?_; clear hK K)
    | (with_reducible refine askG.mk (fun hg => ?_) (fun hg => ?_) <;> (try simp only [hcS] at hg) <;> (try first | contradiction | (exfalso; omega)))
    | ((with_reducible refine And.intro ?_ ?_); focus (first | (with_reducible show pairsOk _ _ = true; kernel_rfl) | omega | (with_reducible assumption) | kernel_rfl | (exact bytesE_len _) | (exact iE_one _) | (exact iE_allP _) | (exact bytesE_allP _) | (exact rowsE_len _) | (exact rowsE_allP _) | ((simp [allP_nil, allP_cons, persL]; done)) | ((simp [byV]; done)) | (simp; done) | (simp; omega)))
    | ((with_reducible first | show inBlockS _ _ _ _ | show thenS _ _ _ _); simp only [inBlockS, thenS, reduceIte, Nat.reduceEqDiff]))
  all_goals (refine ⟨_, [], rfl, ⟨rfl, ?_, ?_, ?_⟩⟩ <;> simp [go_sem, Nat.add_sub_cancel, Nat.add_one_sub_one, Nat.sub_zero, Nat.mul_one, finP, finPs, viewP, viewPs, finT, finC, finCs, finL, finLs, finBs, viewOk, viewsOk, persL, inT, inC, inCs, inL, inLs, ndB, allP_nil, allP_cons, allP_append])
theorem refTakeForm_pc (key b : List UInt8) (hb : b.length ≤ 60000) (h : ¬ (32 ≤ b.length ∧ RdOk (allF b))) : PC Tryd.prog 19 [bytesT key, bytesT b] [] (.tup [frmT zeroF, intT 3]) := by
  by_cases h2 : b.length < 34
  · exact refTakeShort_pc key b h2
  · have la : (allF b).length = b.length - 32 := by simp [allF]
    by_cases hS : ((allF b).drop 2).length < 17 ∨ ((allF b).drop 2).length < 17 + (((allF b).drop 2).getD 16 0).toNat
    · exact refTakeNone_pc key b (by omega) hb 0 (refStTakeShort_pc _ hS (by simp; omega))
    · have hS2 : 17 + mF (allF b) ≤ ((allF b).drop 2).length := by unfold mF; omega
      have hS3 : 19 + mF (allF b) ≤ (allF b).length := by simp at hS2; omega
      have hm := (((allF b).drop 2).getD 16 0).toNat_lt
      by_cases hc : okC (stB ((allF b).drop 2) (mF (allF b))).ch
      · have T := refStTake_pc ((allF b).drop 2) (mF (allF b)) _ hS2 rfl rfl (by simp; omega) _ _ 0 (.inl ⟨hc, rfl, rfl, rfl⟩)
        by_cases h9 : b.length - 32 < 28 + mF (allF b)
        · exact refTakeTail_pc key b _ (by omega) (by unfold mF; omega) h9 hb T
        · by_cases hn : getN (((restF (allF b)).drop 5).take 4) = ((restF (allF b)).drop 9).length
          · have hF : ¬ okF (frmB (allF b)) := fun q => h ⟨by omega, by omega, hn, q⟩
            have K := refFrCheck_pc (frmB (allF b)) 1 (.inr (.inr ⟨hF, rfl⟩))
            exact refTakeChk_pc key b _ (by omega) hb hn rfl T K
          · exact refTakeMany_pc key b _ (by omega) hb hn T
      · have T := refStTake_pc ((allF b).drop 2) (mF (allF b)) _ hS2 rfl rfl (by simp; omega) _ _ 3 (.inr ⟨hc, rfl, rfl, rfl⟩)
        exact refTakeNone_pc key b (by omega) hb 0 T
theorem refFrTakeTag_pc (key b : List UInt8) (hk : key.length ≤ 1000000) (hb : b.length ≤ 60000) (h1 : 32 ≤ b.length) (h2 : RdOk (allF b)) (h : endF b ≠ macTag key (allF b)) : PC Tryd.prog 19 [bytesT key, bytesT b] [] (.tup [frmT zeroF, intT 4]) := by
  have la : (allF b).length = b.length - 32 := by simp [allF]
  have T := refStTake_pc ((allF b).drop 2) (mF (allF b)) _ (by have := h2.1; simp; omega) rfl rfl (by simp; omega) _ _ 0 (.inl ⟨stB_ok h2, rfl, rfl, rfl⟩)
  have K := refFrCheck_pc (frmB (allF b)) 0 (.inl ⟨h2.2.2, by show ((restF (allF b)).drop 9).length ≤ 65536; simp [restF]; omega, rfl⟩)
  have C := refCheck_pc key (allF b) (endF b) hk (by omega)
  have hc : chkTag key (allF b) (endF b) = 4 := by unfold chkTag; exact if_neg h
  rw [hc] at C
  exact refTakeTag_pc key b _ (by have := h2.1; omega) hb h2.2.1 rfl T K C
theorem refFrTake_pc (key b : List UInt8) (hk : key.length ≤ 1000000) (hb : b.length ≤ 60000) (h : TkOk key b) : PC Tryd.prog 19 [bytesT key, bytesT b] [] (.tup [frmT (frmB (allF b)), intT 0]) := by
  obtain ⟨h1, h2, h⟩ := h
  have la : (allF b).length = b.length - 32 := by simp [allF]
  have T := refStTake_pc ((allF b).drop 2) (mF (allF b)) _ (by have := h2.1; simp; omega) rfl rfl (by simp; omega) _ _ 0 (.inl ⟨stB_ok h2, rfl, rfl, rfl⟩)
  have K := refFrCheck_pc (frmB (allF b)) 0 (.inl ⟨h2.2.2, by show ((restF (allF b)).drop 9).length ≤ 65536; simp [restF]; omega, rfl⟩)
  have C := refCheck_pc key (allF b) (endF b) hk (by omega)
  have hc : chkTag key (allF b) (endF b) = 0 := by unfold chkTag; exact if_pos h
  rw [hc] at C
  exact refTakeAll_pc key b _ (by have := h2.1; omega) hb h2.2.1 rfl T K C
end Go.Proofs.YtiifcgaililllaaDoor

/- frames: there and back. -/
namespace Go.Proofs.YtiifcgaililllaaDoor
set_option linter.unusedSimpArgs false
set_option linter.unusedVariables false
open Go Go.RowKit
attribute [local congr] AW_congr AOs_congr aCall_congr aCall1_congr aSem_congr aSliceO_congr aBuildO_congr aStoreO_congr
attribute [local go_sem] uC_own uC_ids uC_shift uC_frz uC_length tabK_uC ub_v bytes_set bytesE_one1 bytesE_consr bytesE_append bytesE_drop bytesE_take rowsE_length rowsE_get Option.map_map bytesE_length bytesE_get shiftE_bytes shiftE_rows exBytesE str_beq bytesE_take_self List.take_length
set_option maxRecDepth 100000

theorem ub_toNat (n : Int) (h0 : 0 ≤ n) (h1 : n < 256) : ((ub n).toNat : Int) = n := by
  unfold ub
  have e : n % 256 = n := Int.emod_eq_of_lt h0 h1
  have e2 : n.emod 256 = n := e
  simp only [UInt8.toNat_ofNat']
  first
    | (rw [e2]; omega)
    | (rw [e]; omega)
    | omega
theorem ub_byte (x : UInt8) : ub (x.toNat : Int) = x := by
  apply UInt8.toNat.inj
  have h := ub_toNat (x.toNat : Int) (by omega) (by have := x.toNat_lt; omega)
  omega
theorem getF (b : List UInt8) : ∀ n : Nat, b.foldl (fun n x => n * 256 + x.toNat) n = n * 256 ^ b.length + getN b := by
  induction b with
  | nil => intro n; simp [getN]
  | cons x b ih =>
    intro n
    have h1 := ih (n * 256 + x.toNat)
    have h2 := ih (0 * 256 + x.toNat)
    simp only [getN, List.foldl_cons, List.length_cons] at *
    rw [h1, h2, Nat.pow_succ, Nat.add_mul, Nat.zero_mul, Nat.zero_add]
    rw [Nat.mul_comm (256 ^ b.length) 256, ← Nat.mul_assoc]; omega
theorem getN_cons (x : UInt8) (b : List UInt8) : getN (x :: b) = x.toNat * 256 ^ b.length + getN b := by
  have h := getF b (0 * 256 + x.toNat)
  rw [Nat.zero_mul, Nat.zero_add] at h
  show List.foldl (fun n x => n * 256 + x.toNat) (0 * 256 + x.toNat) b = _
  rw [Nat.zero_mul, Nat.zero_add]
  exact h
theorem getN_app (a b : List UInt8) : getN (a ++ b) = getN a * 256 ^ b.length + getN b := by
  show List.foldl _ _ (a ++ b) = _
  rw [List.foldl_append]
  exact getF b _
theorem getN_bound (b : List UInt8) : getN b < 256 ^ b.length := by
  have := getN_lt b b.length (Nat.le_refl _)
  rwa [List.take_length] at this
theorem getN_inj : ∀ (a b : List UInt8), a.length = b.length → getN a = getN b → a = b
  | [], [], _, _ => rfl
  | [], _ :: _, h, _ => by simp at h
  | _ :: _, [], h, _ => by simp at h
  | x :: a, y :: b, h, e => by
    have hl : a.length = b.length := by simpa using h
    rw [getN_cons, getN_cons, hl] at e
    have ba := getN_bound a
    have bb := getN_bound b
    rw [hl] at ba
    have hp : 0 < 256 ^ b.length := Nat.pow_pos (by decide)
    have hx : x.toNat = y.toNat := by
      have q1 : (x.toNat * 256 ^ b.length + getN a) / 256 ^ b.length = x.toNat := by
        rw [Nat.add_comm, Nat.add_mul_div_right _ _ hp, Nat.div_eq_of_lt ba, Nat.zero_add]
      have q2 : (y.toNat * 256 ^ b.length + getN b) / 256 ^ b.length = y.toNat := by
        rw [Nat.add_comm, Nat.add_mul_div_right _ _ hp, Nat.div_eq_of_lt bb, Nat.zero_add]
      rw [← q1, e, q2]
    have hxy : x = y := UInt8.toNat.inj hx
    subst hxy
    rw [getN_inj a b hl (by omega)]
theorem shr_num (n i : Nat) (h : i ≤ 7) : shrI .u64 (n : Int) (56 - 8 * i) = ((n / 256 ^ (7 - i) : Nat) : Int) := by
  have := shr_num8 n (7 - i) (by omega)
  rw [show 56 - 8 * i = 8 * (7 - i) by omega, this]; rfl
theorem ub_mod (m : Nat) : (ub (m : Int)).toNat = m % 256 := by
  have : ub (m : Int) = ub ((m % 256 : Nat) : Int) := by
    unfold ub
    congr 2
    show (m : Int) % 256 = ((m % 256 : Nat) : Int) % 256
    omega
  rw [this]
  have h := ub_toNat ((m % 256 : Nat) : Int) (by omega) (by omega)
  omega
theorem getN_cntB (n : Nat) (h : n ≤ 18446744073709551615) : ∀ i, i ≤ 8 → getN ((cntB n).take i) = n / 256 ^ (8 - i)
  | 0, _ => by
    rw [List.take_zero, Nat.div_eq_of_lt (by omega)]; rfl
  | i + 1, hi => by
    have ih := getN_cntB n h i (by omega)
    have hl := cntB_len n
    rw [← getN_next (by omega), ih]
    have hg : (cntB n).getD i 0 = ub (((n / 256 ^ (7 - i) : Nat) : Int)) := by
      rw [List.getD_eq_getElem?_getD, cntB_get n i (by omega), shr_num n i (by omega)]; rfl
    rw [hg, ub_mod, show 8 - (i + 1) = 7 - i by omega, show 8 - i = (7 - i) + 1 by omega, Nat.pow_succ, ← Nat.div_div_eq_div_mul]
    omega
theorem getN_put (n : Nat) (h : n ≤ 18446744073709551615) : getN (cntB n) = n := by
  have := getN_cntB n h 8 (Nat.le_refl _)
  rw [List.take_of_length_le (by rw [cntB_len]; exact Nat.le_refl _)] at this
  simpa using this
theorem getN_be4 (n : Nat) (h : n < 4294967296) : getN (be4 n) = n := by
  have h1 := getN_put n (by omega)
  have h2 := getN_cntB n (by omega) 4 (by omega)
  have h3 : getN (cntB n) = getN ((cntB n).take 4 ++ (cntB n).drop 4) := by rw [List.take_append_drop]
  rw [getN_app, h2] at h3
  have h4 : n / 256 ^ (8 - 4) = 0 := Nat.div_eq_of_lt (by omega)
  rw [h4] at h3
  unfold be4
  omega
theorem put_getN (b : List UInt8) (h : b.length = 8) : cntB (getN b) = b := by
  have hb := getN_bound b
  rw [h] at hb
  exact getN_inj _ _ (by rw [cntB_len, h]) (getN_put _ (by omega))
theorem be4_getN (b : List UInt8) (h : b.length = 4) : be4 (getN b) = b := by
  have hb := getN_bound b
  rw [h] at hb
  exact getN_inj _ _ (by rw [be4_len, h]) (getN_be4 _ (by omega))
theorem svB_put (ch : List Int) (h : ∀ n ∈ ch, 0 ≤ n ∧ n < 256) : svB (ch.map ub) = ch := by
  unfold svB
  rw [List.map_map]
  conv => rhs; rw [← List.map_id ch]
  apply List.map_congr_left
  intro n hn
  exact ub_toNat n (h n hn).1 (h n hn).2
theorem put_svB (b : List UInt8) : (svB b).map ub = b := by
  unfold svB
  rw [List.map_map]
  conv => rhs; rw [← List.map_id b]
  apply List.map_congr_left
  intro x _
  exact ub_byte x
/-- A frame's bytes, part by part. -/
def mkB (x0 x1 : UInt8) (a c : List UInt8) (x : UInt8) (ch : List UInt8) (k : UInt8) (q n bd : List UInt8) : List UInt8 := x0 :: x1 :: (a ++ (c ++ (x :: (ch ++ (k :: (q ++ (n ++ bd)))))))
section
variable (x0 x1 : UInt8) (a c : List UInt8) (x : UInt8) (ch : List UInt8) (k : UInt8) (q n bd : List UInt8) (ha : a.length = 8) (hc : c.length = 8)
include ha hc
theorem mF_mkB : mF (mkB x0 x1 a c x ch k q n bd) = x.toNat := by
  unfold mF mkB
  rw [List.drop_succ_cons, List.drop_succ_cons, List.drop_zero, List.getD_eq_getElem?_getD, List.getElem?_append_right (by omega), List.getElem?_append_right (by omega), ha, hc]
  rfl
theorem restF_mkB (hx : ch.length = x.toNat) : restF (mkB x0 x1 a c x ch k q n bd) = k :: (q ++ (n ++ bd)) := by
  unfold restF
  rw [mF_mkB x0 x1 a c x ch k q n bd ha hc, ← hx]
  unfold mkB
  rw [show 19 + ch.length = (8 + (8 + (ch.length + 1))) + 1 + 1 by omega, List.drop_succ_cons, List.drop_succ_cons]
  rw [List.drop_append, ha, List.drop_of_length_le (by omega), List.nil_append, show 8 + (8 + (ch.length + 1)) - 8 = 8 + (ch.length + 1) by omega]
  rw [List.drop_append, hc, List.drop_of_length_le (by omega), List.nil_append, show 8 + (ch.length + 1) - 8 = ch.length + 1 by omega]
  rw [List.drop_succ_cons, List.drop_left]
theorem stB_mkB (hx : ch.length = x.toNat) : stB ((mkB x0 x1 a c x ch k q n bd).drop 2) (mF (mkB x0 x1 a c x ch k q n bd)) = ⟨getN a, getN c, svB ch⟩ := by
  rw [mF_mkB x0 x1 a c x ch k q n bd ha hc, ← hx]
  unfold mkB stB
  rw [List.drop_succ_cons, List.drop_succ_cons, List.drop_zero]
  have e1 : List.take 8 (a ++ (c ++ (x :: (ch ++ (k :: (q ++ (n ++ bd))))))) = a := by rw [← ha, List.take_left]
  have e2 : List.drop 8 (a ++ (c ++ (x :: (ch ++ (k :: (q ++ (n ++ bd))))))) = c ++ (x :: (ch ++ (k :: (q ++ (n ++ bd))))) := by rw [← ha, List.drop_left]
  have e3 : List.take 8 (c ++ (x :: (ch ++ (k :: (q ++ (n ++ bd)))))) = c := by rw [← hc, List.take_left]
  have e4 : List.drop 17 (a ++ (c ++ (x :: (ch ++ (k :: (q ++ (n ++ bd))))))) = ch ++ (k :: (q ++ (n ++ bd))) := by
    rw [show 17 = 8 + 9 by rfl, ← List.drop_drop, e2, show 9 = 8 + 1 by rfl, ← List.drop_drop, show List.drop 8 (c ++ (x :: (ch ++ (k :: (q ++ (n ++ bd)))))) = x :: (ch ++ (k :: (q ++ (n ++ bd)))) by rw [← hc, List.drop_left], List.drop_succ_cons, List.drop_zero]
  rw [e1, e2, e3, e4, List.take_left]
theorem frmB_mkB (hx : ch.length = x.toNat) (hq : q.length = 4) (hn : n.length = 4) : frmB (mkB x0 x1 a c x ch k q n bd) = ⟨(x0.toNat : Int), (x1.toNat : Int), ⟨getN a, getN c, svB ch⟩, (k.toNat : Int), (getN q : Int), bd⟩ := by
  unfold frmB
  rw [stB_mkB x0 x1 a c x ch k q n bd ha hc hx, restF_mkB x0 x1 a c x ch k q n bd ha hc hx]
  have e1 : List.take 4 (List.drop 1 (k :: (q ++ (n ++ bd)))) = q := by rw [List.drop_succ_cons, List.drop_zero, ← hq, List.take_left]
  have e2 : List.drop 9 (k :: (q ++ (n ++ bd))) = bd := by
    rw [List.drop_succ_cons, show 8 = 4 + 4 by rfl, ← List.drop_drop, show List.drop 4 (q ++ (n ++ bd)) = n ++ bd by rw [← hq, List.drop_left], ← hn, List.drop_left]
  rw [e1, e2]; rfl
theorem many_mkB (hx : ch.length = x.toNat) (hq : q.length = 4) (hn : n.length = 4) : ((restF (mkB x0 x1 a c x ch k q n bd)).drop 5).take 4 = n ∧ (restF (mkB x0 x1 a c x ch k q n bd)).drop 9 = bd := by
  rw [restF_mkB x0 x1 a c x ch k q n bd ha hc hx]
  constructor
  · rw [List.drop_succ_cons, show List.drop 4 (q ++ (n ++ bd)) = n ++ bd by rw [← hq, List.drop_left], ← hn, List.take_left]
  · rw [List.drop_succ_cons, show 8 = 4 + 4 by rfl, ← List.drop_drop, show List.drop 4 (q ++ (n ++ bd)) = n ++ bd by rw [← hq, List.drop_left], ← hn, List.drop_left]
end
theorem mkB_len (x0 x1 : UInt8) (a c : List UInt8) (x : UInt8) (ch : List UInt8) (k : UInt8) (q n bd : List UInt8) : (mkB x0 x1 a c x ch k q n bd).length = 4 + a.length + c.length + ch.length + q.length + n.length + bd.length := by
  simp [mkB]; omega
theorem cut_at {b : List UInt8} {n : Nat} (h : n ≤ b.length) : ∃ a c, b = a ++ c ∧ a.length = n := ⟨b.take n, b.drop n, (List.take_append_drop _ _).symm, by simp; omega⟩
theorem cut_one {b : List UInt8} (h : 1 ≤ b.length) : ∃ x c, b = x :: c := by
  rcases b with _ | ⟨x, c⟩
  · simp at h
  · exact ⟨x, c, rfl⟩
theorem mkB_ex {b : List UInt8} (h : 28 + mF b ≤ b.length) : ∃ x0 x1 a c x ch k q n bd, b = mkB x0 x1 a c x ch k q n bd ∧ a.length = 8 ∧ c.length = 8 ∧ ch.length = x.toNat ∧ q.length = 4 ∧ n.length = 4 := by
  obtain ⟨x0, b1, rfl⟩ := cut_one (b := b) (by omega)
  obtain ⟨x1, b2, rfl⟩ := cut_one (b := b1) (by simp at h; omega)
  obtain ⟨a, b3, rfl, ha⟩ := cut_at (b := b2) (n := 8) (by simp at h; omega)
  obtain ⟨c, b4, rfl, hc⟩ := cut_at (b := b3) (n := 8) (by simp at h; omega)
  obtain ⟨x, b5, rfl⟩ := cut_one (b := b4) (by simp at h; omega)
  have hm := mF_mkB x0 x1 a c x [] 0 [] [] b5 ha hc
  have hm2 : mF (x0 :: x1 :: (a ++ (c ++ x :: b5))) = x.toNat := by
    unfold mF
    rw [List.drop_succ_cons, List.drop_succ_cons, List.drop_zero, List.getD_eq_getElem?_getD, List.getElem?_append_right (by omega), List.getElem?_append_right (by omega), ha, hc]
    rfl
  rw [hm2] at h
  clear hm hm2
  obtain ⟨ch, b6, rfl, hch⟩ := cut_at (b := b5) (n := x.toNat) (by simp at h; omega)
  obtain ⟨k, b7, rfl⟩ := cut_one (b := b6) (by simp at h; omega)
  obtain ⟨q, b8, rfl, hq⟩ := cut_at (b := b7) (n := 4) (by simp at h; omega)
  obtain ⟨n, b9, rfl, hn⟩ := cut_at (b := b8) (n := 4) (by simp at h; omega)
  exact ⟨x0, x1, a, c, x, ch, k, q, n, b9, rfl, ha, hc, hch, hq, hn⟩
theorem putS_app (s : Stm) : putS s = cntB s.ep ++ (cntB s.ro ++ (ub (s.ch.length : Int) :: s.ch.map ub)) := by
  simp [putS, putP, putH]
theorem saidF_mkB (f : Frm) (more : List UInt8) : saidF f ++ more = mkB (ub f.fm) (ub f.tw) (cntB f.st.ep) (cntB f.st.ro) (ub (f.st.ch.length : Int)) (f.st.ch.map ub) (ub f.kd) (be4 f.sq.toNat) (be4 f.bd.length) (f.bd ++ more) := by
  simp [saidF, putS_app, mkB]
theorem okC_bounds {ch : List Int} (h : okC ch) : ∀ n ∈ ch, 0 ≤ n ∧ n < 256 := fun n hn => by
  obtain ⟨i, hi, rfl⟩ := List.getElem_of_mem hn
  have := h.2.2 i hi
  rw [List.getD_eq_getElem?_getD, List.getElem?_eq_getElem hi] at this
  simp only [Option.getD_some] at this
  omega
structure FrmB (f : Frm) : Prop where
  ep : f.st.ep ≤ 18446744073709551615
  ro : f.st.ro ≤ 18446744073709551615
theorem said_back (f : Frm) (hf : okF f) (hb : FrmB f) (more : List UInt8) (hl : f.bd.length < 4294967296) : mF (saidF f ++ more) = f.st.ch.length ∧ frmB (saidF f ++ more) = ⟨f.fm, f.tw, f.st, f.kd, f.sq, f.bd ++ more⟩ ∧ getN (((restF (saidF f ++ more)).drop 5).take 4) = f.bd.length ∧ ((restF (saidF f ++ more)).drop 9) = f.bd ++ more := by
  obtain ⟨⟨h1, h2⟩, ⟨h3, h4⟩, _, hc, hk, hs0, hs1, _⟩ := hf
  have hc8 := hc.2.1
  have hx : (f.st.ch.map ub).length = (ub (f.st.ch.length : Int)).toNat := by
    rw [ub_mod, List.length_map]; omega
  have M := mF_mkB (ub f.fm) (ub f.tw) (cntB f.st.ep) (cntB f.st.ro) (ub (f.st.ch.length : Int)) (f.st.ch.map ub) (ub f.kd) (be4 f.sq.toNat) (be4 f.bd.length) (f.bd ++ more) (cntB_len _) (cntB_len _)
  have F := frmB_mkB (ub f.fm) (ub f.tw) (cntB f.st.ep) (cntB f.st.ro) (ub (f.st.ch.length : Int)) (f.st.ch.map ub) (ub f.kd) (be4 f.sq.toNat) (be4 f.bd.length) (f.bd ++ more) (cntB_len _) (cntB_len _) hx (be4_len _) (be4_len _)
  have N := many_mkB (ub f.fm) (ub f.tw) (cntB f.st.ep) (cntB f.st.ro) (ub (f.st.ch.length : Int)) (f.st.ch.map ub) (ub f.kd) (be4 f.sq.toNat) (be4 f.bd.length) (f.bd ++ more) (cntB_len _) (cntB_len _) hx (be4_len _) (be4_len _)
  rw [← saidF_mkB] at M F N
  refine ⟨?_, ?_, ?_, N.2⟩
  · rw [M, ← hx, List.length_map]
  · rw [F, getN_put _ hb.ep, getN_put _ hb.ro, svB_put _ (okC_bounds hc), getN_be4 _ (by omega), ub_toNat _ (by omega) (by omega), ub_toNat _ (by omega) (by omega), ub_toNat _ (by omega) (by omega)]
    rw [show ((f.sq.toNat : Nat) : Int) = f.sq by omega]
  · rw [N.1, getN_be4 _ hl]
theorem said_ok (f : Frm) (hf : okF f) (hb : FrmB f) (hl : f.bd.length ≤ 65536) : RdOk (saidF f) ∧ frmB (saidF f) = f := by
  have B := said_back f hf hb [] (by omega)
  simp only [List.append_nil] at B
  obtain ⟨B1, B2, B3, B4⟩ := B
  have e : frmB (saidF f) = f := B2
  refine ⟨⟨by rw [B1, saidF_len]; omega, by rw [B3, B4], by rw [e]; exact hf⟩, e⟩
theorem said_more (f : Frm) (hf : okF f) (hb : FrmB f) (hl : f.bd.length ≤ 65536) (more : List UInt8) (hm : 1 ≤ more.length) : ¬ RdOk (saidF f ++ more) := fun R => by
  obtain ⟨_, _, B3, B4⟩ := said_back f hf hb more (by omega)
  have := R.2.1
  rw [B3, B4, List.length_append] at this
  omega
theorem said_less (f : Frm) (hf : okF f) (hb : FrmB f) (hl : f.bd.length ≤ 65536) (k : Nat) (hk : k < (saidF f).length) : ¬ RdOk ((saidF f).take k) := fun R => by
  have B := said_back f hf hb [] (by omega)
  simp only [List.append_nil] at B
  obtain ⟨B1, _, B3, _⟩ := B
  obtain ⟨R1, R2, _⟩ := R
  have hlk : ((saidF f).take k).length = k := by rw [List.length_take]; omega
  rw [hlk] at R1
  have hm : mF ((saidF f).take k) = mF (saidF f) := by
    unfold mF
    rw [List.getD_eq_getElem?_getD, List.getD_eq_getElem?_getD, List.getElem?_drop, List.getElem?_drop, List.getElem?_take_of_lt (by omega)]
  have hr : restF ((saidF f).take k) = (restF (saidF f)).take (k - (19 + mF (saidF f))) := by
    unfold restF
    rw [hm, List.drop_take]
  rw [hm] at R1
  rw [hr] at R2
  have e5 : List.take 4 (List.drop 5 ((restF (saidF f)).take (k - (19 + mF (saidF f))))) = List.take 4 (List.drop 5 (restF (saidF f))) := by
    rw [List.drop_take, List.take_take, Nat.min_eq_left (by omega)]
  rw [e5, B3] at R2
  have hl9 : (List.drop 9 ((restF (saidF f)).take (k - (19 + mF (saidF f))))).length ≤ k - (28 + mF (saidF f)) := by
    rw [List.length_drop, List.length_take]; omega
  rw [saidF_len] at hk
  omega
theorem said_get (b : List UInt8) (h : RdOk b) : saidF (frmB b) = b ∧ FrmB (frmB b) := by
  obtain ⟨h1, h2, h3⟩ := h
  obtain ⟨x0, x1, a, c, x, ch, k, q, n, bd, rfl, ha, hc, hx, hq, hn⟩ := mkB_ex h1
  have F := frmB_mkB x0 x1 a c x ch k q n bd ha hc hx hq hn
  have N := many_mkB x0 x1 a c x ch k q n bd ha hc hx hq hn
  rw [N.1, N.2] at h2
  have ba := getN_bound a
  have bc := getN_bound c
  rw [ha] at ba
  rw [hc] at bc
  rw [F]
  refine ⟨?_, ⟨by show getN a ≤ _; omega, by show getN c ≤ _; omega⟩⟩
  have S := saidF_mkB ⟨(x0.toNat : Int), (x1.toNat : Int), ⟨getN a, getN c, svB ch⟩, (k.toNat : Int), (getN q : Int), bd⟩ []
  rw [List.append_nil] at S
  rw [S]
  show mkB (ub (x0.toNat : Int)) (ub (x1.toNat : Int)) (cntB (getN a)) (cntB (getN c)) (ub ((svB ch).length : Int)) ((svB ch).map ub) (ub (k.toNat : Int)) (be4 ((getN q : Nat) : Int).toNat) (be4 bd.length) (bd ++ []) = _
  rw [ub_byte, ub_byte, ub_byte, put_getN a ha, put_getN c hc, put_svB, svB_len, hx, ub_byte, Int.toNat_natCast, be4_getN q hq, ← h2, be4_getN n hn, List.append_nil]
theorem allF_put (key : List UInt8) (f : Frm) : allF (putF key f) = saidF f ∧ endF (putF key f) = macTag key (saidF f) := by
  have e : (putF key f).length - 32 = (saidF f).length := by simp [putF, macTag_len]
  unfold allF endF
  rw [e]
  exact ⟨List.take_left, List.drop_left⟩
theorem put_take (key : List UInt8) (f : Frm) (hf : okF f) (hb : FrmB f) (hl : f.bd.length ≤ 65536) : TkOk key (putF key f) ∧ frmB (allF (putF key f)) = f := by
  obtain ⟨e1, e2⟩ := allF_put key f
  have S := said_ok f hf hb hl
  refine ⟨⟨by rw [putF_len]; omega, by rw [e1]; exact S.1, by rw [e1, e2]⟩, by rw [e1]; exact S.2⟩
theorem take_put (key b : List UInt8) (h : TkOk key b) : putF key (frmB (allF b)) = b := by
  obtain ⟨h1, h2, h3⟩ := h
  unfold putF
  rw [(said_get (allF b) h2).1, ← h3]
  exact List.take_append_drop _ _
end Go.Proofs.YtiifcgaililllaaDoor

/- frames: the same; few. -/
namespace Go.Proofs.YtiifcgaililllaaDoor
set_option linter.unusedSimpArgs false
set_option linter.unusedVariables false
open Go Go.RowKit
attribute [local congr] AW_congr AOs_congr aCall_congr aCall1_congr aSem_congr aSliceO_congr aBuildO_congr aStoreO_congr
attribute [local go_sem] uC_own uC_ids uC_shift uC_frz uC_length tabK_uC ub_v bytes_set bytesE_one1 bytesE_consr bytesE_append bytesE_drop bytesE_take rowsE_length rowsE_get Option.map_map bytesE_length bytesE_get shiftE_bytes shiftE_rows exBytesE str_beq bytesE_take_self List.take_length
set_option maxRecDepth 100000

attribute [local simp] leEs_bytes leEs_iE iE_allP
set_option maxHeartbeats 4000000 in
theorem frSame_pc (f g : Frm) (r : Bool) (hr : r = true ↔ f = g) (ha : f.st.ch.length ≤ 1000000000) (hb : g.st.ch.length ≤ 1000000000) : PC Tryd.prog 16 [frmT f, frmT g] [] (boolT r) := by
  have hr2 : r = true ↔ (f.fm = g.fm ∧ f.tw = g.tw ∧ f.st = g.st ∧ f.kd = g.kd ∧ f.sq = g.sq ∧ f.bd = g.bd) := by
    rw [hr]; obtain ⟨fm, tw, s, kd, sq, bd⟩ := f; obtain ⟨fm2, tw2, s2, kd2, sq2, bd2⟩ := g; simp
  clear hr
  have hr := hr2
  clear hr2
  obtain ⟨fm, tw, ⟨ep, ro, ch⟩, kd, sq, bd⟩ := f
  obtain ⟨fm2, tw2, ⟨ep2, ro2, ch2⟩, kd2, sq2, bd2⟩ := g
  simp only [frmT, frmC] at *
  have bad : ¬ (fm = fm2 ∧ tw = tw2 ∧ (⟨ep, ro, ch⟩ : Stm) = ⟨ep2, ro2, ch2⟩ ∧ kd = kd2 ∧ sq = sq2 ∧ bd = bd2) → r = false := fun q => by
    rcases r with _ | _
    · rfl
    · exact absurd (hr.1 rfl) q
  by_cases a1 : fm = fm2
  rotate_left 1
  have g1 : (fm == fm2) = false := by simpa using a1
  obtain rfl : r = false := bad (fun q => a1 q.1)
  have g2 : True := trivial
  have g4 : True := trivial
  have g5 : True := trivial
  have S : True := trivial
  have E : True := trivial
  rotate_right 1
  have g1 : (fm == fm2) = true := by simpa using a1
  by_cases a2 : tw = tw2
  rotate_left 1
  have g2 : (tw == tw2) = false := by simpa using a2
  obtain rfl : r = false := bad (fun q => a2 q.2.1)
  have g4 : True := trivial
  have g5 : True := trivial
  have S : True := trivial
  have E : True := trivial
  rotate_right 1
  have g2 : (tw == tw2) = true := by simpa using a2
  by_cases a3 : (⟨ep, ro, ch⟩ : Stm) = ⟨ep2, ro2, ch2⟩
  rotate_left 1
  have S := stSame_pc ⟨ep, ro, ch⟩ ⟨ep2, ro2, ch2⟩ false ⟨fun q => absurd q (by simp), fun q => absurd q a3⟩ ha hb
  simp only [stmT, stmC] at S
  obtain rfl : r = false := bad (fun q => a3 q.2.2.1)
  have g4 : True := trivial
  have g5 : True := trivial
  have E : True := trivial
  rotate_right 1
  have S := stSame_pc ⟨ep, ro, ch⟩ ⟨ep2, ro2, ch2⟩ true ⟨fun _ => a3, fun _ => rfl⟩ ha hb
  simp only [stmT, stmC] at S
  by_cases a4 : kd = kd2
  rotate_left 1
  have g4 : (kd == kd2) = false := by simpa using a4
  obtain rfl : r = false := bad (fun q => a4 q.2.2.2.1)
  have g5 : True := trivial
  have E : True := trivial
  rotate_right 1
  have g4 : (kd == kd2) = true := by simpa using a4
  by_cases a5 : sq = sq2
  rotate_left 1
  have g5 : (sq == sq2) = false := by simpa using a5
  obtain rfl : r = false := bad (fun q => a5 q.2.2.2.2.1)
  have E : True := trivial
  rotate_right 1
  have g5 : (sq == sq2) = true := by simpa using a5
  by_cases a6 : bd = bd2
  rotate_left 1
  have E := equalB_pc bd bd2
  rw [show decide (bd = bd2) = false by simpa using a6] at E
  obtain rfl : r = false := bad (fun q => a6 q.2.2.2.2.2)
  rotate_right 1
  have E := equalB_pc bd bd2
  rw [show decide (bd = bd2) = true by simpa using a6] at E
  obtain rfl : r = true := hr.2 ⟨a1, a2, a3, a4, a5, a6⟩
  all_goals (
    refine PC.of_body Tryd.func16 rfl ?_
    intro Γ _ _
    simp only [Tryd.ntmps16, List.length_cons, List.length_nil, Nat.reduceAdd, Nat.reduceSub, List.replicate_succ, List.replicate_zero, List.cons_append, List.nil_append]
    repeat' (first
    | (with_reducible first | refine AW.seq ?_ | refine AW.block ?_ | refine AW.ret ?_ | refine AW.skip ?_ | refine AW.exit ?_)
    | ((refine AW.cond (by rfl) (fun hc => ?_) (fun hc => ?_)) <;> (try simp only [hcS] at hc) <;> (try first | contradiction | (exfalso; omega)))
    | ((refine AW.condB (by rfl) (fun hc => ?_) (fun hc => ?_)))
    | ((first | (refine aCall.pers (S) fnOk29 ?_ ?_ ?_ ?_; (focus rfl); (focus rfl); (focus (simp [persT, persL, g1, g2, g4, g5]; done))) | (refine aCall.pers (E) fnOk30 ?_ ?_ ?_ ?_; (focus rfl); (focus rfl); (focus (simp [persT, persL, g1, g2, g4, g5]; done))) | (with_reducible refine AW.regionK mo (by kernel_rfl) ?_; intro K hK) | (with_reducible refine aSliceO.l ?_) | (with_reducible refine aBuildO.l ?_) | (with_reducible refine aStoreO.l ?_)); simp (maxSteps := 2000000) only [↓askG_tt, ↓askG_ff, ↓askG_tf, ↓askG_ft, ↓AOp, ↓aBin, ↓aUn, ↓aConv, ↓aAlloc, ↓aBox, ↓aBuild, ↓aLoad, ↓aStore, ↓aNil, ↓aFieldAddr, ↓aField, ↓aExtract, ↓aIndexAddr, ↓aIndex, ↓aSlice, ↓aMake, ↓aBuildSlice, ↓aFrz, ↓aLen, ↓aAppend, ↓aCopy, Nat.reduceAdd, Nat.reduceSub, Nat.reduceMul, Nat.reduceLT, Nat.reduceLeDiff, Nat.reduceEqDiff, Int.reduceToNat, Int.reduceBEq, Int.reduceBNe, Int.reduceEq, Int.reduceNe, Int.reduceNeg, Int.reduceLE, Int.reduceLT, reduceIte, reduceCtorEq, go_sem, Nat.add_sub_cancel, Nat.add_one_sub_one, Nat.sub_zero, Nat.mul_one, shiftP, shiftT, shiftC, shiftL, shiftB, newIds, idsOfT, List.zipIdx_cons, List.zipIdx_nil, g1, g2, g4, g5])
    | (with_reducible refine hK _ ?_; clear hK K)
    | (with_reducible refine askG.mk (fun hg => ?_) (fun hg => ?_) <;> (try simp only [hcS] at hg) <;> (try first | contradiction | (exfalso; omega)))
    | ((with_reducible refine And.intro ?_ ?_); focus (first | (with_reducible show pairsOk _ _ = true; kernel_rfl) | omega | (with_reducible assumption) | kernel_rfl | (exact bytesE_len _) | (exact iE_one _) | (exact iE_allP _) | (exact bytesE_allP _) | (exact rowsE_len _) | (exact rowsE_allP _) | ((simp [allP_nil, allP_cons, persL]; done)) | ((simp [byV]; done)) | (simp; done) | (simp; omega)))
    | ((with_reducible first | show inBlockS _ _ _ _ | show thenS _ _ _ _); simp only [inBlockS, thenS, reduceIte, Nat.reduceEqDiff]))
    all_goals (refine ⟨_, [], rfl, ⟨rfl, ?_, ?_, ?_⟩⟩ <;> simp [go_sem, Nat.add_sub_cancel, Nat.add_one_sub_one, Nat.sub_zero, Nat.mul_one, finP, finPs, viewP, viewPs, finT, finC, finCs, finL, finLs, finBs, viewOk, viewsOk, persL, inT, inC, inCs, inL, inLs, ndB, allP_nil, allP_cons, allP_append]))
set_option maxHeartbeats 4000000 in
theorem refFrSame_pc (f g : Frm) (r : Bool) (hr : r = true ↔ f = g) (ha : f.st.ch.length ≤ 1000000000) (hb : g.st.ch.length ≤ 1000000000) : PC Tryd.prog 17 [frmT f, frmT g] [] (boolT r) := by
  have hr2 : r = true ↔ (f.fm = g.fm ∧ f.tw = g.tw ∧ f.st = g.st ∧ f.kd = g.kd ∧ f.sq = g.sq ∧ f.bd = g.bd) := by
    rw [hr]; obtain ⟨fm, tw, s, kd, sq, bd⟩ := f; obtain ⟨fm2, tw2, s2, kd2, sq2, bd2⟩ := g; simp
  clear hr
  have hr := hr2
  clear hr2
  obtain ⟨fm, tw, ⟨ep, ro, ch⟩, kd, sq, bd⟩ := f
  obtain ⟨fm2, tw2, ⟨ep2, ro2, ch2⟩, kd2, sq2, bd2⟩ := g
  simp only [frmT, frmC] at *
  have bad : ¬ (fm = fm2 ∧ tw = tw2 ∧ (⟨ep, ro, ch⟩ : Stm) = ⟨ep2, ro2, ch2⟩ ∧ kd = kd2 ∧ sq = sq2 ∧ bd = bd2) → r = false := fun q => by
    rcases r with _ | _
    · rfl
    · exact absurd (hr.1 rfl) q
  by_cases a1 : fm = fm2
  rotate_left 1
  have g1 : (fm == fm2) = false := by simpa using a1
  obtain rfl : r = false := bad (fun q => a1 q.1)
  have g2 : True := trivial
  have g4 : True := trivial
  have g5 : True := trivial
  have S : True := trivial
  have E : True := trivial
  rotate_right 1
  have g1 : (fm == fm2) = true := by simpa using a1
  by_cases a2 : tw = tw2
  rotate_left 1
  have g2 : (tw == tw2) = false := by simpa using a2
  obtain rfl : r = false := bad (fun q => a2 q.2.1)
  have g4 : True := trivial
  have g5 : True := trivial
  have S : True := trivial
  have E : True := trivial
  rotate_right 1
  have g2 : (tw == tw2) = true := by simpa using a2
  by_cases a3 : (⟨ep, ro, ch⟩ : Stm) = ⟨ep2, ro2, ch2⟩
  rotate_left 1
  have S := refStSame_pc ⟨ep, ro, ch⟩ ⟨ep2, ro2, ch2⟩ false ⟨fun q => absurd q (by simp), fun q => absurd q a3⟩ ha hb
  simp only [stmT, stmC] at S
  obtain rfl : r = false := bad (fun q => a3 q.2.2.1)
  have g4 : True := trivial
  have g5 : True := trivial
  have E : True := trivial
  rotate_right 1
  have S := refStSame_pc ⟨ep, ro, ch⟩ ⟨ep2, ro2, ch2⟩ true ⟨fun _ => a3, fun _ => rfl⟩ ha hb
  simp only [stmT, stmC] at S
  by_cases a4 : kd = kd2
  rotate_left 1
  have g4 : (kd == kd2) = false := by simpa using a4
  obtain rfl : r = false := bad (fun q => a4 q.2.2.2.1)
  have g5 : True := trivial
  have E : True := trivial
  rotate_right 1
  have g4 : (kd == kd2) = true := by simpa using a4
  by_cases a5 : sq = sq2
  rotate_left 1
  have g5 : (sq == sq2) = false := by simpa using a5
  obtain rfl : r = false := bad (fun q => a5 q.2.2.2.2.1)
  have E : True := trivial
  rotate_right 1
  have g5 : (sq == sq2) = true := by simpa using a5
  by_cases a6 : bd = bd2
  rotate_left 1
  have E := same_pc bd bd2
  rw [show decide (bd = bd2) = false by simpa using a6] at E
  obtain rfl : r = false := bad (fun q => a6 q.2.2.2.2.2)
  rotate_right 1
  have E := same_pc bd bd2
  rw [show decide (bd = bd2) = true by simpa using a6] at E
  obtain rfl : r = true := hr.2 ⟨a1, a2, a3, a4, a5, a6⟩
  all_goals (
    refine PC.of_body Tryd.func17 rfl ?_
    intro Γ _ _
    simp only [Tryd.ntmps17, List.length_cons, List.length_nil, Nat.reduceAdd, Nat.reduceSub, List.replicate_succ, List.replicate_zero, List.cons_append, List.nil_append]
    repeat' (first
    | (with_reducible first | refine AW.seq ?_ | refine AW.block ?_ | refine AW.ret ?_ | refine AW.skip ?_ | refine AW.exit ?_)
    | ((refine AW.cond (by rfl) (fun hc => ?_) (fun hc => ?_)) <;> (try simp only [hcS] at hc) <;> (try first | contradiction | (exfalso; omega)))
    | ((refine AW.condB (by rfl) (fun hc => ?_) (fun hc => ?_)))
    | ((first | (refine aCall.pers (S) fnOk31 ?_ ?_ ?_ ?_; (focus rfl); (focus rfl); (focus (simp [persT, persL, g1, g2, g4, g5]; done))) | (refine aCall.pers (E) fnOk15 ?_ ?_ ?_ ?_; (focus rfl); (focus rfl); (focus (simp [persT, persL, g1, g2, g4, g5]; done))) | (with_reducible refine AW.regionK mo (by kernel_rfl) ?_; intro K hK) | (with_reducible refine aSliceO.l ?_) | (with_reducible refine aBuildO.l ?_) | (with_reducible refine aStoreO.l ?_)); simp (maxSteps := 2000000) only [↓askG_tt, ↓askG_ff, ↓askG_tf, ↓askG_ft, ↓AOp, ↓aBin, ↓aUn, ↓aConv, ↓aAlloc, ↓aBox, ↓aBuild, ↓aLoad, ↓aStore, ↓aNil, ↓aFieldAddr, ↓aField, ↓aExtract, ↓aIndexAddr, ↓aIndex, ↓aSlice, ↓aMake, ↓aBuildSlice, ↓aFrz, ↓aLen, ↓aAppend, ↓aCopy, Nat.reduceAdd, Nat.reduceSub, Nat.reduceMul, Nat.reduceLT, Nat.reduceLeDiff, Nat.reduceEqDiff, Int.reduceToNat, Int.reduceBEq, Int.reduceBNe, Int.reduceEq, Int.reduceNe, Int.reduceNeg, Int.reduceLE, Int.reduceLT, reduceIte, reduceCtorEq, go_sem, Nat.add_sub_cancel, Nat.add_one_sub_one, Nat.sub_zero, Nat.mul_one, shiftP, shiftT, shiftC, shiftL, shiftB, newIds, idsOfT, List.zipIdx_cons, List.zipIdx_nil, g1, g2, g4, g5])
    | (with_reducible refine hK _ ?_; clear hK K)
    | (with_reducible refine askG.mk (fun hg => ?_) (fun hg => ?_) <;> (try simp only [hcS] at hg) <;> (try first | contradiction | (exfalso; omega)))
    | ((with_reducible refine And.intro ?_ ?_); focus (first | (with_reducible show pairsOk _ _ = true; kernel_rfl) | omega | (with_reducible assumption) | kernel_rfl | (exact bytesE_len _) | (exact iE_one _) | (exact iE_allP _) | (exact bytesE_allP _) | (exact rowsE_len _) | (exact rowsE_allP _) | ((simp [allP_nil, allP_cons, persL]; done)) | ((simp [byV]; done)) | (simp; done) | (simp; omega)))
    | ((with_reducible first | show inBlockS _ _ _ _ | show thenS _ _ _ _); simp only [inBlockS, thenS, reduceIte, Nat.reduceEqDiff]))
    all_goals (refine ⟨_, [], rfl, ⟨rfl, ?_, ?_, ?_⟩⟩ <;> simp [go_sem, Nat.add_sub_cancel, Nat.add_one_sub_one, Nat.sub_zero, Nat.mul_one, finP, finPs, viewP, viewPs, finT, finC, finCs, finL, finLs, finBs, viewOk, viewsOk, persL, inT, inC, inCs, inL, inLs, ndB, allP_nil, allP_cons, allP_append]))

def FewF (key : List UInt8) (f : Frm) (b : List UInt8) : Prop := key.length ≤ 200 ∧ f.bd.length ≤ 600 ∧ f.st.ch.length ≤ 60 ∧ b.length ≤ 800
theorem frFew_pc (key : List UInt8) (f : Frm) (b : List UInt8) (r : Bool) (hr : r = true ↔ FewF key f b) : PC Tryd.prog 10 [bytesT key, frmT f, bytesT b] [] (boolT r) := by
  have bad : ¬ FewF key f b → r = false := fun q => by
    rcases r with _ | _
    · rfl
    · exact absurd (hr.1 rfl) q
  have good := hr.2
  clear hr
  obtain ⟨fm, tw, ⟨ep, ro, ch⟩, kd, sq, bd⟩ := f
  simp only [frmT, frmC, FewF] at *
  by_cases a1 : key.length ≤ 200
  rotate_left 1
  have g1 : decide ((key.length : Int) ≤ 200) = false := decide_eq_false (by omega)
  obtain rfl := bad (fun q => by omega)
  have g2 : True := trivial
  have g3 : True := trivial
  have g4 : True := trivial
  rotate_right 1
  have g1 : decide ((key.length : Int) ≤ 200) = true := decide_eq_true (by omega)
  by_cases a2 : bd.length ≤ 600
  rotate_left 1
  have g2 : decide ((bd.length : Int) ≤ 600) = false := decide_eq_false (by omega)
  obtain rfl := bad (fun q => by omega)
  have g3 : True := trivial
  have g4 : True := trivial
  rotate_right 1
  have g2 : decide ((bd.length : Int) ≤ 600) = true := decide_eq_true (by omega)
  by_cases a3 : ch.length ≤ 60
  rotate_left 1
  have g3 : decide ((ch.length : Int) ≤ 60) = false := decide_eq_false (by omega)
  obtain rfl := bad (fun q => by omega)
  have g4 : True := trivial
  rotate_right 1
  have g3 : decide ((ch.length : Int) ≤ 60) = true := decide_eq_true (by omega)
  by_cases a4 : b.length ≤ 800
  rotate_left 1
  have g4 : decide ((b.length : Int) ≤ 800) = false := decide_eq_false (by omega)
  obtain rfl := bad (fun q => by omega)
  rotate_right 1
  have g4 : decide ((b.length : Int) ≤ 800) = true := decide_eq_true (by omega)
  obtain rfl := good ⟨a1, a2, a3, a4⟩
  all_goals (
    refine PC.of_body Tryd.func10 rfl ?_
    intro Γ _ _
    simp only [Tryd.ntmps10, List.length_cons, List.length_nil, Nat.reduceAdd, Nat.reduceSub, List.replicate_succ, List.replicate_zero, List.cons_append, List.nil_append]
    repeat' (first
    | (with_reducible first | refine AW.seq ?_ | refine AW.block ?_ | refine AW.ret ?_ | refine AW.skip ?_ | refine AW.exit ?_)
    | ((refine AW.cond (by rfl) (fun hc => ?_) (fun hc => ?_)) <;> (try simp only [hcS] at hc) <;> (try first | contradiction | (exfalso; omega)))
    | ((refine AW.condB (by rfl) (fun hc => ?_) (fun hc => ?_)))
    | ((first | (with_reducible refine AW.regionK mo (by kernel_rfl) ?_; intro K hK) | (with_reducible refine aSliceO.l ?_) | (with_reducible refine aBuildO.l ?_) | (with_reducible refine aStoreO.l ?_)); simp (maxSteps := 2000000) only [↓askG_tt, ↓askG_ff, ↓askG_tf, ↓askG_ft, ↓AOp, ↓aBin, ↓aUn, ↓aConv, ↓aAlloc, ↓aBox, ↓aBuild, ↓aLoad, ↓aStore, ↓aNil, ↓aFieldAddr, ↓aField, ↓aExtract, ↓aIndexAddr, ↓aIndex, ↓aSlice, ↓aMake, ↓aBuildSlice, ↓aFrz, ↓aLen, ↓aAppend, ↓aCopy, Nat.reduceAdd, Nat.reduceSub, Nat.reduceMul, Nat.reduceLT, Nat.reduceLeDiff, Nat.reduceEqDiff, Int.reduceToNat, Int.reduceBEq, Int.reduceBNe, Int.reduceEq, Int.reduceNe, Int.reduceNeg, Int.reduceLE, Int.reduceLT, reduceIte, reduceCtorEq, go_sem, Nat.add_sub_cancel, Nat.add_one_sub_one, Nat.sub_zero, Nat.mul_one, shiftP, shiftT, shiftC, shiftL, shiftB, newIds, idsOfT, List.zipIdx_cons, List.zipIdx_nil, g1, g2, g3, g4, iE_len])
    | (with_reducible refine hK _ ?_; clear hK K)
    | (with_reducible refine askG.mk (fun hg => ?_) (fun hg => ?_) <;> (try simp only [hcS] at hg) <;> (try first | contradiction | (exfalso; omega)))
    | ((with_reducible refine And.intro ?_ ?_); focus (first | (with_reducible show pairsOk _ _ = true; kernel_rfl) | omega | (with_reducible assumption) | kernel_rfl | (exact bytesE_len _) | (exact iE_one _) | (exact iE_allP _) | (exact bytesE_allP _) | (exact rowsE_len _) | (exact rowsE_allP _) | ((simp [allP_nil, allP_cons, persL]; done)) | ((simp [byV]; done)) | (simp; done) | (simp; omega)))
    | ((with_reducible first | show inBlockS _ _ _ _ | show thenS _ _ _ _); simp only [inBlockS, thenS, reduceIte, Nat.reduceEqDiff]))
    all_goals (refine ⟨_, [], rfl, ⟨rfl, ?_, ?_, ?_⟩⟩ <;> simp [go_sem, Nat.add_sub_cancel, Nat.add_one_sub_one, Nat.sub_zero, Nat.mul_one, finP, finPs, viewP, viewPs, finT, finC, finCs, finL, finLs, finBs, viewOk, viewsOk, persL, inT, inC, inCs, inL, inLs, ndB, allP_nil, allP_cons, allP_append]))
end Go.Proofs.YtiifcgaililllaaDoor

/- frames: the chapter's example; frames handed in. -/
namespace Go.Proofs.YtiifcgaililllaaDoor
set_option linter.unusedSimpArgs false
set_option linter.unusedVariables false
open Go Go.RowKit
attribute [local congr] AW_congr AOs_congr aCall_congr aCall1_congr aSem_congr aSliceO_congr aBuildO_congr aStoreO_congr
attribute [local go_sem] uC_own uC_ids uC_shift uC_frz uC_length tabK_uC ub_v bytes_set bytesE_one1 bytesE_consr bytesE_append bytesE_drop bytesE_take rowsE_length rowsE_get Option.map_map bytesE_length bytesE_get shiftE_bytes shiftE_rows exBytesE str_beq bytesE_take_self List.take_length
set_option maxRecDepth 100000

attribute [local simp] leEs_bytes leEs_iE iE_allP
def liveF : Frm := ⟨1, 0, ⟨1, 1, [1, 2]⟩, 2, 3, []⟩
theorem liveF_ok : okF liveF := by
  refine ⟨by simp [okN, liveF], by simp [okN, liveF], by simp [liveF], ⟨by simp [liveF], by simp [liveF], ?_⟩, by simp [liveF], by simp [liveF], by simp [liveF], by simp [liveF]⟩
  intro j hj
  have : j = 0 ∨ j = 1 := by simp [liveF] at hj; omega
  rcases this with rfl | rfl <;> simp [liveF]
theorem liveF_b : FrmB liveF := ⟨by simp [liveF], by simp [liveF]⟩
theorem key3 : [[L.sc (.int .u8 107)], [L.sc (.int .u8 101)], [L.sc (.int .u8 121)]] = bytesE [107, 101, 121] := rfl
theorem iE_12 : [[L.sc (.int .i64 1)], [L.sc (.int .i64 2)]] = iE [1, 2] := rfl
set_option maxHeartbeats 4000000 in
theorem live_pc : PC Tryd.prog 9 [] [] (boolT true) := by
  have P := frPut_pc [107, 101, 121] liveF (by simp) liveF_ok (by simp [liveF])
  have B := put_take [107, 101, 121] liveF liveF_ok liveF_b (by simp [liveF])
  have KT := PC.slF (frTake_pc [107, 101, 121] (putF [107, 101, 121] liveF) (by simp) (by rw [putF_len]; simp [liveF]) B.1)
  rw [B.2] at KT
  have S := refFrSame_pc liveF liveF true (by simp) (by simp [liveF]) (by simp [liveF])
  have hl := putF_len [107, 101, 121] liveF
  have hl2 : 60 + liveF.st.ch.length + liveF.bd.length = 62 := rfl
  rw [hl2] at P hl
  generalize putF [107, 101, 121] liveF = z at *
  clear B hl2
  simp only [frmT, frmC, liveF] at *
  refine PC.of_body Tryd.func9 rfl ?_
  intro Γ _ _
  simp only [Tryd.ntmps9, List.length_cons, List.length_nil, Nat.reduceAdd, Nat.reduceSub, List.replicate_succ, List.replicate_zero, List.cons_append, List.nil_append]
  repeat' (first
    | (refine AW.frzB 3 z rfl ?_; simp only [↓askG_tt, ↓askG_ff, ↓askG_tf, ↓askG_ft, ↓AOp, ↓aBin, ↓aUn, ↓aConv, ↓aAlloc, ↓aBox, ↓aBuild, ↓aLoad, ↓aStore, ↓aNil, ↓aFieldAddr, ↓aField, ↓aExtract, ↓aIndexAddr, ↓aIndex, ↓aSlice, ↓aMake, ↓aBuildSlice, ↓aFrz, ↓aLen, ↓aAppend, ↓aCopy, Nat.reduceAdd, Nat.reduceSub, Nat.reduceMul, Nat.reduceLT, Nat.reduceLeDiff, Nat.reduceEqDiff, Int.reduceToNat, Int.reduceBEq, Int.reduceBNe, Int.reduceEq, Int.reduceNe, Int.reduceNeg, Int.reduceLE, Int.reduceLT, reduceIte, reduceCtorEq, go_sem, Nat.add_sub_cancel, Nat.add_one_sub_one, Nat.sub_zero, Nat.mul_one, key3, iE_12, hl])
    | (with_reducible first | refine AW.seq ?_ | refine AW.block ?_ | refine AW.ret ?_ | refine AW.skip ?_ | refine AW.exit ?_)
    | ((refine AW.cond (by rfl) (fun hc => ?_) (fun hc => ?_)) <;> (try simp only [hcS] at hc) <;> (try first | contradiction | (exfalso; omega)))
    | ((refine AW.condB (by rfl) (fun hc => ?_) (fun hc => ?_)))
    | ((first | (refine aSem.constBytes rfl rfl rfl ?_ elem22 und5 ?_ ?_; (focus simp [allP_cons, allP_nil, persL]); (focus decide)) | (refine aCall.view P fnOk11 ?_ ?_ ?_ ?_ ?_; (focus rfl); (focus (simp [plainT, plainC, plainL]; done)); (focus (first | exact plainBs_bytes _ | (simp [plainBs]; done))); (focus (simp [argsOk, viewTOk, viewP, viewPs, ↓askG_tt, ↓askG_ff, ↓askG_tf, ↓askG_ft, ↓AOp, ↓aBin, ↓aUn, ↓aConv, ↓aAlloc, ↓aBox, ↓aBuild, ↓aLoad, ↓aStore, ↓aNil, ↓aFieldAddr, ↓aField, ↓aExtract, ↓aIndexAddr, ↓aIndex, ↓aSlice, ↓aMake, ↓aBuildSlice, ↓aFrz, ↓aLen, ↓aAppend, ↓aCopy, Nat.reduceAdd, Nat.reduceSub, Nat.reduceMul, Nat.reduceLT, Nat.reduceLeDiff, Nat.reduceEqDiff, Int.reduceToNat, Int.reduceBEq, Int.reduceBNe, Int.reduceEq, Int.reduceNe, Int.reduceNeg, Int.reduceLE, Int.reduceLT, reduceIte, reduceCtorEq, go_sem, Nat.add_sub_cancel, Nat.add_one_sub_one, Nat.sub_zero, Nat.mul_one, finP, finPs, viewP, viewPs, finT, finC, finCs, finL, finLs, finBs, viewOk, viewsOk, persL, inT, inC, inCs, inL, inLs, ndB, allP_nil, allP_cons, allP_append, iE_len, bytesL]; done))) | (refine aCall.view S fnOk17 ?_ ?_ ?_ ?_ ?_; (focus rfl); (focus (simp [plainT, plainC, plainL]; done)); (focus (first | exact plainBs_bytes _ | (simp [plainBs]; done))); (focus (simp [argsOk, viewTOk, viewP, viewPs, ↓askG_tt, ↓askG_ff, ↓askG_tf, ↓askG_ft, ↓AOp, ↓aBin, ↓aUn, ↓aConv, ↓aAlloc, ↓aBox, ↓aBuild, ↓aLoad, ↓aStore, ↓aNil, ↓aFieldAddr, ↓aField, ↓aExtract, ↓aIndexAddr, ↓aIndex, ↓aSlice, ↓aMake, ↓aBuildSlice, ↓aFrz, ↓aLen, ↓aAppend, ↓aCopy, Nat.reduceAdd, Nat.reduceSub, Nat.reduceMul, Nat.reduceLT, Nat.reduceLeDiff, Nat.reduceEqDiff, Int.reduceToNat, Int.reduceBEq, Int.reduceBNe, Int.reduceEq, Int.reduceNe, Int.reduceNeg, Int.reduceLE, Int.reduceLT, reduceIte, reduceCtorEq, go_sem, Nat.add_sub_cancel, Nat.add_one_sub_one, Nat.sub_zero, Nat.mul_one, finP, finPs, viewP, viewPs, finT, finC, finCs, finL, finLs, finBs, viewOk, viewsOk, persL, inT, inC, inCs, inL, inLs, ndB, allP_nil, allP_cons, allP_append, iE_len, bytesL]; done))) | (refine aCall.pers (KT) fnOk18 ?_ ?_ ?_ ?_; (focus rfl); (focus rfl); (focus (simp [persT, persL, key3, iE_12, hl]; done))) | (with_reducible refine AW.regionK mo (by kernel_rfl) ?_; intro K hK) | (with_reducible refine aSliceO.l ?_) | (with_reducible refine aBuildO.l ?_) | (with_reducible refine aStoreO.l ?_)); simp (maxSteps := 2000000) only [↓askG_tt, ↓askG_ff, ↓askG_tf, ↓askG_ft, ↓AOp, ↓aBin, ↓aUn, ↓aConv, ↓aAlloc, ↓aBox, ↓aBuild, ↓aLoad, ↓aStore, ↓aNil, ↓aFieldAddr, ↓aField, ↓aExtract, ↓aIndexAddr, ↓aIndex, ↓aSlice, ↓aMake, ↓aBuildSlice, ↓aFrz, ↓aLen, ↓aAppend, ↓aCopy, Nat.reduceAdd, Nat.reduceSub, Nat.reduceMul, Nat.reduceLT, Nat.reduceLeDiff, Nat.reduceEqDiff, Int.reduceToNat, Int.reduceBEq, Int.reduceBNe, Int.reduceEq, Int.reduceNe, Int.reduceNeg, Int.reduceLE, Int.reduceLT, reduceIte, reduceCtorEq, go_sem, Nat.add_sub_cancel, Nat.add_one_sub_one, Nat.sub_zero, Nat.mul_one, shiftP, shiftT, shiftC, shiftL, shiftB, newIds, idsOfT, List.zipIdx_cons, List.zipIdx_nil, key3, iE_12, hl])
    | (with_reducible refine hK _ ?_; clear hK K)
    | (with_reducible refine askG.mk (fun hg => ?_) (fun hg => ?_) <;> (try simp only [hcS] at hg) <;> (try first | contradiction | (exfalso; omega)))
    | ((with_reducible refine And.intro ?_ ?_); focus (first | (with_reducible show pairsOk _ _ = true; kernel_rfl) | omega | (with_reducible assumption) | kernel_rfl | (exact bytesE_len _) | (exact iE_one _) | (exact iE_allP _) | (exact bytesE_allP _) | (exact rowsE_len _) | (exact rowsE_allP _) | ((simp [allP_nil, allP_cons, persL]; done)) | ((simp [byV]; done)) | (simp; done) | (simp; omega)))
    | ((with_reducible first | show inBlockS _ _ _ _ | show thenS _ _ _ _); simp only [inBlockS, thenS, reduceIte, Nat.reduceEqDiff]))
  all_goals (refine ⟨_, [], rfl, ⟨rfl, ?_, ?_, ?_⟩⟩ <;> simp [go_sem, Nat.add_sub_cancel, Nat.add_one_sub_one, Nat.sub_zero, Nat.mul_one, finP, finPs, viewP, viewPs, finT, finC, finCs, finL, finLs, finBs, viewOk, viewsOk, persL, inT, inC, inCs, inL, inLs, ndB, allP_nil, allP_cons, allP_append])
def FOk (f : Frm) : Prop := FrmB f
theorem shape_stm : Shape 26 stmC (fun s => s.ep ≤ 18446744073709551615 ∧ s.ro ≤ 18446744073709551615) := by
  have b := shape_struct (n := 3) Tryd.underlying26 (by kernel_rfl) (shapeF_c 1 2 (shape_u64 Tryd.underlying23) (shapeF_c 1 1 (shape_u64 Tryd.underlying23) (shapeF_c 1 0 (shape_slice (shape_i64 Tryd.underlying3) Tryd.underlying24 (b := 8) (by kernel_rfl)) shapeF_nil rfl rfl (by kernel_rfl)) rfl rfl (by kernel_rfl)) rfl rfl (by kernel_rfl))
  exact b.map (fun x => ⟨x.1, x.2.1, x.2.2.1⟩) (fun x => rfl) (fun x h => ⟨h.1, h.2.1⟩)
theorem shape_bytes : Shape 22 (fun bs => [bytesL bs]) (fun bs => bs.length ≤ 140737488351232) :=
  (shape_slice (shape_u8 Tryd.underlying5) Tryd.underlying22 (b := 1) (by kernel_rfl)).map id (fun x => rfl) (fun x h => by simpa using h.2.1)
theorem shape_frm : Shape 28 frmC FrmB := by
  have b := shape_struct (n := 8) Tryd.underlying28 (by kernel_rfl) (shapeF_c 1 7 (shape_i64 Tryd.underlying3) (shapeF_c 1 6 (shape_i64 Tryd.underlying3) (shapeF_c 3 3 shape_stm (shapeF_c 1 2 (shape_i64 Tryd.underlying3) (shapeF_c 1 1 (shape_i64 Tryd.underlying3) (shapeF_c 1 0 shape_bytes shapeF_nil rfl rfl (by kernel_rfl)) rfl rfl (by kernel_rfl)) rfl rfl (by kernel_rfl)) rfl rfl (by kernel_rfl)) rfl rfl (by kernel_rfl)) rfl rfl (by kernel_rfl))
  exact b.map (fun x => ⟨x.1, x.2.1, x.2.2.1, x.2.2.2.1, x.2.2.2.2.1, x.2.2.2.2.2.1⟩) (fun x => rfl) (fun x h => ⟨h.2.2.1.1, h.2.2.1.2⟩)
theorem OpnR.frm {W : World} {v : Value} (h : OpnR W 28 v) : ∃ f, FrmB f ∧ RT (Cx (fun _ => True) W.heap.size) h0 μ0 W (frmT f) v := by
  obtain ⟨cs, hc⟩ := h.cells_agg Tryd.underlying28
  exact h.agg shape_frm cs hc _ (fun _ => trivial)
theorem frPut_ex (key : List UInt8) (f : Frm) (hk : key.length ≤ 1000000) (hb : FrmB f) : ∃ (X : List UInt8) (e : Int), ChkF f e ∧ (e = 0 → okF f ∧ f.bd.length ≤ 65536 ∧ X = putF key f) ∧ (e ≠ 0 → X = []) ∧ PC Tryd.prog 11 [bytesT key, frmT f] [] (.tup [.leaf (bytesL X), .leaf (.sc (.int .i64 e))]) ∧ PC Tryd.prog 12 [bytesT key, frmT f] [] (.tup [.leaf (bytesL X), .leaf (.sc (.int .i64 e))]) := by
  by_cases h : okF f ∧ f.bd.length ≤ 65536
  · exact ⟨putF key f, 0, .inl ⟨h.1, h.2, rfl⟩, fun _ => ⟨h.1, h.2, rfl⟩, fun q => absurd rfl q, (frPut_pc key f hk h.1 h.2).slE, (refFrPut_pc key f hk h.1 h.2 hb.ep hb.ro).slE⟩
  · obtain ⟨e, he⟩ := chkF_ex f
    have h0 : e ≠ 0 := by
      rcases he with q | q | q
      · exact absurd ⟨q.1, q.2.1⟩ h
      · rw [q.2.2]; simp
      · rw [q.2]; simp
    exact ⟨[], e, he, fun q => absurd q h0, fun _ => rfl, frPutBad_pc key f e he h0, refFrPutBad_pc key f e he h0⟩
theorem frTake_ex (key b : List UInt8) (hk : key.length ≤ 1000000) (hb : b.length ≤ 60000) : ∃ (g : Frm) (e : Int), ((e = 0 ∧ TkOk key b ∧ g = frmB (allF b)) ∨ ((e = 3 ∨ e = 4) ∧ g = zeroF)) ∧ PC Tryd.prog 18 [bytesT key, bytesT b] [] (.tup [frmT g, .leaf (.sc (.int .i64 e))]) ∧ PC Tryd.prog 19 [bytesT key, bytesT b] [] (.tup [frmT g, .leaf (.sc (.int .i64 e))]) := by
  by_cases h : 32 ≤ b.length ∧ RdOk (allF b)
  · by_cases ht : endF b = macTag key (allF b)
    · have k : TkOk key b := ⟨h.1, h.2, ht⟩
      exact ⟨_, 0, .inl ⟨rfl, k, rfl⟩, PC.slF (frTake_pc key b hk hb k), refFrTake_pc key b hk hb k⟩
    · exact ⟨_, 4, .inr ⟨.inr rfl, rfl⟩, frTakeTag_pc key b hk hb h.1 h.2 ht, refFrTakeTag_pc key b hk hb h.1 h.2 ht⟩
  · exact ⟨_, 3, .inr ⟨.inl rfl, rfl⟩, frTakeForm_pc key b hb h, refTakeForm_pc key b hb h⟩
end Go.Proofs.YtiifcgaililllaaDoor

