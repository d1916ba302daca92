/- The walk of the law KeyPairs. -/
import Derived.Test.YtcpbheenmjekdaaDoorPwKb
namespace Go.Proofs.YtcpbheenmjekdaaDoor
set_option linter.unusedSimpArgs false
set_option linter.unusedVariables false
open Go Go.RowKit
attribute [local congr] AW_congr AOs_congr aCall_congr aCall1_congr aSem_congr aSliceO_congr aBuildO_congr aStoreO_congr
attribute [local go_sem] uC_own uC_ids uC_shift uC_frz uC_length tabK_uC ub_v bytes_set bytesE_one1 bytesE_consr bytesE_append bytesE_drop bytesE_take rowsE_length rowsE_get Option.map_map bytesE_length bytesE_get shiftE_bytes shiftE_rows exBytesE str_beq bytesE_take_self List.take_length
set_option maxRecDepth 100000

attribute [local simp] leEs_bytes
theorem OpnR.u8 {W : World} {v : Value} (h : OpnR W 5 v) : ∃ x : UInt8, RT (Cx (fun _ => True) W.heap.size) h0 μ0 W (.leaf (.sc (byV x))) v := by
  obtain ⟨x, _, r⟩ := h.leaf (shape_u8 Tryd.underlying5) (fun _ => rfl) (h.cells_int Tryd.underlying5) _ (fun _ => trivial)
  exact ⟨x, r⟩
theorem ub_toNat (x : UInt8) : ub (x.toNat : Int) = x := by
  apply UInt8.toNat.inj
  have h : x.toNat < 256 := x.toNat_lt
  unfold ub
  have e2 : ((x.toNat : Int).emod 256).toNat = x.toNat % 256 := rfl
  rw [e2, UInt8.toNat_ofNat']
  omega
def mnB (a b : UInt8) : UInt8 := if b.toNat < a.toNat then b else a
def mxB (a b : UInt8) : UInt8 := if a.toNat < b.toNat then b else a
theorem mn_B (a b : UInt8) : mn (a.toNat : Int) (b.toNat : Int) = ((mnB a b).toNat : Int) := by
  unfold mn mnB
  by_cases h : b.toNat < a.toNat
  · rw [if_pos h, if_pos (by omega)]
  · rw [if_neg h, if_neg (by omega)]
theorem mx_B (a b : UInt8) : mx (a.toNat : Int) (b.toNat : Int) = ((mxB a b).toNat : Int) := by
  unfold mx mxB
  by_cases h : a.toNat < b.toNat
  · rw [if_pos h, if_pos (by omega)]
  · rw [if_neg h, if_neg (by omega)]
theorem mn_s (a b : UInt8) : mn (b.toNat : Int) (a.toNat : Int) = mn (a.toNat : Int) (b.toNat : Int) := by
  unfold mn
  split <;> split <;> omega
theorem mx_s (a b : UInt8) : mx (b.toNat : Int) (a.toNat : Int) = mx (a.toNat : Int) (b.toNat : Int) := by
  unfold mx
  split <;> split <;> omega
set_option maxHeartbeats 2000000 in
theorem keyPairs_pc (c : Cf) (a b : UInt8) : PC Tryd.prog 4 [cfT c, .leaf (.sc (byV a)), .leaf (.sc (byV b))] [] (boolT true) := by
  have CL := live_pc
  have CC := cfCheck_pc c
  by_cases hc : cfP c
  · rw [if_pos hc] at CC
    have hs : c.seed.length ≤ 1000000 := by have := hc.1; omega
    have hv : ∀ x : UInt8, byV x = Value.int .u8 (x.toNat : Int) := fun _ => rfl
    have C1 := pair_pc c a.toNat b.toNat hs
    have C2 := pair_pc c b.toNat a.toNat hs
    have C3 := onion_pc c a.toNat hs
    have C5 := secret_pc c a.toNat hs
    have k1 : macTag c.seed [1, mnB a b, mxB a b] = keyTag c.seed 1 [((mnB a b).toNat : Int), ((mxB a b).toNat : Int)] := by simp [keyTag, ub_toNat]
    have k2 : macTag c.seed [2, a] = keyTag c.seed 2 [(a.toNat : Int)] := by simp [keyTag, ub_toNat]
    have k3 : macTag c.seed [3, a] = keyTag c.seed 3 [(a.toNat : Int)] := by simp [keyTag, ub_toNat]
    have T1 := tag_pc c.seed [1, mnB a b, mxB a b] hs (by simp)
    have T2 := tag_pc c.seed [2, a] hs (by simp)
    have T3 := tag_pc c.seed [3, a] hs (by simp)
    rw [k1] at T1
    rw [k2] at T2
    rw [k3] at T3
    rw [mn_s, mx_s, mn_B, mx_B] at C2
    rw [mn_B, mx_B] at C1
    have S1 := same_pc (keyTag c.seed 1 [((mnB a b).toNat : Int), ((mxB a b).toNat : Int)]) (keyTag c.seed 1 [((mnB a b).toNat : Int), ((mxB a b).toNat : Int)])
    have S2 := same_pc (keyTag c.seed 2 [(a.toNat : Int)]) (keyTag c.seed 2 [(a.toNat : Int)])
    have S3 := same_pc (keyTag c.seed 3 [(a.toNat : Int)]) (keyTag c.seed 3 [(a.toNat : Int)])
    have l1 := keyTag_len c.seed 1 [((mnB a b).toNat : Int), ((mxB a b).toNat : Int)]
    have l2 := keyTag_len c.seed 2 [(a.toNat : Int)]
    have l3 := keyTag_len c.seed 3 [(a.toNat : Int)]
    have m1 := mn_B a b
    have m2 := mx_B a b
    have e1 : IntKind.i64.wrap (a.toNat : Int) = (a.toNat : Int) := wrap_i64 _ (by have := a.toNat_lt; omega)
    have e2 : IntKind.i64.wrap (b.toNat : Int) = (b.toNat : Int) := wrap_i64 _ (by have := b.toNat_lt; omega)
    clear k1 k2 k3
    generalize keyTag c.seed 1 [((mnB a b).toNat : Int), ((mxB a b).toNat : Int)] = k1 at *
    generalize keyTag c.seed 2 [(a.toNat : Int)] = k2 at *
    generalize keyTag c.seed 3 [(a.toNat : Int)] = k3 at *
    obtain ⟨seed, chain, stand, clients, queue, close, long, again, window, round, seq⟩ := c
    simp only [cfT, cfC] at CC C1 C2 C3 C5 ⊢
    have T1' : PC Tryd.prog 15 [bytesT seed, .leaf (.sl [[.sc (.int .u8 1)], [.sc (.int .u8 ((mnB a b).toNat : Int))], [.sc (.int .u8 ((mxB a b).toNat : Int))]])] [⟨5, 1, bytesE k1⟩] (.leaf (.own 0 1 32)) := T1
    have T2' : PC Tryd.prog 15 [bytesT seed, .leaf (.sl [[.sc (.int .u8 2)], [.sc (.int .u8 (a.toNat : Int))]])] [⟨5, 1, bytesE k2⟩] (.leaf (.own 0 1 32)) := T2
    have T3' : PC Tryd.prog 15 [bytesT seed, .leaf (.sl [[.sc (.int .u8 3)], [.sc (.int .u8 (a.toNat : Int))]])] [⟨5, 1, bytesE k3⟩] (.leaf (.own 0 1 32)) := T3
    clear T1 T2 T3
    refine PC.of_body Tryd.func4 rfl ?_
    intro Γ _ _
    simp only [Tryd.ntmps4, List.length_cons, List.length_nil, Nat.reduceAdd, Nat.reduceSub, List.replicate_succ, List.replicate_zero, List.cons_append, List.nil_append]
    simp only [hv]
    repeat' (first
    | (with_reducible refine AW.seq ?_)
    | (with_reducible refine AW.block ?_)
    | (with_reducible refine AW.regionK mo (by kernel_rfl) ?_; intro K hK; simp (maxSteps := 2000000) only [↓askG_tt, ↓askG_ff, ↓askG_tf, ↓askG_ft, ↓AOp, ↓aBin, ↓aUn, ↓aConv, ↓aAlloc, ↓aBox, ↓aBuild, ↓aLoad, ↓aStore, ↓aNil, ↓aFieldAddr, ↓aField, ↓aExtract, ↓aIndexAddr, ↓aIndex, ↓aSlice, ↓aMake, ↓aBuildSlice, ↓aFrz, ↓aLen, ↓aAppend, ↓aCopy, Nat.reduceAdd, Nat.reduceSub, Nat.reduceMul, Nat.reduceLT, Nat.reduceLeDiff, Nat.reduceEqDiff, Int.reduceToNat, Int.reduceBEq, Int.reduceBNe, Int.reduceEq, Int.reduceNe, Int.reduceNeg, Int.reduceLE, Int.reduceLT, reduceIte, reduceCtorEq, go_sem, Nat.add_sub_cancel, Nat.add_one_sub_one, Nat.sub_zero, Nat.mul_one, l1, l2, l3, e1, e2, mn_v, mx_v, mx_w, m1, m2])
    | ((refine AW.cond (by rfl) (fun hc => ?_) (fun hc => ?_)) <;> (try simp only [decide_eq_true_eq, decide_eq_false_iff_not, Bool.and_eq_true, Bool.or_eq_true, Bool.and_eq_false_iff, Bool.or_eq_false_iff, Int.not_lt, Int.not_le, beq_iff_eq, bne_iff_ne, ne_eq, Decidable.not_not, beq_eq_false_iff_ne, bne_eq_false_iff_eq, Bool.not_eq_eq_eq_not, Bool.not_true, Bool.not_false, true_eq_decide_iff, false_eq_decide_iff, Bool.not_eq_true, Bool.not_eq_false] at hc) <;> (try first | contradiction | (exfalso; omega)))
    | ((refine AW.condB (by rfl) (fun hc => ?_) (fun hc => ?_)))
    | ((first | (refine aCall.pers (CL) fnOk5 ?_ ?_ ?_ ?_; (focus rfl); (focus rfl); (focus (simp [persT, persL, l1, l2, l3, e1, e2, mn_v, mx_v, mx_w, m1, m2]; done))) | (refine aCall.pers (CC) fnOk14 ?_ ?_ ?_ ?_; (focus rfl); (focus rfl); (focus (simp [persT, persL, l1, l2, l3, e1, e2, mn_v, mx_v, mx_w, m1, m2]; done))) | (refine aCall.pers (C1) fnOk8 ?_ ?_ ?_ ?_; (focus rfl); (focus rfl); (focus (simp [persT, persL, l1, l2, l3, e1, e2, mn_v, mx_v, mx_w, m1, m2]; done))) | (refine aCall.pers (C2) fnOk8 ?_ ?_ ?_ ?_; (focus rfl); (focus rfl); (focus (simp [persT, persL, l1, l2, l3, e1, e2, mn_v, mx_v, mx_w, m1, m2]; done))) | (refine aCall.pers (C3) fnOk10 ?_ ?_ ?_ ?_; (focus rfl); (focus rfl); (focus (simp [persT, persL, l1, l2, l3, e1, e2, mn_v, mx_v, mx_w, m1, m2]; done))) | (refine aCall.pers (C5) fnOk12 ?_ ?_ ?_ ?_; (focus rfl); (focus rfl); (focus (simp [persT, persL, l1, l2, l3, e1, e2, mn_v, mx_v, mx_w, m1, m2]; done))) | (refine aCall.view S1 fnOk7 ?_ ?_ ?_ ?_ ?_; (focus rfl); (focus rfl); (focus (simp [plainBs]; done)); (focus (simp [argsOk, viewTOk, viewP, viewPs, ↓askG_tt, ↓askG_ff, ↓askG_tf, ↓askG_ft, ↓AOp, ↓aBin, ↓aUn, ↓aConv, ↓aAlloc, ↓aBox, ↓aBuild, ↓aLoad, ↓aStore, ↓aNil, ↓aFieldAddr, ↓aField, ↓aExtract, ↓aIndexAddr, ↓aIndex, ↓aSlice, ↓aMake, ↓aBuildSlice, ↓aFrz, ↓aLen, ↓aAppend, ↓aCopy, Nat.reduceAdd, Nat.reduceSub, Nat.reduceMul, Nat.reduceLT, Nat.reduceLeDiff, Nat.reduceEqDiff, Int.reduceToNat, Int.reduceBEq, Int.reduceBNe, Int.reduceEq, Int.reduceNe, Int.reduceNeg, Int.reduceLE, Int.reduceLT, reduceIte, reduceCtorEq, go_sem, Nat.add_sub_cancel, Nat.add_one_sub_one, Nat.sub_zero, Nat.mul_one, finP, finPs, viewP, viewPs, finT, finC, finCs, finL, finLs, finBs, viewOk, viewsOk, persL, inT, inC, inCs, inL, inLs, ndB, List.any_cons, List.any_nil, List.mem_cons, List.not_mem_nil, List.mem_singleton, exists_eq_left, Sum.inl.injEq, reduceCtorEq, forall_eq, implies_true, Option.some.injEq, L.own.injEq, L.sc.injEq, L.sl.injEq, T.leaf.injEq, T.agg.injEq, exists_eq_left', exists_and_left, exists_const, L.row.injEq, L.ptr.injEq, T.tup.injEq, allP_nil, allP_cons, allP_append]; done))) | (refine aCall.view S2 fnOk7 ?_ ?_ ?_ ?_ ?_; (focus rfl); (focus rfl); (focus (simp [plainBs]; done)); (focus (simp [argsOk, viewTOk, viewP, viewPs, ↓askG_tt, ↓askG_ff, ↓askG_tf, ↓askG_ft, ↓AOp, ↓aBin, ↓aUn, ↓aConv, ↓aAlloc, ↓aBox, ↓aBuild, ↓aLoad, ↓aStore, ↓aNil, ↓aFieldAddr, ↓aField, ↓aExtract, ↓aIndexAddr, ↓aIndex, ↓aSlice, ↓aMake, ↓aBuildSlice, ↓aFrz, ↓aLen, ↓aAppend, ↓aCopy, Nat.reduceAdd, Nat.reduceSub, Nat.reduceMul, Nat.reduceLT, Nat.reduceLeDiff, Nat.reduceEqDiff, Int.reduceToNat, Int.reduceBEq, Int.reduceBNe, Int.reduceEq, Int.reduceNe, Int.reduceNeg, Int.reduceLE, Int.reduceLT, reduceIte, reduceCtorEq, go_sem, Nat.add_sub_cancel, Nat.add_one_sub_one, Nat.sub_zero, Nat.mul_one, finP, finPs, viewP, viewPs, finT, finC, finCs, finL, finLs, finBs, viewOk, viewsOk, persL, inT, inC, inCs, inL, inLs, ndB, List.any_cons, List.any_nil, List.mem_cons, List.not_mem_nil, List.mem_singleton, exists_eq_left, Sum.inl.injEq, reduceCtorEq, forall_eq, implies_true, Option.some.injEq, L.own.injEq, L.sc.injEq, L.sl.injEq, T.leaf.injEq, T.agg.injEq, exists_eq_left', exists_and_left, exists_const, L.row.injEq, L.ptr.injEq, T.tup.injEq, allP_nil, allP_cons, allP_append]; done))) | (refine aCall.view S3 fnOk7 ?_ ?_ ?_ ?_ ?_; (focus rfl); (focus rfl); (focus (simp [plainBs]; done)); (focus (simp [argsOk, viewTOk, viewP, viewPs, ↓askG_tt, ↓askG_ff, ↓askG_tf, ↓askG_ft, ↓AOp, ↓aBin, ↓aUn, ↓aConv, ↓aAlloc, ↓aBox, ↓aBuild, ↓aLoad, ↓aStore, ↓aNil, ↓aFieldAddr, ↓aField, ↓aExtract, ↓aIndexAddr, ↓aIndex, ↓aSlice, ↓aMake, ↓aBuildSlice, ↓aFrz, ↓aLen, ↓aAppend, ↓aCopy, Nat.reduceAdd, Nat.reduceSub, Nat.reduceMul, Nat.reduceLT, Nat.reduceLeDiff, Nat.reduceEqDiff, Int.reduceToNat, Int.reduceBEq, Int.reduceBNe, Int.reduceEq, Int.reduceNe, Int.reduceNeg, Int.reduceLE, Int.reduceLT, reduceIte, reduceCtorEq, go_sem, Nat.add_sub_cancel, Nat.add_one_sub_one, Nat.sub_zero, Nat.mul_one, finP, finPs, viewP, viewPs, finT, finC, finCs, finL, finLs, finBs, viewOk, viewsOk, persL, inT, inC, inCs, inL, inLs, ndB, List.any_cons, List.any_nil, List.mem_cons, List.not_mem_nil, List.mem_singleton, exists_eq_left, Sum.inl.injEq, reduceCtorEq, forall_eq, implies_true, Option.some.injEq, L.own.injEq, L.sc.injEq, L.sl.injEq, T.leaf.injEq, T.agg.injEq, exists_eq_left', exists_and_left, exists_const, L.row.injEq, L.ptr.injEq, T.tup.injEq, allP_nil, allP_cons, allP_append]; done))) | (refine aCall.view T1' fnOk15 ?_ ?_ ?_ ?_ ?_; (focus rfl); (focus (simp [plainT, plainC, plainL]; done)); (focus (first | exact plainBs_bytes _ | (simp [plainBs]; done))); (focus (simp [argsOk, viewTOk, viewP, viewPs, ↓askG_tt, ↓askG_ff, ↓askG_tf, ↓askG_ft, ↓AOp, ↓aBin, ↓aUn, ↓aConv, ↓aAlloc, ↓aBox, ↓aBuild, ↓aLoad, ↓aStore, ↓aNil, ↓aFieldAddr, ↓aField, ↓aExtract, ↓aIndexAddr, ↓aIndex, ↓aSlice, ↓aMake, ↓aBuildSlice, ↓aFrz, ↓aLen, ↓aAppend, ↓aCopy, Nat.reduceAdd, Nat.reduceSub, Nat.reduceMul, Nat.reduceLT, Nat.reduceLeDiff, Nat.reduceEqDiff, Int.reduceToNat, Int.reduceBEq, Int.reduceBNe, Int.reduceEq, Int.reduceNe, Int.reduceNeg, Int.reduceLE, Int.reduceLT, reduceIte, reduceCtorEq, go_sem, Nat.add_sub_cancel, Nat.add_one_sub_one, Nat.sub_zero, Nat.mul_one, finP, finPs, viewP, viewPs, finT, finC, finCs, finL, finLs, finBs, viewOk, viewsOk, persL, inT, inC, inCs, inL, inLs, ndB, List.any_cons, List.any_nil, List.mem_cons, List.not_mem_nil, List.mem_singleton, exists_eq_left, Sum.inl.injEq, reduceCtorEq, forall_eq, implies_true, Option.some.injEq, L.own.injEq, L.sc.injEq, L.sl.injEq, T.leaf.injEq, T.agg.injEq, exists_eq_left', exists_and_left, exists_const, L.row.injEq, L.ptr.injEq, T.tup.injEq, allP_nil, allP_cons, allP_append]; done))) | (refine aCall.view T2' fnOk15 ?_ ?_ ?_ ?_ ?_; (focus rfl); (focus (simp [plainT, plainC, plainL]; done)); (focus (first | exact plainBs_bytes _ | (simp [plainBs]; done))); (focus (simp [argsOk, viewTOk, viewP, viewPs, ↓askG_tt, ↓askG_ff, ↓askG_tf, ↓askG_ft, ↓AOp, ↓aBin, ↓aUn, ↓aConv, ↓aAlloc, ↓aBox, ↓aBuild, ↓aLoad, ↓aStore, ↓aNil, ↓aFieldAddr, ↓aField, ↓aExtract, ↓aIndexAddr, ↓aIndex, ↓aSlice, ↓aMake, ↓aBuildSlice, ↓aFrz, ↓aLen, ↓aAppend, ↓aCopy, Nat.reduceAdd, Nat.reduceSub, Nat.reduceMul, Nat.reduceLT, Nat.reduceLeDiff, Nat.reduceEqDiff, Int.reduceToNat, Int.reduceBEq, Int.reduceBNe, Int.reduceEq, Int.reduceNe, Int.reduceNeg, Int.reduceLE, Int.reduceLT, reduceIte, reduceCtorEq, go_sem, Nat.add_sub_cancel, Nat.add_one_sub_one, Nat.sub_zero, Nat.mul_one, finP, finPs, viewP, viewPs, finT, finC, finCs, finL, finLs, finBs, viewOk, viewsOk, persL, inT, inC, inCs, inL, inLs, ndB, List.any_cons, List.any_nil, List.mem_cons, List.not_mem_nil, List.mem_singleton, exists_eq_left, Sum.inl.injEq, reduceCtorEq, forall_eq, implies_true, Option.some.injEq, L.own.injEq, L.sc.injEq, L.sl.injEq, T.leaf.injEq, T.agg.injEq, exists_eq_left', exists_and_left, exists_const, L.row.injEq, L.ptr.injEq, T.tup.injEq, allP_nil, allP_cons, allP_append]; done))) | (refine aCall.view T3' fnOk15 ?_ ?_ ?_ ?_ ?_; (focus rfl); (focus (simp [plainT, plainC, plainL]; done)); (focus (first | exact plainBs_bytes _ | (simp [plainBs]; done))); (focus (simp [argsOk, viewTOk, viewP, viewPs, ↓askG_tt, ↓askG_ff, ↓askG_tf, ↓askG_ft, ↓AOp, ↓aBin, ↓aUn, ↓aConv, ↓aAlloc, ↓aBox, ↓aBuild, ↓aLoad, ↓aStore, ↓aNil, ↓aFieldAddr, ↓aField, ↓aExtract, ↓aIndexAddr, ↓aIndex, ↓aSlice, ↓aMake, ↓aBuildSlice, ↓aFrz, ↓aLen, ↓aAppend, ↓aCopy, Nat.reduceAdd, Nat.reduceSub, Nat.reduceMul, Nat.reduceLT, Nat.reduceLeDiff, Nat.reduceEqDiff, Int.reduceToNat, Int.reduceBEq, Int.reduceBNe, Int.reduceEq, Int.reduceNe, Int.reduceNeg, Int.reduceLE, Int.reduceLT, reduceIte, reduceCtorEq, go_sem, Nat.add_sub_cancel, Nat.add_one_sub_one, Nat.sub_zero, Nat.mul_one, finP, finPs, viewP, viewPs, finT, finC, finCs, finL, finLs, finBs, viewOk, viewsOk, persL, inT, inC, inCs, inL, inLs, ndB, List.any_cons, List.any_nil, List.mem_cons, List.not_mem_nil, List.mem_singleton, exists_eq_left, Sum.inl.injEq, reduceCtorEq, forall_eq, implies_true, Option.some.injEq, L.own.injEq, L.sc.injEq, L.sl.injEq, T.leaf.injEq, T.agg.injEq, exists_eq_left', exists_and_left, exists_const, L.row.injEq, L.ptr.injEq, T.tup.injEq, allP_nil, allP_cons, allP_append]; done)))); simp only [↓askG_tt, ↓askG_ff, ↓askG_tf, ↓askG_ft, ↓AOp, ↓aBin, ↓aUn, ↓aConv, ↓aAlloc, ↓aBox, ↓aBuild, ↓aLoad, ↓aStore, ↓aNil, ↓aFieldAddr, ↓aField, ↓aExtract, ↓aIndexAddr, ↓aIndex, ↓aSlice, ↓aMake, ↓aBuildSlice, ↓aFrz, ↓aLen, ↓aAppend, ↓aCopy, Nat.reduceAdd, Nat.reduceSub, Nat.reduceMul, Nat.reduceLT, Nat.reduceLeDiff, Nat.reduceEqDiff, Int.reduceToNat, Int.reduceBEq, Int.reduceBNe, Int.reduceEq, Int.reduceNe, Int.reduceNeg, Int.reduceLE, Int.reduceLT, reduceIte, reduceCtorEq, go_sem, Nat.add_sub_cancel, Nat.add_one_sub_one, Nat.sub_zero, Nat.mul_one, shiftP, shiftT, shiftC, shiftL, shiftB, newIds, idsOfT, List.zipIdx_cons, List.zipIdx_nil, l1, l2, l3, e1, e2, mn_v, mx_v, mx_w, m1, m2])
    | ((first | (refine aSem.minI rfl rfl rfl ?_) | (refine aSem.maxI rfl rfl rfl ?_)); simp only [↓askG_tt, ↓askG_ff, ↓askG_tf, ↓askG_ft, ↓AOp, ↓aBin, ↓aUn, ↓aConv, ↓aAlloc, ↓aBox, ↓aBuild, ↓aLoad, ↓aStore, ↓aNil, ↓aFieldAddr, ↓aField, ↓aExtract, ↓aIndexAddr, ↓aIndex, ↓aSlice, ↓aMake, ↓aBuildSlice, ↓aFrz, ↓aLen, ↓aAppend, ↓aCopy, Nat.reduceAdd, Nat.reduceSub, Nat.reduceMul, Nat.reduceLT, Nat.reduceLeDiff, Nat.reduceEqDiff, Int.reduceToNat, Int.reduceBEq, Int.reduceBNe, Int.reduceEq, Int.reduceNe, Int.reduceNeg, Int.reduceLE, Int.reduceLT, reduceIte, reduceCtorEq, go_sem, Nat.add_sub_cancel, Nat.add_one_sub_one, Nat.sub_zero, Nat.mul_one, l1, l2, l3, e1, e2, mn_v, mx_v, mx_w, m1, m2])
    | ((first | (with_reducible refine aSliceO.l ?_) | (with_reducible refine aBuildO.l ?_) | (with_reducible refine aStoreO.l ?_)); simp only [↓askG_tt, ↓askG_ff, ↓askG_tf, ↓askG_ft, ↓AOp, ↓aBin, ↓aUn, ↓aConv, ↓aAlloc, ↓aBox, ↓aBuild, ↓aLoad, ↓aStore, ↓aNil, ↓aFieldAddr, ↓aField, ↓aExtract, ↓aIndexAddr, ↓aIndex, ↓aSlice, ↓aMake, ↓aBuildSlice, ↓aFrz, ↓aLen, ↓aAppend, ↓aCopy, Nat.reduceAdd, Nat.reduceSub, Nat.reduceMul, Nat.reduceLT, Nat.reduceLeDiff, Nat.reduceEqDiff, Int.reduceToNat, Int.reduceBEq, Int.reduceBNe, Int.reduceEq, Int.reduceNe, Int.reduceNeg, Int.reduceLE, Int.reduceLT, reduceIte, reduceCtorEq, go_sem, Nat.add_sub_cancel, Nat.add_one_sub_one, Nat.sub_zero, Nat.mul_one, l1, l2, l3, e1, e2, mn_v, mx_v, mx_w, m1, m2])
    | (with_reducible refine hK _ ?_; clear hK K)
    | (with_reducible refine AW.ret ?_)
    | (with_reducible refine AW.skip ?_)
    | (with_reducible refine AW.exit ?_)
    | (with_reducible refine askG.mk (fun hg => ?_) (fun hg => ?_) <;> (try simp only [true_eq_decide_iff, false_eq_decide_iff, Bool.not_eq_eq_eq_not, decide_eq_true_eq, decide_eq_false_iff_not, Bool.not_true, Bool.not_false, beq_iff_eq, bne_iff_ne, ne_eq, beq_eq_false_iff_ne, bne_eq_false_iff_eq, Int.not_lt, Int.not_le, Decidable.not_not] at hg) <;> (try first | contradiction | (exfalso; omega)))
    | ((with_reducible refine And.intro ?_ ?_); focus (first | (with_reducible show pairsOk _ _ = true; kernel_rfl) | omega | (with_reducible assumption) | kernel_rfl | (exact bytesE_len _) | (exact bytesE_allP _) | (exact rowsE_len _) | (exact rowsE_allP _) | ((simp [allP_nil, allP_cons, persL]; done)) | ((simp [byV]; done)) | (simp; done) | (simp; omega)))
    | ((with_reducible show inBlockS _ _ _ _); simp only [inBlockS, thenS, reduceIte, Nat.reduceEqDiff])
    | ((with_reducible show thenS _ _ _ _); simp only [thenS, inBlockS, reduceIte, Nat.reduceEqDiff]))
    all_goals (refine ⟨_, [], rfl, ⟨rfl, ?_, ?_, ?_⟩⟩ <;> simp [↓askG_tt, ↓askG_ff, ↓askG_tf, ↓askG_ft, ↓AOp, ↓aBin, ↓aUn, ↓aConv, ↓aAlloc, ↓aBox, ↓aBuild, ↓aLoad, ↓aStore, ↓aNil, ↓aFieldAddr, ↓aField, ↓aExtract, ↓aIndexAddr, ↓aIndex, ↓aSlice, ↓aMake, ↓aBuildSlice, ↓aFrz, ↓aLen, ↓aAppend, ↓aCopy, Nat.reduceAdd, Nat.reduceSub, Nat.reduceMul, Nat.reduceLT, Nat.reduceLeDiff, Nat.reduceEqDiff, Int.reduceToNat, Int.reduceBEq, Int.reduceBNe, Int.reduceEq, Int.reduceNe, Int.reduceNeg, Int.reduceLE, Int.reduceLT, reduceIte, reduceCtorEq, go_sem, Nat.add_sub_cancel, Nat.add_one_sub_one, Nat.sub_zero, Nat.mul_one, finP, finPs, viewP, viewPs, finT, finC, finCs, finL, finLs, finBs, viewOk, viewsOk, persL, inT, inC, inCs, inL, inLs, ndB, List.any_cons, List.any_nil, List.mem_cons, List.not_mem_nil, List.mem_singleton, exists_eq_left, Sum.inl.injEq, reduceCtorEq, forall_eq, implies_true, Option.some.injEq, L.own.injEq, L.sc.injEq, L.sl.injEq, T.leaf.injEq, T.agg.injEq, exists_eq_left', exists_and_left, exists_const, L.row.injEq, L.ptr.injEq, T.tup.injEq, allP_nil, allP_cons, allP_append])
  · rw [if_neg hc] at CC
    clear hc
    obtain ⟨seed, chain, stand, clients, queue, close, long, again, window, round, seq⟩ := c
    simp only [cfT, cfC] at *
    refine PC.of_body Tryd.func4 rfl ?_
    intro Γ _ _
    simp only [Tryd.ntmps4, List.length_cons, List.length_nil, Nat.reduceAdd, Nat.reduceSub, List.replicate_succ, List.replicate_zero, List.cons_append, List.nil_append]
    repeat' (first
    | (with_reducible refine AW.seq ?_)
    | (with_reducible refine AW.block ?_)
    | (with_reducible refine AW.regionK mo (by kernel_rfl) ?_; intro K hK; simp (maxSteps := 2000000) only [↓askG_tt, ↓askG_ff, ↓askG_tf, ↓askG_ft, ↓AOp, ↓aBin, ↓aUn, ↓aConv, ↓aAlloc, ↓aBox, ↓aBuild, ↓aLoad, ↓aStore, ↓aNil, ↓aFieldAddr, ↓aField, ↓aExtract, ↓aIndexAddr, ↓aIndex, ↓aSlice, ↓aMake, ↓aBuildSlice, ↓aFrz, ↓aLen, ↓aAppend, ↓aCopy, Nat.reduceAdd, Nat.reduceSub, Nat.reduceMul, Nat.reduceLT, Nat.reduceLeDiff, Nat.reduceEqDiff, Int.reduceToNat, Int.reduceBEq, Int.reduceBNe, Int.reduceEq, Int.reduceNe, Int.reduceNeg, Int.reduceLE, Int.reduceLT, reduceIte, reduceCtorEq, go_sem, Nat.add_sub_cancel, Nat.add_one_sub_one, Nat.sub_zero, Nat.mul_one])
    | ((refine AW.cond (by rfl) (fun hc => ?_) (fun hc => ?_)) <;> (try simp only [decide_eq_true_eq, decide_eq_false_iff_not, Bool.and_eq_true, Bool.or_eq_true, Bool.and_eq_false_iff, Bool.or_eq_false_iff, Int.not_lt, Int.not_le, beq_iff_eq, bne_iff_ne, ne_eq, Decidable.not_not, beq_eq_false_iff_ne, bne_eq_false_iff_eq, Bool.not_eq_eq_eq_not, Bool.not_true, Bool.not_false, true_eq_decide_iff, false_eq_decide_iff, Bool.not_eq_true, Bool.not_eq_false] at hc) <;> (try first | contradiction | (exfalso; omega)))
    | ((refine AW.condB (by rfl) (fun hc => ?_) (fun hc => ?_)))
    | ((first | (refine aCall.pers (CL) fnOk5 ?_ ?_ ?_ ?_; (focus rfl); (focus rfl); (focus (simp [persT, persL]; done))) | (refine aCall.pers (CC) fnOk14 ?_ ?_ ?_ ?_; (focus rfl); (focus rfl); (focus (simp [persT, persL]; done)))); simp only [↓askG_tt, ↓askG_ff, ↓askG_tf, ↓askG_ft, ↓AOp, ↓aBin, ↓aUn, ↓aConv, ↓aAlloc, ↓aBox, ↓aBuild, ↓aLoad, ↓aStore, ↓aNil, ↓aFieldAddr, ↓aField, ↓aExtract, ↓aIndexAddr, ↓aIndex, ↓aSlice, ↓aMake, ↓aBuildSlice, ↓aFrz, ↓aLen, ↓aAppend, ↓aCopy, Nat.reduceAdd, Nat.reduceSub, Nat.reduceMul, Nat.reduceLT, Nat.reduceLeDiff, Nat.reduceEqDiff, Int.reduceToNat, Int.reduceBEq, Int.reduceBNe, Int.reduceEq, Int.reduceNe, Int.reduceNeg, Int.reduceLE, Int.reduceLT, reduceIte, reduceCtorEq, go_sem, Nat.add_sub_cancel, Nat.add_one_sub_one, Nat.sub_zero, Nat.mul_one, shiftP, shiftT, shiftC, shiftL, shiftB, newIds, idsOfT, List.zipIdx_cons, List.zipIdx_nil])
    | ((first | (with_reducible refine aSliceO.l ?_) | (with_reducible refine aBuildO.l ?_) | (with_reducible refine aStoreO.l ?_)); simp only [↓askG_tt, ↓askG_ff, ↓askG_tf, ↓askG_ft, ↓AOp, ↓aBin, ↓aUn, ↓aConv, ↓aAlloc, ↓aBox, ↓aBuild, ↓aLoad, ↓aStore, ↓aNil, ↓aFieldAddr, ↓aField, ↓aExtract, ↓aIndexAddr, ↓aIndex, ↓aSlice, ↓aMake, ↓aBuildSlice, ↓aFrz, ↓aLen, ↓aAppend, ↓aCopy, Nat.reduceAdd, Nat.reduceSub, Nat.reduceMul, Nat.reduceLT, Nat.reduceLeDiff, Nat.reduceEqDiff, Int.reduceToNat, Int.reduceBEq, Int.reduceBNe, Int.reduceEq, Int.reduceNe, Int.reduceNeg, Int.reduceLE, Int.reduceLT, reduceIte, reduceCtorEq, go_sem, Nat.add_sub_cancel, Nat.add_one_sub_one, Nat.sub_zero, Nat.mul_one])
    | (with_reducible refine hK _ ?_; clear hK K)
    | (with_reducible refine AW.ret ?_)
    | (with_reducible refine AW.skip ?_)
    | (with_reducible refine AW.exit ?_)
    | (with_reducible refine askG.mk (fun hg => ?_) (fun hg => ?_) <;> (try simp only [true_eq_decide_iff, false_eq_decide_iff, Bool.not_eq_eq_eq_not, decide_eq_true_eq, decide_eq_false_iff_not, Bool.not_true, Bool.not_false, beq_iff_eq, bne_iff_ne, ne_eq, beq_eq_false_iff_ne, bne_eq_false_iff_eq, Int.not_lt, Int.not_le, Decidable.not_not] at hg) <;> (try first | contradiction | (exfalso; omega)))
    | ((with_reducible refine And.intro ?_ ?_); focus (first | (with_reducible show pairsOk _ _ = true; kernel_rfl) | omega | (with_reducible assumption) | kernel_rfl | (exact bytesE_len _) | (exact bytesE_allP _) | (exact rowsE_len _) | (exact rowsE_allP _) | ((simp [allP_nil, allP_cons, persL]; done)) | ((simp [byV]; done)) | (simp; done) | (simp; omega)))
    | ((with_reducible show inBlockS _ _ _ _); simp only [inBlockS, thenS, reduceIte, Nat.reduceEqDiff])
    | ((with_reducible show thenS _ _ _ _); simp only [thenS, inBlockS, reduceIte, Nat.reduceEqDiff]))
    all_goals (refine ⟨_, [], rfl, ⟨rfl, ?_, ?_, ?_⟩⟩ <;> simp [↓askG_tt, ↓askG_ff, ↓askG_tf, ↓askG_ft, ↓AOp, ↓aBin, ↓aUn, ↓aConv, ↓aAlloc, ↓aBox, ↓aBuild, ↓aLoad, ↓aStore, ↓aNil, ↓aFieldAddr, ↓aField, ↓aExtract, ↓aIndexAddr, ↓aIndex, ↓aSlice, ↓aMake, ↓aBuildSlice, ↓aFrz, ↓aLen, ↓aAppend, ↓aCopy, Nat.reduceAdd, Nat.reduceSub, Nat.reduceMul, Nat.reduceLT, Nat.reduceLeDiff, Nat.reduceEqDiff, Int.reduceToNat, Int.reduceBEq, Int.reduceBNe, Int.reduceEq, Int.reduceNe, Int.reduceNeg, Int.reduceLE, Int.reduceLT, reduceIte, reduceCtorEq, go_sem, Nat.add_sub_cancel, Nat.add_one_sub_one, Nat.sub_zero, Nat.mul_one, finP, finPs, viewP, viewPs, finT, finC, finCs, finL, finLs, finBs, viewOk, viewsOk, persL, inT, inC, inCs, inL, inLs, ndB, List.any_cons, List.any_nil, List.mem_cons, List.not_mem_nil, List.mem_singleton, exists_eq_left, Sum.inl.injEq, reduceCtorEq, forall_eq, implies_true, Option.some.injEq, L.own.injEq, L.sc.injEq, L.sl.injEq, T.leaf.injEq, T.agg.injEq, exists_eq_left', exists_and_left, exists_const, L.row.injEq, L.ptr.injEq, T.tup.injEq, allP_nil, allP_cons, allP_append])
theorem walk_KeyPairs (W : World) (hG : Globs (Cx (fun _ => True) W.heap.size) h0 μ0 W) (v0 v1 v2 : Value) (o0 : OpnR W 25 v0) (o1 : OpnR W 5 v1) (o2 : OpnR W 5 v2) :
    Calls Tryd.prog 4 #[v0, v1, v2] W fun e w' => e = .returned (.bool true) ∧ Below W.heap.size W w' := by
  obtain ⟨c, r0⟩ := o0.cf
  obtain ⟨a, r1⟩ := o1.u8
  obtain ⟨b, r2⟩ := o2.u8
  refine law_ofG (keyPairs_pc c a b) rfl (fun i t hi => ?_) hG
  rcases i with _ | _ | _ | i
  · cases hi; exact r0
  · cases hi; exact r1
  · cases hi; exact r2
  · cases hi
end Go.Proofs.YtcpbheenmjekdaaDoor
