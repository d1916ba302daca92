/- The walk of the law OnionWraps. -/
import Derived.Test.YtbcclcbmbejnmaaDoorPwZw
namespace Go.Proofs.YtbcclcbmbejnmaaDoor
set_option linter.unusedSimpArgs false
set_option linter.unusedVariables false
open Go Go.RowKit
attribute [local congr] AW_congr AOs_congr aCall_congr aCall1_congr aSem_congr aSliceO_congr aBuildO_congr aStoreO_congr
attribute [local go_sem] uC_own uC_ids uC_shift uC_frz uC_length tabK_uC ub_v bytes_set bytesE_one1 bytesE_consr bytesE_append bytesE_drop bytesE_take rowsE_length rowsE_get Option.map_map bytesE_length bytesE_get shiftE_bytes shiftE_rows exBytesE str_beq bytesE_take_self List.take_length
set_option maxRecDepth 100000

attribute [local simp] leEs_bytes
def StmOk (s : Stm) : Prop := s.ep ≤ 18446744073709551615 ∧ s.ro ≤ 18446744073709551615
theorem shape_stm : Shape 27 stmC StmOk := by
  have b := shape_struct (n := 3) Tryd.underlying27 (by kernel_rfl) (shapeF_c 1 2 (shape_u64 Tryd.underlying24) (shapeF_c 1 1 (shape_u64 Tryd.underlying24) (shapeF_c 1 0 (shape_slice (shape_i64 Tryd.underlying3) Tryd.underlying25 (b := 8) (by kernel_rfl)) shapeF_nil rfl rfl (by kernel_rfl)) rfl rfl (by kernel_rfl)) rfl rfl (by kernel_rfl))
  exact b.map (fun x => ⟨x.1, x.2.1, x.2.2.1⟩) (fun x => rfl) (fun x h => ⟨h.1, h.2.1⟩)
theorem OpnR.stm {W : World} {v : Value} (h : OpnR W 27 v) : ∃ s, StmOk s ∧ RT (Cx (fun _ => True) W.heap.size) h0 μ0 W (stmT s) v := by
  obtain ⟨cs, hc⟩ := h.cells_agg Tryd.underlying27
  exact h.agg shape_stm cs hc _ (fun _ => trivial)
theorem wraps_ok (svs ncs : List Txt') (body : List UInt8) (hs : ∀ i, (svs.getD i []).length ≤ 1000000) : ∃ (X : List UInt8) (e : Int), PC Tryd.prog 12 [rowsT textC svs, rowsT textC ncs, bytesT body] [] (.tup [.leaf (bytesL X), .leaf (.sc (.int .i64 e))]) ∧ PC Tryd.prog 13 [rowsT textC svs, rowsT textC ncs, bytesT body] [] (.tup [.leaf (bytesL X), .leaf (.sc (.int .i64 e))]) := by
  by_cases h : svs.length < 1 ∨ 8 < svs.length ∨ ncs.length ≠ svs.length ∨ body.length ≠ 78
  · exact ⟨[], 1, wrapEarly_pc svs ncs body h, refWrapEarly_pc svs ncs body h⟩
  · have h1 : 1 ≤ svs.length := by omega
    have h8 : svs.length ≤ 8 := by omega
    have hn : ncs.length = svs.length := Classical.byContradiction fun q => h (.inr (.inr (.inl q)))
    have hb : body.length = 78 := Classical.byContradiction fun q => h (.inr (.inr (.inr q)))
    by_cases hall : AllN ncs
    · exact ⟨_, 0, wrap_pc svs ncs body _ rfl hn h1 h8 hb hs hall, refWrap_pc svs ncs body _ rfl hn h1 h8 hb hs _ 0 (.inl ⟨hall, rfl, rfl⟩)⟩
    · exact ⟨[], 1, wrapBad_pc svs ncs body _ rfl hn h1 h8 hb hs hall, refWrap_pc svs ncs body _ rfl hn h1 h8 hb hs [] 1 (.inr ⟨hall, rfl, rfl⟩)⟩
theorem nonces_ok (sec : List UInt8) (s : Stm) (hs : sec.length ≤ 1000000) (hk : StmOk s) : ∃ (l : List Txt') (e : Int), l.length ≤ 1000 ∧ PC Tryd.prog 14 [bytesT sec, stmT s] [] (.tup [.leaf (rowsL textC l), .leaf (.sc (.int .i64 e))]) ∧ PC Tryd.prog 15 [bytesT sec, stmT s] [] (.tup [.leaf (rowsL textC l), .leaf (.sc (.int .i64 e))]) := by
  by_cases h : okC s.ch
  · exact ⟨_, 0, by rw [nonL_len]; have := h.2.1; omega, nonces_pc sec s hs h, refNonces_pc sec s hs h hk.1 hk.2⟩
  · exact ⟨[], 1, by simp, noncesBad_pc sec s h, refNoncesBad_pc sec s h⟩
theorem lens_ok (n : Int) : ∃ m : Int, PC Tryd.prog 18 [intT n] [] (intT m) ∧ PC Tryd.prog 19 [intT n] [] (intT m) := by
  by_cases h : n < 1 ∨ 8 < n
  · exact ⟨0, lenBad_pc n h, refLenBad_pc n h⟩
  · obtain ⟨k, rfl⟩ : ∃ k : Nat, n = (k : Int) := ⟨n.toNat, by omega⟩
    exact ⟨_, len_pc k (by omega), refLen_pc k (by omega)⟩
set_option maxHeartbeats 4000000 in
theorem onionWraps_pc (svs ncs : List Txt') (body sec : List UInt8) (s : Stm) (hops : Int) (hls : svs.length ≤ 140737488351232) (hln : ncs.length ≤ 140737488351232) (hk : StmOk s) : PC Tryd.prog 3 [rowsT textC svs, rowsT textC ncs, bytesT body, bytesT sec, stmT s, intT hops] [] (boolT true) := by
  have CL := live_pc
  by_cases f1 : FewT svs
  · have F1 := few_pc svs true hls (by simp [f1])
    by_cases f2 : FewT ncs
    · have F2 := few_pc ncs true hln (by simp [f2])
      by_cases hb : body.length ≤ 300
      · have g0 : decide (300 < (body.length : Int)) = false := by simp; omega
        by_cases hsec : sec.length ≤ 200
        · have g1 : decide (200 < (sec.length : Int)) = false := by simp; omega
          by_cases hch : s.ch.length ≤ 60
          · have g2 : decide (60 < (s.ch.length : Int)) = false := by simp; omega
            obtain ⟨X, e, W1, W2⟩ := wraps_ok svs ncs body (fewT_sv f1)
            obtain ⟨l, f, hl, N1, N2⟩ := nonces_ok sec s (by omega) hk
            obtain ⟨m, L1, L2⟩ := lens_ok hops
            have SX := same_pc X X
            have SP := parts_pc l hl
            have ee : (e == e) = true := by simp
            have ff : (f == f) = true := by simp
            have mm : (m == m) = true := by simp
            obtain ⟨ep, ro, ch⟩ := s
            simp only [stmT, stmC] at *
            refine PC.of_body Tryd.func3 rfl ?_
            intro Γ _ _
            simp only [Tryd.ntmps3, List.length_cons, List.length_nil, Nat.reduceAdd, Nat.reduceSub, List.replicate_succ, List.replicate_zero, List.cons_append, List.nil_append]
            repeat' (first
    | (with_reducible first | refine AW.seq ?_ | refine AW.block ?_ | refine AW.ret ?_ | refine AW.skip ?_ | refine AW.exit ?_)
    | ((refine AW.cond (by rfl) (fun hc => ?_) (fun hc => ?_)) <;> (try simp only [hcS] at hc) <;> (try first | contradiction | (exfalso; omega)))
    | ((refine AW.condB (by rfl) (fun hc => ?_) (fun hc => ?_)))
    | ((first | (refine aCall.pers (CL) fnOk10 ?_ ?_ ?_ ?_; (focus rfl); (focus rfl); (focus (simp [persT, persL, iE_len, g0, g1, g2, ee, ff, mm]; done))) | (refine aCall.pers (F1) fnOk11 ?_ ?_ ?_ ?_; (focus rfl); (focus rfl); (focus (simp [persT, persL, iE_len, g0, g1, g2, ee, ff, mm]; done))) | (refine aCall.pers (F2) fnOk11 ?_ ?_ ?_ ?_; (focus rfl); (focus rfl); (focus (simp [persT, persL, iE_len, g0, g1, g2, ee, ff, mm]; done))) | (refine aCall.pers (W1) fnOk12 ?_ ?_ ?_ ?_; (focus rfl); (focus rfl); (focus (simp [persT, persL, iE_len, g0, g1, g2, ee, ff, mm]; done))) | (refine aCall.pers (W2) fnOk13 ?_ ?_ ?_ ?_; (focus rfl); (focus rfl); (focus (simp [persT, persL, iE_len, g0, g1, g2, ee, ff, mm]; done))) | (refine aCall.pers (N1) fnOk14 ?_ ?_ ?_ ?_; (focus rfl); (focus rfl); (focus (simp [persT, persL, iE_len, g0, g1, g2, ee, ff, mm]; done))) | (refine aCall.pers (N2) fnOk15 ?_ ?_ ?_ ?_; (focus rfl); (focus rfl); (focus (simp [persT, persL, iE_len, g0, g1, g2, ee, ff, mm]; done))) | (refine aCall.pers (L1) fnOk18 ?_ ?_ ?_ ?_; (focus rfl); (focus rfl); (focus (simp [persT, persL, iE_len, g0, g1, g2, ee, ff, mm]; done))) | (refine aCall.pers (L2) fnOk19 ?_ ?_ ?_ ?_; (focus rfl); (focus rfl); (focus (simp [persT, persL, iE_len, g0, g1, g2, ee, ff, mm]; done))) | (refine aCall.pers (SX) fnOk16 ?_ ?_ ?_ ?_; (focus rfl); (focus rfl); (focus (simp [persT, persL, iE_len, g0, g1, g2, ee, ff, mm]; done))) | (refine aCall.pers (SP) fnOk17 ?_ ?_ ?_ ?_; (focus rfl); (focus rfl); (focus (simp [persT, persL, iE_len, g0, g1, g2, ee, ff, mm]; done))) | (with_reducible refine AW.regionK mo (by kernel_rfl) ?_; intro K hK) | (with_reducible refine aSliceO.l ?_) | (with_reducible refine aBuildO.l ?_) | (with_reducible refine aStoreO.l ?_)); simp (maxSteps := 2000000) only [↓askG_tt, ↓askG_ff, ↓askG_tf, ↓askG_ft, ↓AOp, ↓aBin, ↓aUn, ↓aConv, ↓aAlloc, ↓aBox, ↓aBuild, ↓aLoad, ↓aStore, ↓aNil, ↓aFieldAddr, ↓aField, ↓aExtract, ↓aIndexAddr, ↓aIndex, ↓aSlice, ↓aMake, ↓aBuildSlice, ↓aFrz, ↓aLen, ↓aAppend, ↓aCopy, Nat.reduceAdd, Nat.reduceSub, Nat.reduceMul, Nat.reduceLT, Nat.reduceLeDiff, Nat.reduceEqDiff, Int.reduceToNat, Int.reduceBEq, Int.reduceBNe, Int.reduceEq, Int.reduceNe, Int.reduceNeg, Int.reduceLE, Int.reduceLT, reduceIte, reduceCtorEq, go_sem, Nat.add_sub_cancel, Nat.add_one_sub_one, Nat.sub_zero, Nat.mul_one, shiftP, shiftT, shiftC, shiftL, shiftB, newIds, idsOfT, List.zipIdx_cons, List.zipIdx_nil, iE_len, g0, g1, g2, ee, ff, mm])
    | (with_reducible refine hK _ ?_; clear hK K)
    | (with_reducible refine askG.mk (fun hg => ?_) (fun hg => ?_) <;> (try simp only [hcS] at hg) <;> (try first | contradiction | (exfalso; omega)))
    | ((with_reducible refine And.intro ?_ ?_); focus (first | (with_reducible show pairsOk _ _ = true; kernel_rfl) | omega | (with_reducible assumption) | kernel_rfl | (exact bytesE_len _) | (exact bytesE_allP _) | (exact rowsE_len _) | (exact rowsE_allP _) | ((simp [allP_nil, allP_cons, persL]; done)) | ((simp [byV]; done)) | (simp; done) | (simp; omega)))
    | ((with_reducible first | show inBlockS _ _ _ _ | show thenS _ _ _ _); simp only [inBlockS, thenS, reduceIte, Nat.reduceEqDiff]))
            all_goals (refine ⟨_, [], rfl, ⟨rfl, ?_, ?_, ?_⟩⟩ <;> simp [go_sem, Nat.add_sub_cancel, Nat.add_one_sub_one, Nat.sub_zero, Nat.mul_one, finP, finPs, viewP, viewPs, finT, finC, finCs, finL, finLs, finBs, viewOk, viewsOk, persL, inT, inC, inCs, inL, inLs, ndB, allP_nil, allP_cons, allP_append])
          · have g2 : decide (60 < (s.ch.length : Int)) = true := by simp; omega
            obtain ⟨ep, ro, ch⟩ := s
            simp only [stmT, stmC] at *
            refine PC.of_body Tryd.func3 rfl ?_
            intro Γ _ _
            simp only [Tryd.ntmps3, List.length_cons, List.length_nil, Nat.reduceAdd, Nat.reduceSub, List.replicate_succ, List.replicate_zero, List.cons_append, List.nil_append]
            repeat' (first
    | (with_reducible first | refine AW.seq ?_ | refine AW.block ?_ | refine AW.ret ?_ | refine AW.skip ?_ | refine AW.exit ?_)
    | ((refine AW.cond (by rfl) (fun hc => ?_) (fun hc => ?_)) <;> (try simp only [hcS] at hc) <;> (try first | contradiction | (exfalso; omega)))
    | ((refine AW.condB (by rfl) (fun hc => ?_) (fun hc => ?_)))
    | ((first | (refine aCall.pers (CL) fnOk10 ?_ ?_ ?_ ?_; (focus rfl); (focus rfl); (focus (simp [persT, persL, iE_len, g0, g1, g2]; done))) | (refine aCall.pers (F1) fnOk11 ?_ ?_ ?_ ?_; (focus rfl); (focus rfl); (focus (simp [persT, persL, iE_len, g0, g1, g2]; done))) | (refine aCall.pers (F2) fnOk11 ?_ ?_ ?_ ?_; (focus rfl); (focus rfl); (focus (simp [persT, persL, iE_len, g0, g1, g2]; done))) | (with_reducible refine AW.regionK mo (by kernel_rfl) ?_; intro K hK) | (with_reducible refine aSliceO.l ?_) | (with_reducible refine aBuildO.l ?_) | (with_reducible refine aStoreO.l ?_)); simp (maxSteps := 2000000) only [↓askG_tt, ↓askG_ff, ↓askG_tf, ↓askG_ft, ↓AOp, ↓aBin, ↓aUn, ↓aConv, ↓aAlloc, ↓aBox, ↓aBuild, ↓aLoad, ↓aStore, ↓aNil, ↓aFieldAddr, ↓aField, ↓aExtract, ↓aIndexAddr, ↓aIndex, ↓aSlice, ↓aMake, ↓aBuildSlice, ↓aFrz, ↓aLen, ↓aAppend, ↓aCopy, Nat.reduceAdd, Nat.reduceSub, Nat.reduceMul, Nat.reduceLT, Nat.reduceLeDiff, Nat.reduceEqDiff, Int.reduceToNat, Int.reduceBEq, Int.reduceBNe, Int.reduceEq, Int.reduceNe, Int.reduceNeg, Int.reduceLE, Int.reduceLT, reduceIte, reduceCtorEq, go_sem, Nat.add_sub_cancel, Nat.add_one_sub_one, Nat.sub_zero, Nat.mul_one, shiftP, shiftT, shiftC, shiftL, shiftB, newIds, idsOfT, List.zipIdx_cons, List.zipIdx_nil, iE_len, g0, g1, g2])
    | (with_reducible refine hK _ ?_; clear hK K)
    | (with_reducible refine askG.mk (fun hg => ?_) (fun hg => ?_) <;> (try simp only [hcS] at hg) <;> (try first | contradiction | (exfalso; omega)))
    | ((with_reducible refine And.intro ?_ ?_); focus (first | (with_reducible show pairsOk _ _ = true; kernel_rfl) | omega | (with_reducible assumption) | kernel_rfl | (exact bytesE_len _) | (exact bytesE_allP _) | (exact rowsE_len _) | (exact rowsE_allP _) | ((simp [allP_nil, allP_cons, persL]; done)) | ((simp [byV]; done)) | (simp; done) | (simp; omega)))
    | ((with_reducible first | show inBlockS _ _ _ _ | show thenS _ _ _ _); simp only [inBlockS, thenS, reduceIte, Nat.reduceEqDiff]))
            all_goals (refine ⟨_, [], rfl, ⟨rfl, ?_, ?_, ?_⟩⟩ <;> simp [go_sem, Nat.add_sub_cancel, Nat.add_one_sub_one, Nat.sub_zero, Nat.mul_one, finP, finPs, viewP, viewPs, finT, finC, finCs, finL, finLs, finBs, viewOk, viewsOk, persL, inT, inC, inCs, inL, inLs, ndB, allP_nil, allP_cons, allP_append])
        · have g1 : decide (200 < (sec.length : Int)) = true := by simp; omega
          obtain ⟨ep, ro, ch⟩ := s
          simp only [stmT, stmC] at *
          refine PC.of_body Tryd.func3 rfl ?_
          intro Γ _ _
          simp only [Tryd.ntmps3, List.length_cons, List.length_nil, Nat.reduceAdd, Nat.reduceSub, List.replicate_succ, List.replicate_zero, List.cons_append, List.nil_append]
          repeat' (first
    | (with_reducible first | refine AW.seq ?_ | refine AW.block ?_ | refine AW.ret ?_ | refine AW.skip ?_ | refine AW.exit ?_)
    | ((refine AW.cond (by rfl) (fun hc => ?_) (fun hc => ?_)) <;> (try simp only [hcS] at hc) <;> (try first | contradiction | (exfalso; omega)))
    | ((refine AW.condB (by rfl) (fun hc => ?_) (fun hc => ?_)))
    | ((first | (refine aCall.pers (CL) fnOk10 ?_ ?_ ?_ ?_; (focus rfl); (focus rfl); (focus (simp [persT, persL, iE_len, g0, g1]; done))) | (refine aCall.pers (F1) fnOk11 ?_ ?_ ?_ ?_; (focus rfl); (focus rfl); (focus (simp [persT, persL, iE_len, g0, g1]; done))) | (refine aCall.pers (F2) fnOk11 ?_ ?_ ?_ ?_; (focus rfl); (focus rfl); (focus (simp [persT, persL, iE_len, g0, g1]; done))) | (with_reducible refine AW.regionK mo (by kernel_rfl) ?_; intro K hK) | (with_reducible refine aSliceO.l ?_) | (with_reducible refine aBuildO.l ?_) | (with_reducible refine aStoreO.l ?_)); simp (maxSteps := 2000000) only [↓askG_tt, ↓askG_ff, ↓askG_tf, ↓askG_ft, ↓AOp, ↓aBin, ↓aUn, ↓aConv, ↓aAlloc, ↓aBox, ↓aBuild, ↓aLoad, ↓aStore, ↓aNil, ↓aFieldAddr, ↓aField, ↓aExtract, ↓aIndexAddr, ↓aIndex, ↓aSlice, ↓aMake, ↓aBuildSlice, ↓aFrz, ↓aLen, ↓aAppend, ↓aCopy, Nat.reduceAdd, Nat.reduceSub, Nat.reduceMul, Nat.reduceLT, Nat.reduceLeDiff, Nat.reduceEqDiff, Int.reduceToNat, Int.reduceBEq, Int.reduceBNe, Int.reduceEq, Int.reduceNe, Int.reduceNeg, Int.reduceLE, Int.reduceLT, reduceIte, reduceCtorEq, go_sem, Nat.add_sub_cancel, Nat.add_one_sub_one, Nat.sub_zero, Nat.mul_one, shiftP, shiftT, shiftC, shiftL, shiftB, newIds, idsOfT, List.zipIdx_cons, List.zipIdx_nil, iE_len, g0, g1])
    | (with_reducible refine hK _ ?_; clear hK K)
    | (with_reducible refine askG.mk (fun hg => ?_) (fun hg => ?_) <;> (try simp only [hcS] at hg) <;> (try first | contradiction | (exfalso; omega)))
    | ((with_reducible refine And.intro ?_ ?_); focus (first | (with_reducible show pairsOk _ _ = true; kernel_rfl) | omega | (with_reducible assumption) | kernel_rfl | (exact bytesE_len _) | (exact bytesE_allP _) | (exact rowsE_len _) | (exact rowsE_allP _) | ((simp [allP_nil, allP_cons, persL]; done)) | ((simp [byV]; done)) | (simp; done) | (simp; omega)))
    | ((with_reducible first | show inBlockS _ _ _ _ | show thenS _ _ _ _); simp only [inBlockS, thenS, reduceIte, Nat.reduceEqDiff]))
          all_goals (refine ⟨_, [], rfl, ⟨rfl, ?_, ?_, ?_⟩⟩ <;> simp [go_sem, Nat.add_sub_cancel, Nat.add_one_sub_one, Nat.sub_zero, Nat.mul_one, finP, finPs, viewP, viewPs, finT, finC, finCs, finL, finLs, finBs, viewOk, viewsOk, persL, inT, inC, inCs, inL, inLs, ndB, allP_nil, allP_cons, allP_append])
      · have g0 : decide (300 < (body.length : Int)) = true := by simp; omega
        obtain ⟨ep, ro, ch⟩ := s
        simp only [stmT, stmC] at *
        refine PC.of_body Tryd.func3 rfl ?_
        intro Γ _ _
        simp only [Tryd.ntmps3, List.length_cons, List.length_nil, Nat.reduceAdd, Nat.reduceSub, List.replicate_succ, List.replicate_zero, List.cons_append, List.nil_append]
        repeat' (first
    | (with_reducible first | refine AW.seq ?_ | refine AW.block ?_ | refine AW.ret ?_ | refine AW.skip ?_ | refine AW.exit ?_)
    | ((refine AW.cond (by rfl) (fun hc => ?_) (fun hc => ?_)) <;> (try simp only [hcS] at hc) <;> (try first | contradiction | (exfalso; omega)))
    | ((refine AW.condB (by rfl) (fun hc => ?_) (fun hc => ?_)))
    | ((first | (refine aCall.pers (CL) fnOk10 ?_ ?_ ?_ ?_; (focus rfl); (focus rfl); (focus (simp [persT, persL, iE_len, g0]; done))) | (refine aCall.pers (F1) fnOk11 ?_ ?_ ?_ ?_; (focus rfl); (focus rfl); (focus (simp [persT, persL, iE_len, g0]; done))) | (refine aCall.pers (F2) fnOk11 ?_ ?_ ?_ ?_; (focus rfl); (focus rfl); (focus (simp [persT, persL, iE_len, g0]; done))) | (with_reducible refine AW.regionK mo (by kernel_rfl) ?_; intro K hK) | (with_reducible refine aSliceO.l ?_) | (with_reducible refine aBuildO.l ?_) | (with_reducible refine aStoreO.l ?_)); simp (maxSteps := 2000000) only [↓askG_tt, ↓askG_ff, ↓askG_tf, ↓askG_ft, ↓AOp, ↓aBin, ↓aUn, ↓aConv, ↓aAlloc, ↓aBox, ↓aBuild, ↓aLoad, ↓aStore, ↓aNil, ↓aFieldAddr, ↓aField, ↓aExtract, ↓aIndexAddr, ↓aIndex, ↓aSlice, ↓aMake, ↓aBuildSlice, ↓aFrz, ↓aLen, ↓aAppend, ↓aCopy, Nat.reduceAdd, Nat.reduceSub, Nat.reduceMul, Nat.reduceLT, Nat.reduceLeDiff, Nat.reduceEqDiff, Int.reduceToNat, Int.reduceBEq, Int.reduceBNe, Int.reduceEq, Int.reduceNe, Int.reduceNeg, Int.reduceLE, Int.reduceLT, reduceIte, reduceCtorEq, go_sem, Nat.add_sub_cancel, Nat.add_one_sub_one, Nat.sub_zero, Nat.mul_one, shiftP, shiftT, shiftC, shiftL, shiftB, newIds, idsOfT, List.zipIdx_cons, List.zipIdx_nil, iE_len, g0])
    | (with_reducible refine hK _ ?_; clear hK K)
    | (with_reducible refine askG.mk (fun hg => ?_) (fun hg => ?_) <;> (try simp only [hcS] at hg) <;> (try first | contradiction | (exfalso; omega)))
    | ((with_reducible refine And.intro ?_ ?_); focus (first | (with_reducible show pairsOk _ _ = true; kernel_rfl) | omega | (with_reducible assumption) | kernel_rfl | (exact bytesE_len _) | (exact bytesE_allP _) | (exact rowsE_len _) | (exact rowsE_allP _) | ((simp [allP_nil, allP_cons, persL]; done)) | ((simp [byV]; done)) | (simp; done) | (simp; omega)))
    | ((with_reducible first | show inBlockS _ _ _ _ | show thenS _ _ _ _); simp only [inBlockS, thenS, reduceIte, Nat.reduceEqDiff]))
        all_goals (refine ⟨_, [], rfl, ⟨rfl, ?_, ?_, ?_⟩⟩ <;> simp [go_sem, Nat.add_sub_cancel, Nat.add_one_sub_one, Nat.sub_zero, Nat.mul_one, finP, finPs, viewP, viewPs, finT, finC, finCs, finL, finLs, finBs, viewOk, viewsOk, persL, inT, inC, inCs, inL, inLs, ndB, allP_nil, allP_cons, allP_append])
    · have F2 := few_pc ncs false hln (by simp [f2])
      obtain ⟨ep, ro, ch⟩ := s
      simp only [stmT, stmC] at *
      refine PC.of_body Tryd.func3 rfl ?_
      intro Γ _ _
      simp only [Tryd.ntmps3, List.length_cons, List.length_nil, Nat.reduceAdd, Nat.reduceSub, List.replicate_succ, List.replicate_zero, List.cons_append, List.nil_append]
      repeat' (first
    | (with_reducible first | refine AW.seq ?_ | refine AW.block ?_ | refine AW.ret ?_ | refine AW.skip ?_ | refine AW.exit ?_)
    | ((refine AW.cond (by rfl) (fun hc => ?_) (fun hc => ?_)) <;> (try simp only [hcS] at hc) <;> (try first | contradiction | (exfalso; omega)))
    | ((refine AW.condB (by rfl) (fun hc => ?_) (fun hc => ?_)))
    | ((first | (refine aCall.pers (CL) fnOk10 ?_ ?_ ?_ ?_; (focus rfl); (focus rfl); (focus (simp [persT, persL, iE_len, rowsE_length]; done))) | (refine aCall.pers (F1) fnOk11 ?_ ?_ ?_ ?_; (focus rfl); (focus rfl); (focus (simp [persT, persL, iE_len, rowsE_length]; done))) | (refine aCall.pers (F2) fnOk11 ?_ ?_ ?_ ?_; (focus rfl); (focus rfl); (focus (simp [persT, persL, iE_len, rowsE_length]; done))) | (with_reducible refine AW.regionK mo (by kernel_rfl) ?_; intro K hK) | (with_reducible refine aSliceO.l ?_) | (with_reducible refine aBuildO.l ?_) | (with_reducible refine aStoreO.l ?_)); simp (maxSteps := 2000000) only [↓askG_tt, ↓askG_ff, ↓askG_tf, ↓askG_ft, ↓AOp, ↓aBin, ↓aUn, ↓aConv, ↓aAlloc, ↓aBox, ↓aBuild, ↓aLoad, ↓aStore, ↓aNil, ↓aFieldAddr, ↓aField, ↓aExtract, ↓aIndexAddr, ↓aIndex, ↓aSlice, ↓aMake, ↓aBuildSlice, ↓aFrz, ↓aLen, ↓aAppend, ↓aCopy, Nat.reduceAdd, Nat.reduceSub, Nat.reduceMul, Nat.reduceLT, Nat.reduceLeDiff, Nat.reduceEqDiff, Int.reduceToNat, Int.reduceBEq, Int.reduceBNe, Int.reduceEq, Int.reduceNe, Int.reduceNeg, Int.reduceLE, Int.reduceLT, reduceIte, reduceCtorEq, go_sem, Nat.add_sub_cancel, Nat.add_one_sub_one, Nat.sub_zero, Nat.mul_one, shiftP, shiftT, shiftC, shiftL, shiftB, newIds, idsOfT, List.zipIdx_cons, List.zipIdx_nil, iE_len, rowsE_length])
    | (with_reducible refine hK _ ?_; clear hK K)
    | (with_reducible refine askG.mk (fun hg => ?_) (fun hg => ?_) <;> (try simp only [hcS] at hg) <;> (try first | contradiction | (exfalso; omega)))
    | ((with_reducible refine And.intro ?_ ?_); focus (first | (with_reducible show pairsOk _ _ = true; kernel_rfl) | omega | (with_reducible assumption) | kernel_rfl | (exact bytesE_len _) | (exact bytesE_allP _) | (exact rowsE_len _) | (exact rowsE_allP _) | ((simp [allP_nil, allP_cons, persL]; done)) | ((simp [byV]; done)) | (simp; done) | (simp; omega)))
    | ((with_reducible first | show inBlockS _ _ _ _ | show thenS _ _ _ _); simp only [inBlockS, thenS, reduceIte, Nat.reduceEqDiff]))
      all_goals (refine ⟨_, [], rfl, ⟨rfl, ?_, ?_, ?_⟩⟩ <;> simp [go_sem, Nat.add_sub_cancel, Nat.add_one_sub_one, Nat.sub_zero, Nat.mul_one, finP, finPs, viewP, viewPs, finT, finC, finCs, finL, finLs, finBs, viewOk, viewsOk, persL, inT, inC, inCs, inL, inLs, ndB, allP_nil, allP_cons, allP_append])
  · have F1 := few_pc svs false hls (by simp [f1])
    obtain ⟨ep, ro, ch⟩ := s
    simp only [stmT, stmC] at *
    refine PC.of_body Tryd.func3 rfl ?_
    intro Γ _ _
    simp only [Tryd.ntmps3, List.length_cons, List.length_nil, Nat.reduceAdd, Nat.reduceSub, List.replicate_succ, List.replicate_zero, List.cons_append, List.nil_append]
    repeat' (first
    | (with_reducible first | refine AW.seq ?_ | refine AW.block ?_ | refine AW.ret ?_ | refine AW.skip ?_ | refine AW.exit ?_)
    | ((refine AW.cond (by rfl) (fun hc => ?_) (fun hc => ?_)) <;> (try simp only [hcS] at hc) <;> (try first | contradiction | (exfalso; omega)))
    | ((refine AW.condB (by rfl) (fun hc => ?_) (fun hc => ?_)))
    | ((first | (refine aCall.pers (CL) fnOk10 ?_ ?_ ?_ ?_; (focus rfl); (focus rfl); (focus (simp [persT, persL, iE_len, rowsE_length]; done))) | (refine aCall.pers (F1) fnOk11 ?_ ?_ ?_ ?_; (focus rfl); (focus rfl); (focus (simp [persT, persL, iE_len, rowsE_length]; done))) | (with_reducible refine AW.regionK mo (by kernel_rfl) ?_; intro K hK) | (with_reducible refine aSliceO.l ?_) | (with_reducible refine aBuildO.l ?_) | (with_reducible refine aStoreO.l ?_)); simp (maxSteps := 2000000) only [↓askG_tt, ↓askG_ff, ↓askG_tf, ↓askG_ft, ↓AOp, ↓aBin, ↓aUn, ↓aConv, ↓aAlloc, ↓aBox, ↓aBuild, ↓aLoad, ↓aStore, ↓aNil, ↓aFieldAddr, ↓aField, ↓aExtract, ↓aIndexAddr, ↓aIndex, ↓aSlice, ↓aMake, ↓aBuildSlice, ↓aFrz, ↓aLen, ↓aAppend, ↓aCopy, Nat.reduceAdd, Nat.reduceSub, Nat.reduceMul, Nat.reduceLT, Nat.reduceLeDiff, Nat.reduceEqDiff, Int.reduceToNat, Int.reduceBEq, Int.reduceBNe, Int.reduceEq, Int.reduceNe, Int.reduceNeg, Int.reduceLE, Int.reduceLT, reduceIte, reduceCtorEq, go_sem, Nat.add_sub_cancel, Nat.add_one_sub_one, Nat.sub_zero, Nat.mul_one, shiftP, shiftT, shiftC, shiftL, shiftB, newIds, idsOfT, List.zipIdx_cons, List.zipIdx_nil, iE_len, rowsE_length])
    | (with_reducible refine hK _ ?_; clear hK K)
    | (with_reducible refine askG.mk (fun hg => ?_) (fun hg => ?_) <;> (try simp only [hcS] at hg) <;> (try first | contradiction | (exfalso; omega)))
    | ((with_reducible refine And.intro ?_ ?_); focus (first | (with_reducible show pairsOk _ _ = true; kernel_rfl) | omega | (with_reducible assumption) | kernel_rfl | (exact bytesE_len _) | (exact bytesE_allP _) | (exact rowsE_len _) | (exact rowsE_allP _) | ((simp [allP_nil, allP_cons, persL]; done)) | ((simp [byV]; done)) | (simp; done) | (simp; omega)))
    | ((with_reducible first | show inBlockS _ _ _ _ | show thenS _ _ _ _); simp only [inBlockS, thenS, reduceIte, Nat.reduceEqDiff]))
    all_goals (refine ⟨_, [], rfl, ⟨rfl, ?_, ?_, ?_⟩⟩ <;> simp [go_sem, Nat.add_sub_cancel, Nat.add_one_sub_one, Nat.sub_zero, Nat.mul_one, finP, finPs, viewP, viewPs, finT, finC, finCs, finL, finLs, finBs, viewOk, viewsOk, persL, inT, inC, inCs, inL, inLs, ndB, allP_nil, allP_cons, allP_append])
theorem walk_OnionWraps (W : World) (hG : Globs (Cx (fun _ => True) W.heap.size) h0 μ0 W) (v0 v1 v2 v3 v4 v5 : Value) (o0 : OpnR W 22 v0) (o1 : OpnR W 22 v1) (o2 : OpnR W 23 v2) (o3 : OpnR W 23 v3) (o4 : OpnR W 27 v4) (o5 : OpnR W 3 v5) :
    Calls Tryd.prog 3 #[v0, v1, v2, v3, v4, v5] W fun e w' => e = .returned (.bool true) ∧ Below W.heap.size W w' := by
  obtain ⟨svs, h0, r0⟩ := o0.text_s
  obtain ⟨ncs, h1, r1⟩ := o1.text_s
  obtain ⟨body, h2, r2⟩ := o2.byte_s
  obtain ⟨sec, h3, r3⟩ := o3.byte_s
  obtain ⟨s, h4, r4⟩ := o4.stm
  obtain ⟨hops, h5, r5⟩ := o5.i64
  refine law_ofG (onionWraps_pc svs ncs body sec s hops h0 h1 h4) rfl (fun i t hi => ?_) hG
  rcases i with _ | _ | _ | _ | _ | _ | i
  · cases hi; exact r0
  · cases hi; exact r1
  · cases hi; exact r2
  · cases hi; exact r3
  · cases hi; exact r4
  · cases hi; exact r5
  · cases hi
end Go.Proofs.YtbcclcbmbejnmaaDoor
