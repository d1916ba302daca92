/- Notes as plain values: what comes in, the example. -/
import Derived.Test.YtgjkbihjpgppbaaPwNq
import Derived.Test.YtgjkbihjpgppbaaPwNd
import Derived.Test.YtgjkbihjpgppbaaPwO
namespace Go.Proofs.Ytgjkbihjpgppbaa
set_option linter.unusedSimpArgs false
set_option linter.unusedVariables false
open Go Go.RowKit
attribute [local congr] AW_congr AOs_congr aCall_congr aCall1_congr aSem_congr aSliceO_congr aBuildO_congr aStoreO_congr
set_option maxRecDepth 100000
attribute [local simp] leEs_bytes
/-! ### Joined -/
theorem shape_bytes : Shape 27 (fun bs => [bytesL bs]) (fun bs => bs.length ≤ 140737488351232) :=
  (shape_slice (shape_u8 Try.underlying5) Try.underlying27 (b := 1) (by kernel_rfl)).map id (fun x => rfl) (fun x h => by simpa using h.2.1)
def NteOk (n : Nte) : Prop := (-9223372036854775808 ≤ n.kind ∧ n.kind ≤ 9223372036854775807) ∧ (n.parts.length ≤ 140737488351232 ∧ ∀ p ∈ n.parts, p.length ≤ 140737488351232) ∧ (-9223372036854775808 ≤ n.hop ∧ n.hop ≤ 9223372036854775807)
theorem shape_nte : Shape 24 nteC NteOk := by
  have b := shape_struct (n := 4) Try.underlying24 (by kernel_rfl) (shapeF_c 1 3 (shape_i64 Try.underlying3) (shapeF_c 1 2 (shape_slice shape_bytes Try.underlying22 (b := 24) (by kernel_rfl)) (shapeF_c 1 1 (shape_i64 Try.underlying3) (shapeF_c 1 0 (shape_bool Try.underlying4) shapeF_nil rfl rfl (by kernel_rfl)) rfl rfl (by kernel_rfl)) rfl rfl (by kernel_rfl)) rfl rfl (by kernel_rfl))
  refine b.map (fun x => ⟨x.1, x.2.1, x.2.2.1, x.2.2.2.1⟩) (fun x => rfl) (fun x h => ?_)
  obtain ⟨h1, h2, h3, h4, _⟩ := h
  refine ⟨h1, ⟨?_, fun p hp => h2.1 p hp⟩, h3⟩
  show x.2.1.length ≤ 140737488351232
  have h5 : x.2.1.length * 24 ≤ 140737488351232 := h2.2.1
  omega
theorem OpnR.nte {W : World} {v : Value} (h : OpnR W 24 v) : ∃ n, NteOk n ∧ RT (Cx (fun _ => True) W.heap.size) h0 μ0 W (nteT n) v := by
  obtain ⟨cs, hc⟩ := h.cells_agg Try.underlying24
  exact h.agg shape_nte cs hc _ (fun _ => trivial)
theorem OpnR.i64 {W : World} {v : Value} (h : OpnR W 3 v) : ∃ n : Int, (-9223372036854775808 ≤ n ∧ n ≤ 9223372036854775807) ∧ RT (Cx (fun _ => True) W.heap.size) h0 μ0 W (intT n) v :=
  h.leaf (shape_i64 Try.underlying3) (fun _ => rfl) (h.cells_int Try.underlying3) _ (fun _ => trivial)
theorem OpnR.boo {W : World} {v : Value} (h : OpnR W 4 v) : ∃ b : Bool, RT (Cx (fun _ => True) W.heap.size) h0 μ0 W (boolT b) v := by
  obtain ⟨b, _, r⟩ := h.leaf (shape_bool Try.underlying4) (fun _ => rfl) (h.cells_bool Try.underlying4) _ (fun _ => trivial)
  exact ⟨b, r⟩
theorem live_chk : chkN ⟨7, [], 2, true⟩ = 0 := chkN_ok (by simp [badP]) (by simp [longP])
theorem live_put : putV ⟨7, [], 2, true⟩ = [7, 0, 0, 2, 1] := by
  unfold putV
  rw [if_pos live_chk]
  simp only [headN, tailN, encP, if_true, List.flatMap_nil, List.append_nil]
  decide
theorem bytesE_live : [[L.sc (.int .u8 7)], [L.sc (.int .u8 0)], [L.sc (.int .u8 0)], [L.sc (.int .u8 2)], [L.sc (.int .u8 1)]] = bytesE [7, 0, 0, 2, 1] := rfl
theorem live_pc : PC Try.prog 9 [] [] (boolT true) := by
  have P := put_pc ⟨7, [], 2, true⟩ (by simp)
  rw [live_chk, live_put] at P
  have S := same_pc [7, 0, 0, 2, 1] [7, 0, 0, 2, 1]
  simp only [decide_true] at S
  simp only [nteT, nteC] at P
  refine PC.of_body Try.func9 rfl ?_
  intro Γ _
  simp only [Try.ntmps9, List.length_cons, List.length_nil, Nat.reduceAdd, Nat.reduceSub, List.replicate_succ, List.replicate_zero, List.cons_append, List.nil_append]
  repeat' (first
    | (with_reducible refine AW.seq ?_)
    | (with_reducible refine AW.block ?_)
    | (with_reducible refine AW.regionK mo ?_; intro K hK; simp (maxSteps := 2000000) only [↓askG_tt, ↓askG_ff, ↓askG_tf, ↓askG_ft, ↓AOp, ↓aBin, ↓aUn, ↓aConv, ↓aAlloc, ↓aBox, ↓aBuild, ↓aLoad, ↓aStore, ↓aNil, ↓aFieldAddr, ↓aField, ↓aExtract, ↓aIndexAddr, ↓aIndex, ↓aSlice, ↓aMake, ↓aBuildSlice, ↓aFrz, ↓aLen, ↓aAppend, ↓aCopy, Nat.reduceAdd, Nat.reduceSub, Nat.reduceMul, Nat.reduceLT, Nat.reduceLeDiff, Nat.reduceEqDiff, Int.reduceToNat, Int.reduceBEq, Int.reduceBNe, Int.reduceEq, Int.reduceNe, Int.reduceNeg, Int.reduceLE, Int.reduceLT, reduceIte, reduceCtorEq, go_sem, rowsE_length, rowsE_get, Option.map_map, bytesE_length, bytesE_get, shiftE_bytes, shiftE_rows, exBytesE, str_beq, bytesE_take_self, Nat.add_sub_cancel, Nat.add_one_sub_one, Nat.sub_zero, rowsE_nil, bytesE_live])
    | ((refine AW.cond (by rfl) (fun hc => ?_) (fun hc => ?_)) <;> (try simp only [decide_eq_true_eq, decide_eq_false_iff_not, Bool.and_eq_true, Bool.or_eq_true, Bool.and_eq_false_iff, Bool.or_eq_false_iff, Int.not_lt, Int.not_le, beq_iff_eq, bne_iff_ne, ne_eq, Decidable.not_not, beq_eq_false_iff_ne, bne_eq_false_iff_eq, Bool.not_eq_eq_eq_not, Bool.not_true, Bool.not_false, true_eq_decide_iff, false_eq_decide_iff, Bool.not_eq_true, Bool.not_eq_false] at hc) <;> (try first | contradiction | (exfalso; omega)))
    | ((refine AW.condB (by rfl) (fun hc => ?_) (fun hc => ?_)))
    | (refine aCall.wk (P) fnOk11 ?_ ?_ ?_ ?_; (focus rfl); (focus (simp [wkTs, wkT, wkLs, wkL, isNilSl, St.ev, evalT, rowsE_nil, bytesE_live]; done)); (focus (simp [persT, persL, St.ev, evalT, rowsE_nil, bytesE_live]; done)); simp only [↓askG_tt, ↓askG_ff, ↓askG_tf, ↓askG_ft, ↓AOp, ↓aBin, ↓aUn, ↓aConv, ↓aAlloc, ↓aBox, ↓aBuild, ↓aLoad, ↓aStore, ↓aNil, ↓aFieldAddr, ↓aField, ↓aExtract, ↓aIndexAddr, ↓aIndex, ↓aSlice, ↓aMake, ↓aBuildSlice, ↓aFrz, ↓aLen, ↓aAppend, ↓aCopy, Nat.reduceAdd, Nat.reduceSub, Nat.reduceMul, Nat.reduceLT, Nat.reduceLeDiff, Nat.reduceEqDiff, Int.reduceToNat, Int.reduceBEq, Int.reduceBNe, Int.reduceEq, Int.reduceNe, Int.reduceNeg, Int.reduceLE, Int.reduceLT, reduceIte, reduceCtorEq, go_sem, rowsE_length, rowsE_get, Option.map_map, bytesE_length, bytesE_get, shiftE_bytes, shiftE_rows, exBytesE, str_beq, bytesE_take_self, Nat.add_sub_cancel, Nat.add_one_sub_one, Nat.sub_zero, shiftP, shiftT, shiftC, shiftL, shiftB, newIds, idsOfT, List.zipIdx_cons, List.zipIdx_nil, rowsE_nil, bytesE_live])
    | (refine aCall.view (S) fnOk15 ?_ ?_ ?_ ?_ ?_; (focus rfl); (focus rfl); (focus (simp [plainBs]; done)); (focus (simp [argsOk, viewTOk, viewP, viewPs, ↓askG_tt, ↓askG_ff, ↓askG_tf, ↓askG_ft, ↓AOp, ↓aBin, ↓aUn, ↓aConv, ↓aAlloc, ↓aBox, ↓aBuild, ↓aLoad, ↓aStore, ↓aNil, ↓aFieldAddr, ↓aField, ↓aExtract, ↓aIndexAddr, ↓aIndex, ↓aSlice, ↓aMake, ↓aBuildSlice, ↓aFrz, ↓aLen, ↓aAppend, ↓aCopy, Nat.reduceAdd, Nat.reduceSub, Nat.reduceMul, Nat.reduceLT, Nat.reduceLeDiff, Nat.reduceEqDiff, Int.reduceToNat, Int.reduceBEq, Int.reduceBNe, Int.reduceEq, Int.reduceNe, Int.reduceNeg, Int.reduceLE, Int.reduceLT, reduceIte, reduceCtorEq, go_sem, rowsE_length, rowsE_get, Option.map_map, bytesE_length, bytesE_get, shiftE_bytes, shiftE_rows, exBytesE, str_beq, bytesE_take_self, Nat.add_sub_cancel, Nat.add_one_sub_one, Nat.sub_zero, finP, finPs, viewP, viewPs, finT, finC, finCs, finL, finLs, finBs, viewOk, viewsOk, persL, inT, inC, inCs, inL, inLs, ndB, List.any_cons, List.any_nil, List.mem_cons, List.not_mem_nil, List.mem_singleton, exists_eq_left, Sum.inl.injEq, reduceCtorEq, forall_eq, implies_true, Option.some.injEq, L.own.injEq, L.sc.injEq, L.sl.injEq, T.leaf.injEq, T.agg.injEq, exists_eq_left', exists_and_left, exists_const, L.row.injEq, L.ptr.injEq, T.tup.injEq, allP_nil, allP_cons, allP_append]; done)); simp only [↓askG_tt, ↓askG_ff, ↓askG_tf, ↓askG_ft, ↓AOp, ↓aBin, ↓aUn, ↓aConv, ↓aAlloc, ↓aBox, ↓aBuild, ↓aLoad, ↓aStore, ↓aNil, ↓aFieldAddr, ↓aField, ↓aExtract, ↓aIndexAddr, ↓aIndex, ↓aSlice, ↓aMake, ↓aBuildSlice, ↓aFrz, ↓aLen, ↓aAppend, ↓aCopy, Nat.reduceAdd, Nat.reduceSub, Nat.reduceMul, Nat.reduceLT, Nat.reduceLeDiff, Nat.reduceEqDiff, Int.reduceToNat, Int.reduceBEq, Int.reduceBNe, Int.reduceEq, Int.reduceNe, Int.reduceNeg, Int.reduceLE, Int.reduceLT, reduceIte, reduceCtorEq, go_sem, rowsE_length, rowsE_get, Option.map_map, bytesE_length, bytesE_get, shiftE_bytes, shiftE_rows, exBytesE, str_beq, bytesE_take_self, Nat.add_sub_cancel, Nat.add_one_sub_one, Nat.sub_zero, shiftP, shiftT, shiftC, shiftL, shiftB, newIds, idsOfT, List.zipIdx_cons, List.zipIdx_nil, rowsE_nil, bytesE_live])
    | (with_reducible refine aSliceO.l ?_; simp only [↓askG_tt, ↓askG_ff, ↓askG_tf, ↓askG_ft, ↓AOp, ↓aBin, ↓aUn, ↓aConv, ↓aAlloc, ↓aBox, ↓aBuild, ↓aLoad, ↓aStore, ↓aNil, ↓aFieldAddr, ↓aField, ↓aExtract, ↓aIndexAddr, ↓aIndex, ↓aSlice, ↓aMake, ↓aBuildSlice, ↓aFrz, ↓aLen, ↓aAppend, ↓aCopy, Nat.reduceAdd, Nat.reduceSub, Nat.reduceMul, Nat.reduceLT, Nat.reduceLeDiff, Nat.reduceEqDiff, Int.reduceToNat, Int.reduceBEq, Int.reduceBNe, Int.reduceEq, Int.reduceNe, Int.reduceNeg, Int.reduceLE, Int.reduceLT, reduceIte, reduceCtorEq, go_sem, rowsE_length, rowsE_get, Option.map_map, bytesE_length, bytesE_get, shiftE_bytes, shiftE_rows, exBytesE, str_beq, bytesE_take_self, Nat.add_sub_cancel, Nat.add_one_sub_one, Nat.sub_zero, rowsE_nil, bytesE_live])
    | (with_reducible refine aBuildO.l ?_; simp only [↓askG_tt, ↓askG_ff, ↓askG_tf, ↓askG_ft, ↓AOp, ↓aBin, ↓aUn, ↓aConv, ↓aAlloc, ↓aBox, ↓aBuild, ↓aLoad, ↓aStore, ↓aNil, ↓aFieldAddr, ↓aField, ↓aExtract, ↓aIndexAddr, ↓aIndex, ↓aSlice, ↓aMake, ↓aBuildSlice, ↓aFrz, ↓aLen, ↓aAppend, ↓aCopy, Nat.reduceAdd, Nat.reduceSub, Nat.reduceMul, Nat.reduceLT, Nat.reduceLeDiff, Nat.reduceEqDiff, Int.reduceToNat, Int.reduceBEq, Int.reduceBNe, Int.reduceEq, Int.reduceNe, Int.reduceNeg, Int.reduceLE, Int.reduceLT, reduceIte, reduceCtorEq, go_sem, rowsE_length, rowsE_get, Option.map_map, bytesE_length, bytesE_get, shiftE_bytes, shiftE_rows, exBytesE, str_beq, bytesE_take_self, Nat.add_sub_cancel, Nat.add_one_sub_one, Nat.sub_zero, rowsE_nil, bytesE_live])
    | (with_reducible refine aStoreO.l ?_; simp only [↓askG_tt, ↓askG_ff, ↓askG_tf, ↓askG_ft, ↓AOp, ↓aBin, ↓aUn, ↓aConv, ↓aAlloc, ↓aBox, ↓aBuild, ↓aLoad, ↓aStore, ↓aNil, ↓aFieldAddr, ↓aField, ↓aExtract, ↓aIndexAddr, ↓aIndex, ↓aSlice, ↓aMake, ↓aBuildSlice, ↓aFrz, ↓aLen, ↓aAppend, ↓aCopy, Nat.reduceAdd, Nat.reduceSub, Nat.reduceMul, Nat.reduceLT, Nat.reduceLeDiff, Nat.reduceEqDiff, Int.reduceToNat, Int.reduceBEq, Int.reduceBNe, Int.reduceEq, Int.reduceNe, Int.reduceNeg, Int.reduceLE, Int.reduceLT, reduceIte, reduceCtorEq, go_sem, rowsE_length, rowsE_get, Option.map_map, bytesE_length, bytesE_get, shiftE_bytes, shiftE_rows, exBytesE, str_beq, bytesE_take_self, Nat.add_sub_cancel, Nat.add_one_sub_one, Nat.sub_zero, rowsE_nil, bytesE_live])
    | (with_reducible refine hK _ ?_; clear hK K)
    | (with_reducible refine AW.ret ?_)
    | (with_reducible refine AW.skip ?_)
    | (with_reducible refine AW.exit ?_)
    | (with_reducible refine askG.mk (fun hg => ?_) (fun hg => ?_) <;> (try simp only [true_eq_decide_iff, false_eq_decide_iff, Bool.not_eq_eq_eq_not, decide_eq_true_eq, decide_eq_false_iff_not, Bool.not_true, Bool.not_false, beq_iff_eq, bne_iff_ne, ne_eq, beq_eq_false_iff_ne, bne_eq_false_iff_eq, Int.not_lt, Int.not_le, Decidable.not_not] at hg) <;> (try first | contradiction | (exfalso; omega)))
    | ((with_reducible refine And.intro ?_ ?_); focus (first | (with_reducible show pairsOk _ _ = true; kernel_rfl) | omega | (with_reducible assumption) | kernel_rfl | (exact bytesE_len _) | (exact bytesE_allP _) | (exact rowsE_len _) | (exact rowsE_allP _) | ((simp [allP_nil, allP_cons, persL]; done)) | (exact ⟨rfl, rfl⟩) | (simp; done) | (simp; omega)))
    | ((with_reducible show inBlockS _ _ _ _); simp only [inBlockS, thenS, reduceIte, Nat.reduceEqDiff])
    | ((with_reducible show thenS _ _ _ _); simp only [thenS, inBlockS, reduceIte, Nat.reduceEqDiff]))
  all_goals (refine ⟨_, [], rfl, ⟨rfl, ?_, ?_, ?_⟩⟩ <;> simp [↓askG_tt, ↓askG_ff, ↓askG_tf, ↓askG_ft, ↓AOp, ↓aBin, ↓aUn, ↓aConv, ↓aAlloc, ↓aBox, ↓aBuild, ↓aLoad, ↓aStore, ↓aNil, ↓aFieldAddr, ↓aField, ↓aExtract, ↓aIndexAddr, ↓aIndex, ↓aSlice, ↓aMake, ↓aBuildSlice, ↓aFrz, ↓aLen, ↓aAppend, ↓aCopy, Nat.reduceAdd, Nat.reduceSub, Nat.reduceMul, Nat.reduceLT, Nat.reduceLeDiff, Nat.reduceEqDiff, Int.reduceToNat, Int.reduceBEq, Int.reduceBNe, Int.reduceEq, Int.reduceNe, Int.reduceNeg, Int.reduceLE, Int.reduceLT, reduceIte, reduceCtorEq, go_sem, rowsE_length, rowsE_get, Option.map_map, bytesE_length, bytesE_get, shiftE_bytes, shiftE_rows, exBytesE, str_beq, bytesE_take_self, Nat.add_sub_cancel, Nat.add_one_sub_one, Nat.sub_zero, finP, finPs, viewP, viewPs, finT, finC, finCs, finL, finLs, finBs, viewOk, viewsOk, persL, inT, inC, inCs, inL, inLs, ndB, List.any_cons, List.any_nil, List.mem_cons, List.not_mem_nil, List.mem_singleton, exists_eq_left, Sum.inl.injEq, reduceCtorEq, forall_eq, implies_true, Option.some.injEq, L.own.injEq, L.sc.injEq, L.sl.injEq, T.leaf.injEq, T.agg.injEq, exists_eq_left', exists_and_left, exists_const, L.row.injEq, L.ptr.injEq, T.tup.injEq, allP_nil, allP_cons, allP_append])
end Go.Proofs.Ytgjkbihjpgppbaa
