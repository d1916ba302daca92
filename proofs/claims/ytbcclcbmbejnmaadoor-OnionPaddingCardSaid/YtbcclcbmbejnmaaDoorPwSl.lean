/- Rows that are told, read for good; numbers handed in. -/
import Derived.Test.YtbcclcbmbejnmaaDoorPwMa
import Derived.Test.YtbcclcbmbejnmaaDoorPwP
import Derived.Test.YtbcclcbmbejnmaaDoorPwO
namespace Go.Proofs.YtbcclcbmbejnmaaDoor
set_option linter.unusedSimpArgs false
set_option linter.unusedVariables false
open Go Go.RowKit
attribute [local congr] AW_congr AOs_congr aCall_congr aCall1_congr aSem_congr aSliceO_congr aBuildO_congr aStoreO_congr
attribute [local go_sem] uC_own uC_ids uC_shift uC_frz uC_length tabK_uC ub_v bytes_set bytesE_one1 bytesE_consr bytesE_append bytesE_drop bytesE_take rowsE_length rowsE_get Option.map_map bytesE_length bytesE_get shiftE_bytes shiftE_rows exBytesE str_beq bytesE_take_self List.take_length
set_option maxRecDepth 100000

attribute [local simp] leEs_bytes
theorem PC.sl1 {P : Program} {f : FuncId} {vs : List T} {t : TypeId} {n : Nat} {b : List UInt8} (h : PC P f vs [⟨t, 1, bytesE b⟩] (.leaf (.own 0 1 n))) : PC P f vs [] (.leaf (bytesL b)) := by
  refine h.weak [] ⟨rfl, ?_, ?_, ?_⟩ <;> simp [↓askG_tt, ↓askG_ff, ↓askG_tf, ↓askG_ft, ↓AOp, ↓aBin, ↓aUn, ↓aConv, ↓aAlloc, ↓aBox, ↓aBuild, ↓aLoad, ↓aStore, ↓aNil, ↓aFieldAddr, ↓aField, ↓aExtract, ↓aIndexAddr, ↓aIndex, ↓aSlice, ↓aMake, ↓aBuildSlice, ↓aFrz, ↓aLen, ↓aAppend, ↓aCopy, Nat.reduceAdd, Nat.reduceSub, Nat.reduceMul, Nat.reduceLT, Nat.reduceLeDiff, Nat.reduceEqDiff, Int.reduceToNat, Int.reduceBEq, Int.reduceBNe, Int.reduceEq, Int.reduceNe, Int.reduceNeg, Int.reduceLE, Int.reduceLT, reduceIte, reduceCtorEq, go_sem, Nat.add_sub_cancel, Nat.add_one_sub_one, Nat.sub_zero, Nat.mul_one, finP, finPs, viewP, viewPs, finT, finC, finCs, finL, finLs, finBs, viewOk, viewsOk, persL, inT, inC, inCs, inL, inLs, ndB, allP_nil, allP_cons, allP_append, rowsOf, bytesE_allP]
theorem PC.slE {P : Program} {f : FuncId} {vs : List T} {t : TypeId} {n : Nat} {b : List UInt8} {v : Value} (h : PC P f vs [⟨t, 1, bytesE b⟩] (.tup [.leaf (.own 0 1 n), .leaf (.sc v)])) : PC P f vs [] (.tup [.leaf (bytesL b), .leaf (.sc v)]) := by
  refine h.weak [] ⟨rfl, ?_, ?_, ?_⟩ <;> simp [↓askG_tt, ↓askG_ff, ↓askG_tf, ↓askG_ft, ↓AOp, ↓aBin, ↓aUn, ↓aConv, ↓aAlloc, ↓aBox, ↓aBuild, ↓aLoad, ↓aStore, ↓aNil, ↓aFieldAddr, ↓aField, ↓aExtract, ↓aIndexAddr, ↓aIndex, ↓aSlice, ↓aMake, ↓aBuildSlice, ↓aFrz, ↓aLen, ↓aAppend, ↓aCopy, Nat.reduceAdd, Nat.reduceSub, Nat.reduceMul, Nat.reduceLT, Nat.reduceLeDiff, Nat.reduceEqDiff, Int.reduceToNat, Int.reduceBEq, Int.reduceBNe, Int.reduceEq, Int.reduceNe, Int.reduceNeg, Int.reduceLE, Int.reduceLT, reduceIte, reduceCtorEq, go_sem, Nat.add_sub_cancel, Nat.add_one_sub_one, Nat.sub_zero, Nat.mul_one, finP, finPs, viewP, viewPs, finT, finC, finCs, finL, finLs, finBs, viewOk, viewsOk, persL, inT, inC, inCs, inL, inLs, ndB, allP_nil, allP_cons, allP_append, rowsOf, bytesE_allP]
theorem PC.slEE {P : Program} {f : FuncId} {vs : List T} {t t2 : TypeId} {n n2 : Nat} {b b2 : List UInt8} {v : Value} (h : PC P f vs [⟨t, 1, bytesE b⟩, ⟨t2, 1, bytesE b2⟩] (.tup [.leaf (.own 0 1 n), .leaf (.own 1 1 n2), .leaf (.sc v)])) : PC P f vs [] (.tup [.leaf (bytesL b), .leaf (bytesL b2), .leaf (.sc v)]) := by
  refine h.weak [] ⟨rfl, ?_, ?_, ?_⟩ <;> simp [↓askG_tt, ↓askG_ff, ↓askG_tf, ↓askG_ft, ↓AOp, ↓aBin, ↓aUn, ↓aConv, ↓aAlloc, ↓aBox, ↓aBuild, ↓aLoad, ↓aStore, ↓aNil, ↓aFieldAddr, ↓aField, ↓aExtract, ↓aIndexAddr, ↓aIndex, ↓aSlice, ↓aMake, ↓aBuildSlice, ↓aFrz, ↓aLen, ↓aAppend, ↓aCopy, Nat.reduceAdd, Nat.reduceSub, Nat.reduceMul, Nat.reduceLT, Nat.reduceLeDiff, Nat.reduceEqDiff, Int.reduceToNat, Int.reduceBEq, Int.reduceBNe, Int.reduceEq, Int.reduceNe, Int.reduceNeg, Int.reduceLE, Int.reduceLT, reduceIte, reduceCtorEq, go_sem, Nat.add_sub_cancel, Nat.add_one_sub_one, Nat.sub_zero, Nat.mul_one, finP, finPs, viewP, viewPs, finT, finC, finCs, finL, finLs, finBs, viewOk, viewsOk, persL, inT, inC, inCs, inL, inLs, ndB, allP_nil, allP_cons, allP_append, rowsOf, bytesE_allP]
theorem OpnR.i64 {W : World} {v : Value} (h : OpnR W 3 v) : ∃ n : Int, (-9223372036854775808 ≤ n ∧ n ≤ 9223372036854775807) ∧ RT (Cx (fun _ => True) W.heap.size) h0 μ0 W (intT n) v :=
  h.leaf (l := fun n => .sc (.int .i64 n)) (shape_i64 Tryd.underlying3) (fun _ => rfl) (h.cells_int Tryd.underlying3) _ (fun _ => trivial)
theorem OpnR.u8 {W : World} {v : Value} (h : OpnR W 5 v) : ∃ x : UInt8, RT (Cx (fun _ => True) W.heap.size) h0 μ0 W (.leaf (.sc (byV x))) v := by
  obtain ⟨x, _, r⟩ := h.leaf (shape_u8 Tryd.underlying5) (fun _ => rfl) (h.cells_int Tryd.underlying5) _ (fun _ => trivial)
  exact ⟨x, r⟩
end Go.Proofs.YtbcclcbmbejnmaaDoor
