/- The net as plain values: few; a net handed in. -/
import Derived.Test.YtfppilpaaoklaaaPwZc
import Derived.Test.YtfppilpaaoklaaaPwO
namespace Go.Proofs.Ytfppilpaaoklaaa
set_option linter.unusedSimpArgs false
set_option linter.unusedVariables false
open Go Go.RowKit
attribute [local congr] AW_congr AOs_congr aCall_congr aCall1_congr aSem_congr aSliceO_congr aBuildO_congr aStoreO_congr
attribute [local go_sem] rowsE_length rowsE_get Option.map_map bytesE_length bytesE_get shiftE_bytes shiftE_rows exBytesE str_beq bytesE_take_self
set_option maxRecDepth 100000
theorem sameI_pc (xs : List Int) (h : xs.length ≤ 9223372036854775806) : PC Try.prog 18 [rowsT intC xs, rowsT intC xs] [] (boolT true) := by
  refine PC.of_body Try.func18 rfl ?_
  intro Γ _ _
  simp only [Try.ntmps18, List.length_cons, List.length_nil, Nat.reduceAdd, Nat.reduceSub, List.replicate_succ, List.replicate_zero, List.cons_append, List.nil_append]
  repeat' (first
    | (with_reducible first | refine AW.seq ?_ | refine AW.block ?_ | refine AW.ret ?_ | refine AW.skip ?_ | refine AW.exit ?_)
    | ((refine AW.cond (by rfl) (fun hc => ?_) (fun hc => ?_)) <;> (try simp only [hcS] at hc) <;> (try first | contradiction | (exfalso; omega)))
    | ((refine AW.condB (by rfl) (fun hc => ?_) (fun hc => ?_)))
    | ((first | (with_reducible refine AW.regionK mo (by kernel_rfl) ?_; intro K hK) | (with_reducible refine aSliceO.l ?_) | (with_reducible refine aBuildO.l ?_) | (with_reducible refine aStoreO.l ?_)); simp (maxSteps := 2000000) only [↓askG_tt, ↓askG_ff, ↓askG_tf, ↓askG_ft, ↓AOp, ↓aBin, ↓aUn, ↓aConv, ↓aAlloc, ↓aBox, ↓aBuild, ↓aLoad, ↓aStore, ↓aNil, ↓aFieldAddr, ↓aField, ↓aExtract, ↓aIndexAddr, ↓aIndex, ↓aSlice, ↓aMake, ↓aBuildSlice, ↓aFrz, ↓aLen, ↓aAppend, ↓aCopy, Nat.reduceAdd, Nat.reduceSub, Nat.reduceMul, Nat.reduceLT, Nat.reduceLeDiff, Nat.reduceEqDiff, Int.reduceToNat, Int.reduceBEq, Int.reduceBNe, Int.reduceEq, Int.reduceNe, Int.reduceNeg, Int.reduceLE, Int.reduceLT, reduceIte, reduceCtorEq, go_sem, Nat.add_sub_cancel, Nat.add_one_sub_one, Nat.sub_zero, shiftP, shiftT, shiftC, shiftL, shiftB, newIds, idsOfT, List.zipIdx_cons, List.zipIdx_nil, bne_self_eq_false])
    | (with_reducible refine hK _ ?_; clear hK K)
    | (with_reducible refine askG.mk (fun hg => ?_) (fun hg => ?_) <;> (try simp only [hcS] at hg) <;> (try first | contradiction | (exfalso; omega)))
    | ((with_reducible refine And.intro ?_ ?_); focus (first | (with_reducible show pairsOk _ _ = true; kernel_rfl) | omega | (with_reducible assumption) | kernel_rfl | (exact bytesE_len _) | (exact bytesE_allP _) | (exact rowsE_len _) | (exact rowsE_allP _) | (intro r hr; simp only [List.mem_cons] at hr; rcases hr with rfl | hr <;> first | rfl | exact rowsE_len _ _ hr) | ((simp [allP_nil, allP_cons, persL]; done)) | (simp; done) | (simp; omega)))
    | ((with_reducible first | show inBlockS _ _ _ _ | show thenS _ _ _ _); simp only [inBlockS, thenS, reduceIte, Nat.reduceEqDiff]))
  refine AW.loopG (fun i : Nat => (13, intT i) :: (anys 5 1 (anys 14 12 []))) (fun _ => []) (fun i => xs.length - i) (fun i => i ≤ xs.length) 0 [] (by omega) ⟨by simp, by simp [leEs_one, leP, lePs, inP, inPs, inEs, leTs, leT, leC, leCs, leL, leLs, leBs, overT, anys, inTs, inT, inCs, inC, inLs, inL, inBs, hOf, undefT], by simp [leEs_one, leP, lePs, inP, inPs, inEs, leTs, leT, leC, leCs, leL, leLs, leBs, overT, anys, inTs, inT, inCs, inC, inLs, inL, inBs, hOf, undefT]⟩ (fun i _ => ⟨by simp [leEs_one, leP, lePs, inP, inPs, inEs, leTs, leT, leC, leCs, leL, leLs, leBs, overT, anys, inTs, inT, inCs, inC, inLs, inL, inBs, hOf, undefT], by simp [leEs_one, leP, lePs, inP, inPs, inEs, leTs, leT, leC, leCs, leL, leLs, leBs, overT, anys, inTs, inT, inCs, inC, inLs, inL, inBs, hOf, undefT]⟩) ?_
  intro i hi
  simp only [overT, anys, ↓askG_tt, ↓askG_ff, ↓askG_tf, ↓askG_ft, ↓AOp, ↓aBin, ↓aUn, ↓aConv, ↓aAlloc, ↓aBox, ↓aBuild, ↓aLoad, ↓aStore, ↓aNil, ↓aFieldAddr, ↓aField, ↓aExtract, ↓aIndexAddr, ↓aIndex, ↓aSlice, ↓aMake, ↓aBuildSlice, ↓aFrz, ↓aLen, ↓aAppend, ↓aCopy, Nat.reduceAdd, Nat.reduceSub, Nat.reduceMul, Nat.reduceLT, Nat.reduceLeDiff, Nat.reduceEqDiff, Int.reduceToNat, Int.reduceBEq, Int.reduceBNe, Int.reduceEq, Int.reduceNe, Int.reduceNeg, Int.reduceLE, Int.reduceLT, reduceIte, reduceCtorEq, go_sem, Nat.add_sub_cancel, Nat.add_one_sub_one, Nat.sub_zero]
  by_cases hlt : i < xs.length
  · obtain ⟨x, hx⟩ : ∃ x, xs[i]? = some x := ⟨_, List.getElem?_eq_getElem hlt⟩
    have g0 : decide ((i : Int) < (xs.length : Int)) = true := decide_eq_true (by omega)
    repeat' (first
    | (with_reducible first | refine AW.seq ?_ | refine AW.block ?_ | refine AW.ret ?_ | refine AW.skip ?_ | refine AW.exit ?_)
    | ((refine AW.cond (by rfl) (fun hc => ?_) (fun hc => ?_)) <;> (try simp only [hcS] at hc) <;> (try first | contradiction | (exfalso; omega)))
    | ((refine AW.condB (by rfl) (fun hc => ?_) (fun hc => ?_)))
    | ((first | (with_reducible refine AW.regionK mo (by kernel_rfl) ?_; intro K hK) | (with_reducible refine aSliceO.l ?_) | (with_reducible refine aBuildO.l ?_) | (with_reducible refine aStoreO.l ?_)); simp (maxSteps := 2000000) only [↓askG_tt, ↓askG_ff, ↓askG_tf, ↓askG_ft, ↓AOp, ↓aBin, ↓aUn, ↓aConv, ↓aAlloc, ↓aBox, ↓aBuild, ↓aLoad, ↓aStore, ↓aNil, ↓aFieldAddr, ↓aField, ↓aExtract, ↓aIndexAddr, ↓aIndex, ↓aSlice, ↓aMake, ↓aBuildSlice, ↓aFrz, ↓aLen, ↓aAppend, ↓aCopy, Nat.reduceAdd, Nat.reduceSub, Nat.reduceMul, Nat.reduceLT, Nat.reduceLeDiff, Nat.reduceEqDiff, Int.reduceToNat, Int.reduceBEq, Int.reduceBNe, Int.reduceEq, Int.reduceNe, Int.reduceNeg, Int.reduceLE, Int.reduceLT, reduceIte, reduceCtorEq, go_sem, Nat.add_sub_cancel, Nat.add_one_sub_one, Nat.sub_zero, shiftP, shiftT, shiftC, shiftL, shiftB, newIds, idsOfT, List.zipIdx_cons, List.zipIdx_nil, g0, hx, intC, bne_self_eq_false])
    | (with_reducible refine hK _ ?_; clear hK K)
    | (with_reducible refine askG.mk (fun hg => ?_) (fun hg => ?_) <;> (try simp only [hcS] at hg) <;> (try first | contradiction | (exfalso; omega)))
    | ((with_reducible refine And.intro ?_ ?_); focus (first | (with_reducible show pairsOk _ _ = true; kernel_rfl) | omega | (with_reducible assumption) | kernel_rfl | (exact bytesE_len _) | (exact bytesE_allP _) | (exact rowsE_len _) | (exact rowsE_allP _) | (intro r hr; simp only [List.mem_cons] at hr; rcases hr with rfl | hr <;> first | rfl | exact rowsE_len _ _ hr) | ((simp [allP_nil, allP_cons, persL]; done)) | (simp; done) | (simp; omega)))
    | ((with_reducible first | show inBlockS _ _ _ _ | show thenS _ _ _ _); simp only [inBlockS, thenS, reduceIte, Nat.reduceEqDiff]))
    rw [wrap_i64 _ (by omega)]
    exact ⟨[], i + 1, by omega, by omega, ⟨by simp, by simp [leEs_one, leP, lePs, inP, inPs, inEs, leTs, leT, leC, leCs, leL, leLs, leBs, overT, anys, inTs, inT, inCs, inC, inLs, inL, inBs, hOf, undefT], by simp [leEs_one, leP, lePs, inP, inPs, inEs, leTs, leT, leC, leCs, leL, leLs, leBs, overT, anys, inTs, inT, inCs, inC, inLs, inL, inBs, hOf, undefT]⟩⟩
  · obtain rfl : i = xs.length := by omega
    have g0 : decide ((xs.length : Int) < (xs.length : Int)) = false := by simp
    repeat' (first
    | (with_reducible first | refine AW.seq ?_ | refine AW.block ?_ | refine AW.ret ?_ | refine AW.skip ?_ | refine AW.exit ?_)
    | ((refine AW.cond (by rfl) (fun hc => ?_) (fun hc => ?_)) <;> (try simp only [hcS] at hc) <;> (try first | contradiction | (exfalso; omega)))
    | ((refine AW.condB (by rfl) (fun hc => ?_) (fun hc => ?_)))
    | ((first | (with_reducible refine AW.regionK mo (by kernel_rfl) ?_; intro K hK) | (with_reducible refine aSliceO.l ?_) | (with_reducible refine aBuildO.l ?_) | (with_reducible refine aStoreO.l ?_)); simp (maxSteps := 2000000) only [↓askG_tt, ↓askG_ff, ↓askG_tf, ↓askG_ft, ↓AOp, ↓aBin, ↓aUn, ↓aConv, ↓aAlloc, ↓aBox, ↓aBuild, ↓aLoad, ↓aStore, ↓aNil, ↓aFieldAddr, ↓aField, ↓aExtract, ↓aIndexAddr, ↓aIndex, ↓aSlice, ↓aMake, ↓aBuildSlice, ↓aFrz, ↓aLen, ↓aAppend, ↓aCopy, Nat.reduceAdd, Nat.reduceSub, Nat.reduceMul, Nat.reduceLT, Nat.reduceLeDiff, Nat.reduceEqDiff, Int.reduceToNat, Int.reduceBEq, Int.reduceBNe, Int.reduceEq, Int.reduceNe, Int.reduceNeg, Int.reduceLE, Int.reduceLT, reduceIte, reduceCtorEq, go_sem, Nat.add_sub_cancel, Nat.add_one_sub_one, Nat.sub_zero, shiftP, shiftT, shiftC, shiftL, shiftB, newIds, idsOfT, List.zipIdx_cons, List.zipIdx_nil, g0])
    | (with_reducible refine hK _ ?_; clear hK K)
    | (with_reducible refine askG.mk (fun hg => ?_) (fun hg => ?_) <;> (try simp only [hcS] at hg) <;> (try first | contradiction | (exfalso; omega)))
    | ((with_reducible refine And.intro ?_ ?_); focus (first | (with_reducible show pairsOk _ _ = true; kernel_rfl) | omega | (with_reducible assumption) | kernel_rfl | (exact bytesE_len _) | (exact bytesE_allP _) | (exact rowsE_len _) | (exact rowsE_allP _) | (intro r hr; simp only [List.mem_cons] at hr; rcases hr with rfl | hr <;> first | rfl | exact rowsE_len _ _ hr) | ((simp [allP_nil, allP_cons, persL]; done)) | (simp; done) | (simp; omega)))
    | ((with_reducible first | show inBlockS _ _ _ _ | show thenS _ _ _ _); simp only [inBlockS, thenS, reduceIte, Nat.reduceEqDiff]))
    all_goals (refine ⟨_, [], rfl, ⟨rfl, ?_, ?_, ?_⟩⟩ <;> simp [go_sem, Nat.add_sub_cancel, Nat.add_one_sub_one, Nat.sub_zero, finP, finPs, viewP, viewPs, finT, finC, finCs, finL, finLs, finBs, viewOk, viewsOk, persL, inT, inC, inCs, inL, inLs, ndB, allP_nil, allP_cons, allP_append])
def sumF (T0 : Int) (l : List Flt) : Int := l.foldl (fun m (f : Flt) => IntKind.i64.wrap (m + IntKind.i64.wrap (1 + IntKind.i64.wrap ((f.bs.length : Int).tdiv 64)))) T0
def fewN (n : Nt) : Bool := decide (sumF 0 n.ls ≤ 100) && decide ((n.fs.length : Int) ≤ 200)
theorem foldl_take_succ {α β : Type} (f : β → α → β) (b : β) {xs : List α} {i : Nat} {x : α} (h : xs[i]? = some x) : (xs.take (i + 1)).foldl f b = f ((xs.take i).foldl f b) x := by
  rw [List.take_add_one, h]; simp
theorem fewN_pc (n : Nt) (hf : NFit n) : PC Try.prog 10 [ntT n] [] (boolT (fewN n)) := by
  have p1 := hf.l1
  clear hf
  obtain ⟨ls, fs⟩ := n
  simp only at p1
  simp only [ntT, ntC, fewN]
  refine PC.of_body Try.func10 rfl ?_
  intro Γ _ _
  simp only [Try.ntmps10, List.length_cons, List.length_nil, Nat.reduceAdd, Nat.reduceSub, List.replicate_succ, List.replicate_zero, List.cons_append, List.nil_append]
  repeat' (first
    | (with_reducible first | refine AW.seq ?_ | refine AW.block ?_ | refine AW.ret ?_ | refine AW.skip ?_ | refine AW.exit ?_)
    | ((refine AW.cond (by rfl) (fun hc => ?_) (fun hc => ?_)) <;> (try simp only [hcS] at hc) <;> (try first | contradiction | (exfalso; omega)))
    | ((refine AW.condB (by rfl) (fun hc => ?_) (fun hc => ?_)))
    | ((first | (with_reducible refine AW.regionK mo (by kernel_rfl) ?_; intro K hK) | (with_reducible refine aSliceO.l ?_) | (with_reducible refine aBuildO.l ?_) | (with_reducible refine aStoreO.l ?_)); simp (maxSteps := 2000000) only [↓askG_tt, ↓askG_ff, ↓askG_tf, ↓askG_ft, ↓AOp, ↓aBin, ↓aUn, ↓aConv, ↓aAlloc, ↓aBox, ↓aBuild, ↓aLoad, ↓aStore, ↓aNil, ↓aFieldAddr, ↓aField, ↓aExtract, ↓aIndexAddr, ↓aIndex, ↓aSlice, ↓aMake, ↓aBuildSlice, ↓aFrz, ↓aLen, ↓aAppend, ↓aCopy, Nat.reduceAdd, Nat.reduceSub, Nat.reduceMul, Nat.reduceLT, Nat.reduceLeDiff, Nat.reduceEqDiff, Int.reduceToNat, Int.reduceBEq, Int.reduceBNe, Int.reduceEq, Int.reduceNe, Int.reduceNeg, Int.reduceLE, Int.reduceLT, reduceIte, reduceCtorEq, go_sem, Nat.add_sub_cancel, Nat.add_one_sub_one, Nat.sub_zero, shiftP, shiftT, shiftC, shiftL, shiftB, newIds, idsOfT, List.zipIdx_cons, List.zipIdx_nil])
    | (with_reducible refine hK _ ?_; clear hK K)
    | (with_reducible refine askG.mk (fun hg => ?_) (fun hg => ?_) <;> (try simp only [hcS] at hg) <;> (try first | contradiction | (exfalso; omega)))
    | ((with_reducible refine And.intro ?_ ?_); focus (first | (with_reducible show pairsOk _ _ = true; kernel_rfl) | omega | (with_reducible assumption) | kernel_rfl | (exact bytesE_len _) | (exact bytesE_allP _) | (exact rowsE_len _) | (exact rowsE_allP _) | (intro r hr; simp only [List.mem_cons] at hr; rcases hr with rfl | hr <;> first | rfl | exact rowsE_len _ _ hr) | ((simp [allP_nil, allP_cons, persL]; done)) | (simp; done) | (simp; omega)))
    | ((with_reducible first | show inBlockS _ _ _ _ | show thenS _ _ _ _); simp only [inBlockS, thenS, reduceIte, Nat.reduceEqDiff]))
  refine AW.loopG (fun i : Nat => (3, intT (sumF 0 (ls.take i))) :: (9, intT i) :: (anys 5 1 (anys 10 11 []))) (fun _ => [some ⟨25, 2, [[rowsL fltC ls, rowsL intC fs]]⟩]) (fun i => ls.length - i) (fun i => i ≤ ls.length) 0 [0] (by omega) ⟨by simp, by simp [leEs_one, leP, lePs, inP, inPs, inEs, leTs, leT, leC, leCs, leL, leLs, leBs, overT, anys, inTs, inT, inCs, inC, inLs, inL, inBs, hOf, undefT, sumF], by simp [leEs_one, leP, lePs, inP, inPs, inEs, leTs, leT, leC, leCs, leL, leLs, leBs, overT, anys, inTs, inT, inCs, inC, inLs, inL, inBs, hOf, undefT]⟩ (fun i _ => ⟨by simp [leEs_one, leP, lePs, inP, inPs, inEs, leTs, leT, leC, leCs, leL, leLs, leBs, overT, anys, inTs, inT, inCs, inC, inLs, inL, inBs, hOf, undefT], by simp [leEs_one, leP, lePs, inP, inPs, inEs, leTs, leT, leC, leCs, leL, leLs, leBs, overT, anys, inTs, inT, inCs, inC, inLs, inL, inBs, hOf, undefT]⟩) ?_
  intro i hi
  simp only [overT, anys, ↓askG_tt, ↓askG_ff, ↓askG_tf, ↓askG_ft, ↓AOp, ↓aBin, ↓aUn, ↓aConv, ↓aAlloc, ↓aBox, ↓aBuild, ↓aLoad, ↓aStore, ↓aNil, ↓aFieldAddr, ↓aField, ↓aExtract, ↓aIndexAddr, ↓aIndex, ↓aSlice, ↓aMake, ↓aBuildSlice, ↓aFrz, ↓aLen, ↓aAppend, ↓aCopy, Nat.reduceAdd, Nat.reduceSub, Nat.reduceMul, Nat.reduceLT, Nat.reduceLeDiff, Nat.reduceEqDiff, Int.reduceToNat, Int.reduceBEq, Int.reduceBNe, Int.reduceEq, Int.reduceNe, Int.reduceNeg, Int.reduceLE, Int.reduceLT, reduceIte, reduceCtorEq, go_sem, Nat.add_sub_cancel, Nat.add_one_sub_one, Nat.sub_zero]
  by_cases hlt : i < ls.length
  · obtain ⟨x, hx⟩ : ∃ x, ls[i]? = some x := ⟨_, List.getElem?_eq_getElem hlt⟩
    have g0 : decide ((i : Int) < (ls.length : Int)) = true := decide_eq_true (by omega)
    have e := foldl_take_succ (fun m (f : Flt) => IntKind.i64.wrap (m + IntKind.i64.wrap (1 + IntKind.i64.wrap ((f.bs.length : Int).tdiv 64)))) 0 hx
    have e3 : sumF 0 (ls.take (i + 1)) = IntKind.i64.wrap (sumF 0 (ls.take i) + IntKind.i64.wrap (1 + IntKind.i64.wrap ((x.bs.length : Int).tdiv 64))) := e
    generalize sumF 0 (ls.take i) = S at e3 ⊢
    repeat' (first
    | (with_reducible first | refine AW.seq ?_ | refine AW.block ?_ | refine AW.ret ?_ | refine AW.skip ?_ | refine AW.exit ?_)
    | ((refine AW.cond (by rfl) (fun hc => ?_) (fun hc => ?_)) <;> (try simp only [hcS] at hc) <;> (try first | contradiction | (exfalso; omega)))
    | ((refine AW.condB (by rfl) (fun hc => ?_) (fun hc => ?_)))
    | ((first | (with_reducible refine AW.regionK mo (by kernel_rfl) ?_; intro K hK) | (with_reducible refine aSliceO.l ?_) | (with_reducible refine aBuildO.l ?_) | (with_reducible refine aStoreO.l ?_)); simp (maxSteps := 2000000) only [↓askG_tt, ↓askG_ff, ↓askG_tf, ↓askG_ft, ↓AOp, ↓aBin, ↓aUn, ↓aConv, ↓aAlloc, ↓aBox, ↓aBuild, ↓aLoad, ↓aStore, ↓aNil, ↓aFieldAddr, ↓aField, ↓aExtract, ↓aIndexAddr, ↓aIndex, ↓aSlice, ↓aMake, ↓aBuildSlice, ↓aFrz, ↓aLen, ↓aAppend, ↓aCopy, Nat.reduceAdd, Nat.reduceSub, Nat.reduceMul, Nat.reduceLT, Nat.reduceLeDiff, Nat.reduceEqDiff, Int.reduceToNat, Int.reduceBEq, Int.reduceBNe, Int.reduceEq, Int.reduceNe, Int.reduceNeg, Int.reduceLE, Int.reduceLT, reduceIte, reduceCtorEq, go_sem, Nat.add_sub_cancel, Nat.add_one_sub_one, Nat.sub_zero, shiftP, shiftT, shiftC, shiftL, shiftB, newIds, idsOfT, List.zipIdx_cons, List.zipIdx_nil, hx, g0, fltC])
    | (with_reducible refine hK _ ?_; clear hK K)
    | (with_reducible refine askG.mk (fun hg => ?_) (fun hg => ?_) <;> (try simp only [hcS] at hg) <;> (try first | contradiction | (exfalso; omega)))
    | ((with_reducible refine And.intro ?_ ?_); focus (first | (with_reducible show pairsOk _ _ = true; kernel_rfl) | omega | (with_reducible assumption) | kernel_rfl | (exact bytesE_len _) | (exact bytesE_allP _) | (exact rowsE_len _) | (exact rowsE_allP _) | (intro r hr; simp only [List.mem_cons] at hr; rcases hr with rfl | hr <;> first | rfl | exact rowsE_len _ _ hr) | ((simp [allP_nil, allP_cons, persL]; done)) | (simp; done) | (simp; omega)))
    | ((with_reducible first | show inBlockS _ _ _ _ | show thenS _ _ _ _); simp only [inBlockS, thenS, reduceIte, Nat.reduceEqDiff]))
    rw [wrap_i64 ((i : Int) + 1) (by omega), ← e3]
    exact ⟨[0], i + 1, by omega, by omega, ⟨by simp, by simp [leEs_one, leP, lePs, inP, inPs, inEs, leTs, leT, leC, leCs, leL, leLs, leBs, overT, anys, inTs, inT, inCs, inC, inLs, inL, inBs, hOf, undefT], by simp [leEs_one, leP, lePs, inP, inPs, inEs, leTs, leT, leC, leCs, leL, leLs, leBs, overT, anys, inTs, inT, inCs, inC, inLs, inL, inBs, hOf, undefT]⟩⟩
  · obtain rfl : i = ls.length := by omega
    have g0 : decide ((ls.length : Int) < (ls.length : Int)) = false := by simp
    rw [List.take_length]
    generalize sumF 0 ls = S at *
    by_cases h : S ≤ 100
    · have g1 : decide (S ≤ 100) = true := decide_eq_true h
      rw [g1, Bool.true_and]
      repeat' (first
    | (with_reducible first | refine AW.seq ?_ | refine AW.block ?_ | refine AW.ret ?_ | refine AW.skip ?_ | refine AW.exit ?_)
    | ((refine AW.cond (by rfl) (fun hc => ?_) (fun hc => ?_)) <;> (try simp only [hcS] at hc) <;> (try first | contradiction | (exfalso; omega)))
    | ((refine AW.condB (by rfl) (fun hc => ?_) (fun hc => ?_)))
    | ((first | (with_reducible refine AW.regionK mo (by kernel_rfl) ?_; intro K hK) | (with_reducible refine aSliceO.l ?_) | (with_reducible refine aBuildO.l ?_) | (with_reducible refine aStoreO.l ?_)); simp (maxSteps := 2000000) only [↓askG_tt, ↓askG_ff, ↓askG_tf, ↓askG_ft, ↓AOp, ↓aBin, ↓aUn, ↓aConv, ↓aAlloc, ↓aBox, ↓aBuild, ↓aLoad, ↓aStore, ↓aNil, ↓aFieldAddr, ↓aField, ↓aExtract, ↓aIndexAddr, ↓aIndex, ↓aSlice, ↓aMake, ↓aBuildSlice, ↓aFrz, ↓aLen, ↓aAppend, ↓aCopy, Nat.reduceAdd, Nat.reduceSub, Nat.reduceMul, Nat.reduceLT, Nat.reduceLeDiff, Nat.reduceEqDiff, Int.reduceToNat, Int.reduceBEq, Int.reduceBNe, Int.reduceEq, Int.reduceNe, Int.reduceNeg, Int.reduceLE, Int.reduceLT, reduceIte, reduceCtorEq, go_sem, Nat.add_sub_cancel, Nat.add_one_sub_one, Nat.sub_zero, shiftP, shiftT, shiftC, shiftL, shiftB, newIds, idsOfT, List.zipIdx_cons, List.zipIdx_nil, g0, g1])
    | (with_reducible refine hK _ ?_; clear hK K)
    | (with_reducible refine askG.mk (fun hg => ?_) (fun hg => ?_) <;> (try simp only [hcS] at hg) <;> (try first | contradiction | (exfalso; omega)))
    | ((with_reducible refine And.intro ?_ ?_); focus (first | (with_reducible show pairsOk _ _ = true; kernel_rfl) | omega | (with_reducible assumption) | kernel_rfl | (exact bytesE_len _) | (exact bytesE_allP _) | (exact rowsE_len _) | (exact rowsE_allP _) | (intro r hr; simp only [List.mem_cons] at hr; rcases hr with rfl | hr <;> first | rfl | exact rowsE_len _ _ hr) | ((simp [allP_nil, allP_cons, persL]; done)) | (simp; done) | (simp; omega)))
    | ((with_reducible first | show inBlockS _ _ _ _ | show thenS _ _ _ _); simp only [inBlockS, thenS, reduceIte, Nat.reduceEqDiff]))
      all_goals (refine ⟨_, [], rfl, ⟨rfl, ?_, ?_, ?_⟩⟩ <;> simp [go_sem, Nat.add_sub_cancel, Nat.add_one_sub_one, Nat.sub_zero, finP, finPs, viewP, viewPs, finT, finC, finCs, finL, finLs, finBs, viewOk, viewsOk, persL, inT, inC, inCs, inL, inLs, ndB, allP_nil, allP_cons, allP_append])
    · have g1 : decide (S ≤ 100) = false := decide_eq_false h
      rw [g1, Bool.false_and]
      repeat' (first
    | (with_reducible first | refine AW.seq ?_ | refine AW.block ?_ | refine AW.ret ?_ | refine AW.skip ?_ | refine AW.exit ?_)
    | ((refine AW.cond (by rfl) (fun hc => ?_) (fun hc => ?_)) <;> (try simp only [hcS] at hc) <;> (try first | contradiction | (exfalso; omega)))
    | ((refine AW.condB (by rfl) (fun hc => ?_) (fun hc => ?_)))
    | ((first | (with_reducible refine AW.regionK mo (by kernel_rfl) ?_; intro K hK) | (with_reducible refine aSliceO.l ?_) | (with_reducible refine aBuildO.l ?_) | (with_reducible refine aStoreO.l ?_)); simp (maxSteps := 2000000) only [↓askG_tt, ↓askG_ff, ↓askG_tf, ↓askG_ft, ↓AOp, ↓aBin, ↓aUn, ↓aConv, ↓aAlloc, ↓aBox, ↓aBuild, ↓aLoad, ↓aStore, ↓aNil, ↓aFieldAddr, ↓aField, ↓aExtract, ↓aIndexAddr, ↓aIndex, ↓aSlice, ↓aMake, ↓aBuildSlice, ↓aFrz, ↓aLen, ↓aAppend, ↓aCopy, Nat.reduceAdd, Nat.reduceSub, Nat.reduceMul, Nat.reduceLT, Nat.reduceLeDiff, Nat.reduceEqDiff, Int.reduceToNat, Int.reduceBEq, Int.reduceBNe, Int.reduceEq, Int.reduceNe, Int.reduceNeg, Int.reduceLE, Int.reduceLT, reduceIte, reduceCtorEq, go_sem, Nat.add_sub_cancel, Nat.add_one_sub_one, Nat.sub_zero, shiftP, shiftT, shiftC, shiftL, shiftB, newIds, idsOfT, List.zipIdx_cons, List.zipIdx_nil, g0, g1])
    | (with_reducible refine hK _ ?_; clear hK K)
    | (with_reducible refine askG.mk (fun hg => ?_) (fun hg => ?_) <;> (try simp only [hcS] at hg) <;> (try first | contradiction | (exfalso; omega)))
    | ((with_reducible refine And.intro ?_ ?_); focus (first | (with_reducible show pairsOk _ _ = true; kernel_rfl) | omega | (with_reducible assumption) | kernel_rfl | (exact bytesE_len _) | (exact bytesE_allP _) | (exact rowsE_len _) | (exact rowsE_allP _) | (intro r hr; simp only [List.mem_cons] at hr; rcases hr with rfl | hr <;> first | rfl | exact rowsE_len _ _ hr) | ((simp [allP_nil, allP_cons, persL]; done)) | (simp; done) | (simp; omega)))
    | ((with_reducible first | show inBlockS _ _ _ _ | show thenS _ _ _ _); simp only [inBlockS, thenS, reduceIte, Nat.reduceEqDiff]))
      all_goals (refine ⟨_, [], rfl, ⟨rfl, ?_, ?_, ?_⟩⟩ <;> simp [go_sem, Nat.add_sub_cancel, Nat.add_one_sub_one, Nat.sub_zero, finP, finPs, viewP, viewPs, finT, finC, finCs, finL, finLs, finBs, viewOk, viewsOk, persL, inT, inC, inCs, inL, inLs, ndB, allP_nil, allP_cons, allP_append])
theorem shape_bytes : Shape 26 (fun bs => [bytesL bs]) (fun bs => bs.length ≤ 140737488351232) :=
  (shape_slice (shape_u8 Try.underlying5) Try.underlying26 (b := 1) (by kernel_rfl)).map id (fun x => rfl) (fun x h => by simpa using h.2.1)
theorem shape_flt : Shape 37 fltC (fun f => f.bs.length ≤ 140737488351232) := by
  have b := shape_struct (n := 4) Try.underlying37 (by kernel_rfl) (shapeF_c 1 3 (shape_i64 Try.underlying3) (shapeF_c 1 2 (shape_i64 Try.underlying3) (shapeF_c 1 1 (shape_i64 Try.underlying3) (shapeF_c 1 0 shape_bytes shapeF_nil rfl rfl (by kernel_rfl)) rfl rfl (by kernel_rfl)) rfl rfl (by kernel_rfl)) rfl rfl (by kernel_rfl))
  exact b.map (fun x => ⟨x.1, x.2.1, x.2.2.1, x.2.2.2.1⟩) (fun x => rfl) (fun x h => h.2.2.2.1)
theorem shape_nt : Shape 25 ntC NFit := by
  have b := shape_struct (n := 2) Try.underlying25 (by kernel_rfl) (shapeF_c 1 1 (rows_shape shape_flt Try.underlying22 (b := 48) (by kernel_rfl)) (shapeF_c 1 0 (rows_shape (shape_i64 Try.underlying3) Try.underlying23 (b := 8) (by kernel_rfl)) shapeF_nil rfl rfl (by kernel_rfl)) rfl rfl (by kernel_rfl))
  exact b.map (fun x => ⟨x.1, x.2.1⟩) (fun x => rfl) (fun x h => ⟨h.1.2.1, h.2.1.2.1, h.1.1⟩)
theorem OpnR.nt {W : World} {v : Value} (h : OpnR W 25 v) : ∃ n, NFit n ∧ RT (Cx (fun _ => True) W.heap.size) h0 μ0 W (ntT n) v := by
  obtain ⟨cs, hc⟩ := h.cells_agg Try.underlying25
  exact h.agg shape_nt cs hc _ (fun _ => trivial)
theorem OpnR.i64 {W : World} {v : Value} (h : OpnR W 3 v) : ∃ n : Int, RT (Cx (fun _ => True) W.heap.size) h0 μ0 W (intT n) v := by
  obtain ⟨n, _, r⟩ := h.leaf (l := fun n => .sc (.int .i64 n)) (shape_i64 Try.underlying3) (fun _ => rfl) (h.cells_int Try.underlying3) _ (fun _ => trivial)
  exact ⟨n, r⟩
end Go.Proofs.Ytfppilpaaoklaaa
