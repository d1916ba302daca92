/- sha: the schedule, and a block. -/
import Derived.Test.YtiifcgaililllaaDoorPwSa
import Derived.Test.YtiifcgaililllaaDoorPwA
namespace Go.Proofs.YtiifcgaililllaaDoor
set_option linter.unusedSimpArgs false
set_option linter.unusedVariables false
open Go Go.RowKit
attribute [local congr] AW_congr AOs_congr aCall_congr aCall1_congr aSem_congr aSliceO_congr aBuildO_congr aStoreO_congr
attribute [local go_sem] rowsE_length rowsE_get Option.map_map bytesE_length bytesE_get shiftE_bytes shiftE_rows exBytesE str_beq bytesE_take_self
set_option maxRecDepth 100000
/-! ### Bytes out of numbers -/

/-- Words as cells. -/
def uC (l : List Int) : List L := l.map uL
theorem uC_length (l : List Int) : (uC l).length = l.length := by simp [uC]
theorem uC_drop {l : List Int} {i : Nat} (h : i < l.length) : (uC l).drop i = uL (l.getD i 0) :: uC (l.drop (i + 1)) := by
  simp only [uC, ← List.map_drop]
  rw [List.drop_eq_getElem_cons h]
  simp only [List.map_cons, List.map_drop, List.getD_eq_getElem?_getD, List.getElem?_eq_getElem h, Option.getD_some]
theorem uC_set {l : List Int} {i : Nat} {x : Int} (h : i < l.length) : (uC l).take i ++ [uL x] ++ (uC l).drop (i + 1) = uC (l.set i x) := by
  simp only [uC, ← List.map_drop, ← List.map_take]
  rw [List.set_eq_take_append_cons_drop, if_pos h]
  simp
@[simp] theorem uC_pers (l : List Int) : ∀ x ∈ uC l, persL x = true := by
  intro x hx
  obtain ⟨y, _, rfl⟩ := List.mem_map.1 hx; rfl
@[simp] theorem allP_uC (l : List Int) : allP [uC l] := by
  intro e he; simp at he; subst he; exact uC_pers l
theorem leEs_uC {ρ : List Nat} (l : List Int) : leEs ρ [uC l] [uC l] := leEs_self (allP_uC l)
theorem inEs_uC {k : Nat} (l : List Int) : inEs k [uC l] := .inl (allP_uC l)
theorem uC_take_self (l : List Int) : (uC l).take l.length = uC l := by rw [← uC_length, List.take_length]
theorem uC_own (l : List Int) : List.flatMap ownIdsL (uC l) = [] := by simp [uC, ownIdsL, List.flatMap_map]
theorem uC_ids (l : List Int) : List.flatMap idsL (uC l) = [] := by simp [uC, idsL, List.flatMap_map]
theorem uC_shift (l : List Int) (k : Nat) : (uC l).map (shiftL k) = uC l := by simp [uC, shiftL]
theorem uC_frz (l : List Int) (id : Nat) (es : List (List L)) : (uC l).map (frzL id es) = uC l := by simp [uC, frzL]
@[simp] theorem fin_uC {h : Heap} {ρ : List (Nat ⊕ Nat)} : ∀ l : List Int, finLs h ρ (uC l) (uC l)
  | [] => trivial
  | x :: l => ⟨by simp [finL, viewOk, persL, idsL], fin_uC l⟩
@[simp] theorem in_uC {n : Nat} : ∀ l : List Int, inLs n (uC l)
  | [] => trivial
  | x :: l => ⟨trivial, in_uC l⟩
/-! ### The schedule -/
def rd4 (b : List UInt8) (i : Nat) : Int := rdU (b.getD (4 * i) 0) (b.getD (4 * i + 1) 0) (b.getD (4 * i + 2) 0) (b.getD (4 * i + 3) 0)
def schA (b : List UInt8) (n : Nat) : List Int := (List.range n).map (rd4 b) ++ List.replicate (64 - n) 0
def stepW (w : List Int) (i : Nat) : Int := addU (addU (addU (w.getD (i - 16) 0) (mixL (w.getD (i - 15) 0))) (w.getD (i - 7) 0)) (mixH (w.getD (i - 2) 0))
def schB (b : List UInt8) : Nat → List Int
  | 0 => schA b 16
  | k + 1 => (schB b k).set (16 + k) (stepW (schB b k) (16 + k))
theorem schA_len (b : List UInt8) (n : Nat) (h : n ≤ 64) : (schA b n).length = 64 := by simp [schA]; omega
theorem schB_len (b : List UInt8) : ∀ k, (schB b k).length = 64
  | 0 => schA_len b 16 (by omega)
  | k + 1 => by simp [schB, schB_len b k]
theorem schA_next (b : List UInt8) (n : Nat) (h : n < 64) : (schA b n).set n (rd4 b n) = schA b (n + 1) := by
  unfold schA
  have hl : ((List.range n).map (rd4 b)).length = n := by simp
  rw [List.set_append_right _ _ (by omega), hl, Nat.sub_self, show 64 - n = (64 - (n + 1)) + 1 by omega, List.replicate_succ, List.set_cons_zero, List.range_succ, List.map_append, List.append_assoc]
  rfl
def zW : List Int := List.replicate 64 0
theorem zW_len : zW.length = 64 := rfl
theorem zW_drop : List.drop 64 (uC zW) = [] := rfl
theorem schA_zero (b : List UInt8) : schA b 0 = zW := rfl
theorem drop4 {b : List UInt8} {i : Nat} (h : 4 * i + 4 ≤ b.length) : b.drop (4 * i) = b.getD (4 * i) 0 :: b.getD (4 * i + 1) 0 :: b.getD (4 * i + 2) 0 :: b.getD (4 * i + 3) 0 :: b.drop (4 * i + 4) := by
  have e : ∀ k, k < b.length → b.drop k = b.getD k 0 :: b.drop (k + 1) := fun k hk => by
    rw [List.drop_eq_getElem_cons hk]; simp [List.getD_eq_getElem?_getD, hk]
  rw [e (4 * i) (by omega), e (4 * i + 1) (by omega), e (4 * i + 2) (by omega), e (4 * i + 3) (by omega)]
theorem zeroW64 : [L.sc (Value.int IntKind.u32 0), .sc (.int .u32 0), .sc (.int .u32 0), .sc (.int .u32 0), .sc (.int .u32 0), .sc (.int .u32 0), .sc (.int .u32 0), .sc (.int .u32 0), .sc (.int .u32 0), .sc (.int .u32 0), .sc (.int .u32 0), .sc (.int .u32 0), .sc (.int .u32 0), .sc (.int .u32 0), .sc (.int .u32 0), .sc (.int .u32 0), .sc (.int .u32 0), .sc (.int .u32 0), .sc (.int .u32 0), .sc (.int .u32 0), .sc (.int .u32 0), .sc (.int .u32 0), .sc (.int .u32 0), .sc (.int .u32 0), .sc (.int .u32 0), .sc (.int .u32 0), .sc (.int .u32 0), .sc (.int .u32 0), .sc (.int .u32 0), .sc (.int .u32 0), .sc (.int .u32 0), .sc (.int .u32 0), .sc (.int .u32 0), .sc (.int .u32 0), .sc (.int .u32 0), .sc (.int .u32 0), .sc (.int .u32 0), .sc (.int .u32 0), .sc (.int .u32 0), .sc (.int .u32 0), .sc (.int .u32 0), .sc (.int .u32 0), .sc (.int .u32 0), .sc (.int .u32 0), .sc (.int .u32 0), .sc (.int .u32 0), .sc (.int .u32 0), .sc (.int .u32 0), .sc (.int .u32 0), .sc (.int .u32 0), .sc (.int .u32 0), .sc (.int .u32 0), .sc (.int .u32 0), .sc (.int .u32 0), .sc (.int .u32 0), .sc (.int .u32 0), .sc (.int .u32 0), .sc (.int .u32 0), .sc (.int .u32 0), .sc (.int .u32 0), .sc (.int .u32 0), .sc (.int .u32 0), .sc (.int .u32 0), .sc (.int .u32 0)] = uC zW := rfl
set_option maxHeartbeats 2000000 in
theorem schedule_pc (b : List UInt8) (hb : b.length = 64) : PC Tryd.prog 69 [bytesT b] [] (.agg (uC (schB b 48))) := by
  refine PC.of_body Tryd.func69 rfl ?_
  intro Γ _ _
  simp only [Tryd.ntmps69, List.length_cons, List.length_nil, Nat.reduceAdd, Nat.reduceSub, List.replicate_succ, List.replicate_zero, List.cons_append, List.nil_append]
  repeat' (first
    | (with_reducible first | refine AW.seq ?_ | refine AW.block ?_ | refine AW.ret ?_ | refine AW.skip ?_ | refine AW.exit ?_)
    | ((refine AW.cond (by rfl) (fun hc => ?_) (fun hc => ?_)) <;> (try simp only [hcS] at hc) <;> (try first | contradiction | (exfalso; omega)))
    | ((refine AW.condB (by rfl) (fun hc => ?_) (fun hc => ?_)))
    | ((first | (with_reducible refine AW.regionK mo (by kernel_rfl) ?_; intro K hK) | (with_reducible refine aSliceO.l ?_) | (with_reducible refine aBuildO.l ?_) | (with_reducible refine aStoreO.l ?_)); simp (maxSteps := 2000000) only [↓askG_tt, ↓askG_ff, ↓askG_tf, ↓askG_ft, ↓AOp, ↓aBin, ↓aUn, ↓aConv, ↓aAlloc, ↓aBox, ↓aBuild, ↓aLoad, ↓aStore, ↓aNil, ↓aFieldAddr, ↓aField, ↓aExtract, ↓aIndexAddr, ↓aIndex, ↓aSlice, ↓aMake, ↓aBuildSlice, ↓aFrz, ↓aLen, ↓aAppend, ↓aCopy, Nat.reduceAdd, Nat.reduceSub, Nat.reduceMul, Nat.reduceLT, Nat.reduceLeDiff, Nat.reduceEqDiff, Int.reduceToNat, Int.reduceBEq, Int.reduceBNe, Int.reduceEq, Int.reduceNe, Int.reduceNeg, Int.reduceLE, Int.reduceLT, reduceIte, reduceCtorEq, go_sem, uC_own, uC_ids, uC_shift, uC_frz, Nat.add_sub_cancel, Nat.add_one_sub_one, Nat.sub_zero, uC_length, Nat.mul_one, shiftP, shiftT, shiftC, shiftL, shiftB, newIds, idsOfT, List.zipIdx_cons, List.zipIdx_nil, zeroW64])
    | (with_reducible refine hK _ ?_; clear hK K)
    | (with_reducible refine askG.mk (fun hg => ?_) (fun hg => ?_) <;> (try simp only [hcS] at hg) <;> (try first | contradiction | (exfalso; omega)))
    | ((with_reducible refine And.intro ?_ ?_); focus (first | (with_reducible show pairsOk _ _ = true; kernel_rfl) | omega | (with_reducible assumption) | kernel_rfl | (exact bytesE_len _) | (exact bytesE_allP _) | (exact rowsE_len _) | (exact rowsE_allP _) | ((simp [allP_nil, allP_cons, persL]; done)) | (simp; done) | (simp; omega)))
    | ((with_reducible first | show inBlockS _ _ _ _ | show thenS _ _ _ _); simp only [inBlockS, thenS, reduceIte, Nat.reduceEqDiff]))
  refine AW.loopG (fun i : Nat => (6, intT i) :: (anys 4 1 (anys 7 10 []))) (fun i => [some ⟨80, 64, [uC zW]⟩, some ⟨80, 64, [uC (schA b i)]⟩]) (fun i => 16 - i) (fun i => i ≤ 16) 0 [0, 1] (by omega) ⟨by simp, by simp [leEs_one, leP, lePs, inP, inPs, inEs, leTs, leT, leC, leCs, leL, leLs, leBs, overT, anys, inTs, inT, inCs, inC, inLs, inL, inBs, hOf, undefT], by simp [leEs_one, leP, lePs, inP, inPs, inEs, leTs, leT, leC, leCs, leL, leLs, leBs, overT, anys, inTs, inT, inCs, inC, inLs, inL, inBs, hOf, undefT, schA_zero]⟩ (fun i _ => ⟨by simp [leEs_one, leP, lePs, inP, inPs, inEs, leTs, leT, leC, leCs, leL, leLs, leBs, overT, anys, inTs, inT, inCs, inC, inLs, inL, inBs, hOf, undefT], by simp [leEs_one, leP, lePs, inP, inPs, inEs, leTs, leT, leC, leCs, leL, leLs, leBs, overT, anys, inTs, inT, inCs, inC, inLs, inL, inBs, hOf, undefT]⟩) ?_
  intro i hi
  simp only [overT, anys, ↓askG_tt, ↓askG_ff, ↓askG_tf, ↓askG_ft, ↓AOp, ↓aBin, ↓aUn, ↓aConv, ↓aAlloc, ↓aBox, ↓aBuild, ↓aLoad, ↓aStore, ↓aNil, ↓aFieldAddr, ↓aField, ↓aExtract, ↓aIndexAddr, ↓aIndex, ↓aSlice, ↓aMake, ↓aBuildSlice, ↓aFrz, ↓aLen, ↓aAppend, ↓aCopy, Nat.reduceAdd, Nat.reduceSub, Nat.reduceMul, Nat.reduceLT, Nat.reduceLeDiff, Nat.reduceEqDiff, Int.reduceToNat, Int.reduceBEq, Int.reduceBNe, Int.reduceEq, Int.reduceNe, Int.reduceNeg, Int.reduceLE, Int.reduceLT, reduceIte, reduceCtorEq, go_sem, uC_own, uC_ids, uC_shift, uC_frz, Nat.add_sub_cancel, Nat.add_one_sub_one, Nat.sub_zero, uC_length, Nat.mul_one]
  have hl := schA_len b i (by omega)
  by_cases hlt : i < 16
  · have g0 : decide ((i : Int) < 16) = true := by simp; omega
    have e1 : IntKind.i64.wrap (4 * (i : Int)) = ((4 * i : Nat) : Int) := by rw [wrap_i64 _ (by omega)]; omega
    have hd : (b.drop (4 * i)).take (64 - 4 * i) = b.getD (4 * i) 0 :: b.getD (4 * i + 1) 0 :: b.getD (4 * i + 2) 0 :: b.getD (4 * i + 3) 0 :: b.drop (4 * i + 4) := by
      rw [List.take_of_length_le (by simp; omega), drop4 (by omega)]
    have C := read_pc (b.getD (4 * i) 0) (b.getD (4 * i + 1) 0) (b.getD (4 * i + 2) 0) (b.getD (4 * i + 3) 0) (b.drop (4 * i + 4))
    have hs := uC_set (l := schA b i) (i := i) (x := rd4 b i) (by omega)
    rw [schA_next b i (by omega)] at hs
    have hr : rdU (b.getD (4 * i) 0) (b.getD (4 * i + 1) 0) (b.getD (4 * i + 2) 0) (b.getD (4 * i + 3) 0) = rd4 b i := rfl
    repeat' (first
    | (with_reducible first | refine AW.seq ?_ | refine AW.block ?_ | refine AW.ret ?_ | refine AW.skip ?_ | refine AW.exit ?_)
    | ((refine AW.cond (by rfl) (fun hc => ?_) (fun hc => ?_)) <;> (try simp only [hcS] at hc) <;> (try first | contradiction | (exfalso; omega)))
    | ((refine AW.condB (by rfl) (fun hc => ?_) (fun hc => ?_)))
    | ((first | (refine aCall.pers (C) fnOk74 ?_ ?_ ?_ ?_; (focus rfl); (focus rfl); (focus (simp [persT, persL, g0, e1, hb, bytesE_drop, bytesE_take, hd, hl, hr]; done))) | (with_reducible refine AW.regionK mo (by kernel_rfl) ?_; intro K hK) | (with_reducible refine aSliceO.l ?_) | (with_reducible refine aBuildO.l ?_) | (with_reducible refine aStoreO.l ?_)); simp (maxSteps := 2000000) only [↓askG_tt, ↓askG_ff, ↓askG_tf, ↓askG_ft, ↓AOp, ↓aBin, ↓aUn, ↓aConv, ↓aAlloc, ↓aBox, ↓aBuild, ↓aLoad, ↓aStore, ↓aNil, ↓aFieldAddr, ↓aField, ↓aExtract, ↓aIndexAddr, ↓aIndex, ↓aSlice, ↓aMake, ↓aBuildSlice, ↓aFrz, ↓aLen, ↓aAppend, ↓aCopy, Nat.reduceAdd, Nat.reduceSub, Nat.reduceMul, Nat.reduceLT, Nat.reduceLeDiff, Nat.reduceEqDiff, Int.reduceToNat, Int.reduceBEq, Int.reduceBNe, Int.reduceEq, Int.reduceNe, Int.reduceNeg, Int.reduceLE, Int.reduceLT, reduceIte, reduceCtorEq, go_sem, uC_own, uC_ids, uC_shift, uC_frz, Nat.add_sub_cancel, Nat.add_one_sub_one, Nat.sub_zero, uC_length, Nat.mul_one, shiftP, shiftT, shiftC, shiftL, shiftB, newIds, idsOfT, List.zipIdx_cons, List.zipIdx_nil, g0, e1, hb, bytesE_drop, bytesE_take, hd, hl, hr])
    | (with_reducible refine hK _ ?_; clear hK K)
    | (with_reducible refine askG.mk (fun hg => ?_) (fun hg => ?_) <;> (try simp only [hcS] at hg) <;> (try first | contradiction | (exfalso; omega)))
    | ((with_reducible refine And.intro ?_ ?_); focus (first | (with_reducible show pairsOk _ _ = true; kernel_rfl) | omega | (with_reducible assumption) | kernel_rfl | (exact bytesE_len _) | (exact bytesE_allP _) | (exact rowsE_len _) | (exact rowsE_allP _) | ((simp [allP_nil, allP_cons, persL]; done)) | (simp; done) | (simp; omega)))
    | ((with_reducible first | show inBlockS _ _ _ _ | show thenS _ _ _ _); simp only [inBlockS, thenS, reduceIte, Nat.reduceEqDiff]))
    rw [hs, wrap_i64 _ (by omega)]
    exact ⟨[0, 1], i + 1, by omega, by omega, ⟨by simp, by simp [leEs_one, leP, lePs, inP, inPs, inEs, leTs, leT, leC, leCs, leL, leLs, leBs, overT, anys, inTs, inT, inCs, inC, inLs, inL, inBs, hOf, undefT], by simp [leEs_one, leP, lePs, inP, inPs, inEs, leTs, leT, leC, leCs, leL, leLs, leBs, overT, anys, inTs, inT, inCs, inC, inLs, inL, inBs, hOf, undefT]⟩⟩
  · obtain rfl : i = 16 := by omega
    have g0 : decide (((16 : Nat) : Int) < 16) = false := by decide
    clear hlt hi hl
    have hz : schA b 16 = schB b 0 := rfl
    rw [hz]
    clear hz
    repeat' (first
    | (with_reducible first | refine AW.seq ?_ | refine AW.block ?_ | refine AW.ret ?_ | refine AW.skip ?_ | refine AW.exit ?_)
    | ((refine AW.cond (by rfl) (fun hc => ?_) (fun hc => ?_)) <;> (try simp only [hcS] at hc) <;> (try first | contradiction | (exfalso; omega)))
    | ((refine AW.condB (by rfl) (fun hc => ?_) (fun hc => ?_)))
    | ((first | (with_reducible refine AW.regionK mo (by kernel_rfl) ?_; intro K hK) | (with_reducible refine aSliceO.l ?_) | (with_reducible refine aBuildO.l ?_) | (with_reducible refine aStoreO.l ?_)); simp (maxSteps := 2000000) only [↓askG_tt, ↓askG_ff, ↓askG_tf, ↓askG_ft, ↓AOp, ↓aBin, ↓aUn, ↓aConv, ↓aAlloc, ↓aBox, ↓aBuild, ↓aLoad, ↓aStore, ↓aNil, ↓aFieldAddr, ↓aField, ↓aExtract, ↓aIndexAddr, ↓aIndex, ↓aSlice, ↓aMake, ↓aBuildSlice, ↓aFrz, ↓aLen, ↓aAppend, ↓aCopy, Nat.reduceAdd, Nat.reduceSub, Nat.reduceMul, Nat.reduceLT, Nat.reduceLeDiff, Nat.reduceEqDiff, Int.reduceToNat, Int.reduceBEq, Int.reduceBNe, Int.reduceEq, Int.reduceNe, Int.reduceNeg, Int.reduceLE, Int.reduceLT, reduceIte, reduceCtorEq, go_sem, uC_own, uC_ids, uC_shift, uC_frz, Nat.add_sub_cancel, Nat.add_one_sub_one, Nat.sub_zero, uC_length, Nat.mul_one, shiftP, shiftT, shiftC, shiftL, shiftB, newIds, idsOfT, List.zipIdx_cons, List.zipIdx_nil, g0])
    | (with_reducible refine hK _ ?_; clear hK K)
    | (with_reducible refine askG.mk (fun hg => ?_) (fun hg => ?_) <;> (try simp only [hcS] at hg) <;> (try first | contradiction | (exfalso; omega)))
    | ((with_reducible refine And.intro ?_ ?_); focus (first | (with_reducible show pairsOk _ _ = true; kernel_rfl) | omega | (with_reducible assumption) | kernel_rfl | (exact bytesE_len _) | (exact bytesE_allP _) | (exact rowsE_len _) | (exact rowsE_allP _) | ((simp [allP_nil, allP_cons, persL]; done)) | (simp; done) | (simp; omega)))
    | ((with_reducible first | show inBlockS _ _ _ _ | show thenS _ _ _ _); simp only [inBlockS, thenS, reduceIte, Nat.reduceEqDiff]))
    refine AW.loopG (fun k : Nat => (5, intT ((16 + k : Nat) : Int)) :: (anys 17 27 [])) (fun k => [some ⟨80, 64, [uC zW]⟩, some ⟨80, 64, [uC (schB b k)]⟩]) (fun k => 48 - k) (fun k => k ≤ 48) 0 [0, 1] (by omega) ⟨by simp, by simp [leEs_one, leP, lePs, inP, inPs, inEs, leTs, leT, leC, leCs, leL, leLs, leBs, overT, anys, inTs, inT, inCs, inC, inLs, inL, inBs, hOf, undefT], by simp [leEs_one, leP, lePs, inP, inPs, inEs, leTs, leT, leC, leCs, leL, leLs, leBs, overT, anys, inTs, inT, inCs, inC, inLs, inL, inBs, hOf, undefT]⟩ (fun k _ => ⟨by simp [leEs_one, leP, lePs, inP, inPs, inEs, leTs, leT, leC, leCs, leL, leLs, leBs, overT, anys, inTs, inT, inCs, inC, inLs, inL, inBs, hOf, undefT], by simp [leEs_one, leP, lePs, inP, inPs, inEs, leTs, leT, leC, leCs, leL, leLs, leBs, overT, anys, inTs, inT, inCs, inC, inLs, inL, inBs, hOf, undefT]⟩) ?_
    intro k hk
    simp only [overT, anys, ↓askG_tt, ↓askG_ff, ↓askG_tf, ↓askG_ft, ↓AOp, ↓aBin, ↓aUn, ↓aConv, ↓aAlloc, ↓aBox, ↓aBuild, ↓aLoad, ↓aStore, ↓aNil, ↓aFieldAddr, ↓aField, ↓aExtract, ↓aIndexAddr, ↓aIndex, ↓aSlice, ↓aMake, ↓aBuildSlice, ↓aFrz, ↓aLen, ↓aAppend, ↓aCopy, Nat.reduceAdd, Nat.reduceSub, Nat.reduceMul, Nat.reduceLT, Nat.reduceLeDiff, Nat.reduceEqDiff, Int.reduceToNat, Int.reduceBEq, Int.reduceBNe, Int.reduceEq, Int.reduceNe, Int.reduceNeg, Int.reduceLE, Int.reduceLT, reduceIte, reduceCtorEq, go_sem, uC_own, uC_ids, uC_shift, uC_frz, Nat.add_sub_cancel, Nat.add_one_sub_one, Nat.sub_zero, uC_length, Nat.mul_one]
    have hl := schB_len b k
    by_cases hlt : k < 48
    · have g0 : decide (((16 + k : Nat) : Int) < 64) = true := by simp; omega
      have e1 : IntKind.i64.wrap (((16 + k : Nat) : Int) - 16) = ((16 + k - 16 : Nat) : Int) := by rw [wrap_i64 _ (by omega)]; omega
      have e2 : IntKind.i64.wrap (((16 + k : Nat) : Int) - 15) = ((16 + k - 15 : Nat) : Int) := by rw [wrap_i64 _ (by omega)]; omega
      have e3 : IntKind.i64.wrap (((16 + k : Nat) : Int) - 7) = ((16 + k - 7 : Nat) : Int) := by rw [wrap_i64 _ (by omega)]; omega
      have e4 : IntKind.i64.wrap (((16 + k : Nat) : Int) - 2) = ((16 + k - 2 : Nat) : Int) := by rw [wrap_i64 _ (by omega)]; omega
      have d1 := uC_drop (l := schB b k) (i := 16 + k - 16) (by omega)
      have d2 := uC_drop (l := schB b k) (i := 16 + k - 15) (by omega)
      have d3 := uC_drop (l := schB b k) (i := 16 + k - 7) (by omega)
      have d4 := uC_drop (l := schB b k) (i := 16 + k - 2) (by omega)
      have C1 := mixedLow_pc ((schB b k).getD (16 + k - 15) 0)
      have C2 := mixedHigh_pc ((schB b k).getD (16 + k - 2) 0)
      have hs := uC_set (l := schB b k) (i := 16 + k) (x := stepW (schB b k) (16 + k)) (by omega)
      have hr : addU (addU (addU ((schB b k).getD (16 + k - 16) 0) (mixL ((schB b k).getD (16 + k - 15) 0))) ((schB b k).getD (16 + k - 7) 0)) (mixH ((schB b k).getD (16 + k - 2) 0)) = stepW (schB b k) (16 + k) := rfl
      have hn : (schB b k).set (16 + k) (stepW (schB b k) (16 + k)) = schB b (k + 1) := rfl
      rw [hn] at hs
      clear hn
      have q1 : 16 + k - 16 < 64 := by omega
      have q2 : 16 + k - 15 < 64 := by omega
      have q3 : 16 + k - 7 < 64 := by omega
      have q4 : 16 + k - 2 < 64 := by omega
      generalize hj : 16 + k = j at *
      generalize j - 16 = j1 at *
      generalize j - 15 = j2 at *
      generalize j - 7 = j3 at *
      generalize j - 2 = j4 at *
      have hj1 : j < 64 := by omega
      repeat' (first
    | (with_reducible first | refine AW.seq ?_ | refine AW.block ?_ | refine AW.ret ?_ | refine AW.skip ?_ | refine AW.exit ?_)
    | ((refine AW.cond (by rfl) (fun hc => ?_) (fun hc => ?_)) <;> (try simp only [hcS] at hc) <;> (try first | contradiction | (exfalso; omega)))
    | ((refine AW.condB (by rfl) (fun hc => ?_) (fun hc => ?_)))
    | ((first | (refine aCall.pers (C1) fnOk75 ?_ ?_ ?_ ?_; (focus rfl); (focus rfl); (focus (simp [persT, persL, g0, e1, e2, e3, e4, d1, d2, d3, d4, hl, addU_def, hr]; done))) | (refine aCall.pers (C2) fnOk76 ?_ ?_ ?_ ?_; (focus rfl); (focus rfl); (focus (simp [persT, persL, g0, e1, e2, e3, e4, d1, d2, d3, d4, hl, addU_def, hr]; done))) | (with_reducible refine AW.regionK mo (by kernel_rfl) ?_; intro K hK) | (with_reducible refine aSliceO.l ?_) | (with_reducible refine aBuildO.l ?_) | (with_reducible refine aStoreO.l ?_)); simp (maxSteps := 2000000) only [↓askG_tt, ↓askG_ff, ↓askG_tf, ↓askG_ft, ↓AOp, ↓aBin, ↓aUn, ↓aConv, ↓aAlloc, ↓aBox, ↓aBuild, ↓aLoad, ↓aStore, ↓aNil, ↓aFieldAddr, ↓aField, ↓aExtract, ↓aIndexAddr, ↓aIndex, ↓aSlice, ↓aMake, ↓aBuildSlice, ↓aFrz, ↓aLen, ↓aAppend, ↓aCopy, Nat.reduceAdd, Nat.reduceSub, Nat.reduceMul, Nat.reduceLT, Nat.reduceLeDiff, Nat.reduceEqDiff, Int.reduceToNat, Int.reduceBEq, Int.reduceBNe, Int.reduceEq, Int.reduceNe, Int.reduceNeg, Int.reduceLE, Int.reduceLT, reduceIte, reduceCtorEq, go_sem, uC_own, uC_ids, uC_shift, uC_frz, Nat.add_sub_cancel, Nat.add_one_sub_one, Nat.sub_zero, uC_length, Nat.mul_one, shiftP, shiftT, shiftC, shiftL, shiftB, newIds, idsOfT, List.zipIdx_cons, List.zipIdx_nil, g0, e1, e2, e3, e4, d1, d2, d3, d4, hl, addU_def, hr])
    | (with_reducible refine hK _ ?_; clear hK K)
    | (with_reducible refine askG.mk (fun hg => ?_) (fun hg => ?_) <;> (try simp only [hcS] at hg) <;> (try first | contradiction | (exfalso; omega)))
    | ((with_reducible refine And.intro ?_ ?_); focus (first | (with_reducible show pairsOk _ _ = true; kernel_rfl) | omega | (with_reducible assumption) | kernel_rfl | (exact bytesE_len _) | (exact bytesE_allP _) | (exact rowsE_len _) | (exact rowsE_allP _) | ((simp [allP_nil, allP_cons, persL]; done)) | (simp; done) | (simp; omega)))
    | ((with_reducible first | show inBlockS _ _ _ _ | show thenS _ _ _ _); simp only [inBlockS, thenS, reduceIte, Nat.reduceEqDiff]))
      rw [hs, wrap_i64 _ (by omega)]
      exact ⟨[0, 1], k + 1, by omega, by omega, ⟨by simp, by simp [leEs_one, leP, lePs, inP, inPs, inEs, leTs, leT, leC, leCs, leL, leLs, leBs, overT, anys, inTs, inT, inCs, inC, inLs, inL, inBs, hOf, undefT]; omega, by simp [leEs_one, leP, lePs, inP, inPs, inEs, leTs, leT, leC, leCs, leL, leLs, leBs, overT, anys, inTs, inT, inCs, inC, inLs, inL, inBs, hOf, undefT]⟩⟩
    · obtain rfl : k = 48 := by omega
      have g0 : decide (((16 + 48 : Nat) : Int) < 64) = false := by decide
      have ht := uC_take_self (schB b 48)
      rw [hl] at ht
      generalize schB b 48 = ww at *
      repeat' (first
    | (with_reducible first | refine AW.seq ?_ | refine AW.block ?_ | refine AW.ret ?_ | refine AW.skip ?_ | refine AW.exit ?_)
    | ((refine AW.cond (by rfl) (fun hc => ?_) (fun hc => ?_)) <;> (try simp only [hcS] at hc) <;> (try first | contradiction | (exfalso; omega)))
    | ((refine AW.condB (by rfl) (fun hc => ?_) (fun hc => ?_)))
    | ((first | (with_reducible refine AW.regionK mo (by kernel_rfl) ?_; intro K hK) | (with_reducible refine aSliceO.l ?_) | (with_reducible refine aBuildO.l ?_) | (with_reducible refine aStoreO.l ?_)); simp (maxSteps := 2000000) only [↓askG_tt, ↓askG_ff, ↓askG_tf, ↓askG_ft, ↓AOp, ↓aBin, ↓aUn, ↓aConv, ↓aAlloc, ↓aBox, ↓aBuild, ↓aLoad, ↓aStore, ↓aNil, ↓aFieldAddr, ↓aField, ↓aExtract, ↓aIndexAddr, ↓aIndex, ↓aSlice, ↓aMake, ↓aBuildSlice, ↓aFrz, ↓aLen, ↓aAppend, ↓aCopy, Nat.reduceAdd, Nat.reduceSub, Nat.reduceMul, Nat.reduceLT, Nat.reduceLeDiff, Nat.reduceEqDiff, Int.reduceToNat, Int.reduceBEq, Int.reduceBNe, Int.reduceEq, Int.reduceNe, Int.reduceNeg, Int.reduceLE, Int.reduceLT, reduceIte, reduceCtorEq, go_sem, uC_own, uC_ids, uC_shift, uC_frz, Nat.add_sub_cancel, Nat.add_one_sub_one, Nat.sub_zero, uC_length, Nat.mul_one, shiftP, shiftT, shiftC, shiftL, shiftB, newIds, idsOfT, List.zipIdx_cons, List.zipIdx_nil, g0, hl, ht, zW_len, zW_drop])
    | (with_reducible refine hK _ ?_; clear hK K)
    | (with_reducible refine askG.mk (fun hg => ?_) (fun hg => ?_) <;> (try simp only [hcS] at hg) <;> (try first | contradiction | (exfalso; omega)))
    | ((with_reducible refine And.intro ?_ ?_); focus (first | (with_reducible show pairsOk _ _ = true; kernel_rfl) | omega | (with_reducible assumption) | kernel_rfl | (exact bytesE_len _) | (exact bytesE_allP _) | (exact rowsE_len _) | (exact rowsE_allP _) | ((simp [allP_nil, allP_cons, persL]; done)) | (simp; done) | (simp; omega)))
    | ((with_reducible first | show inBlockS _ _ _ _ | show thenS _ _ _ _); simp only [inBlockS, thenS, reduceIte, Nat.reduceEqDiff]))
      refine ⟨.agg (uC ww), [], by simp [resT, resOne, ↓askG_tt, ↓askG_ff, ↓askG_tf, ↓askG_ft, ↓AOp, ↓aBin, ↓aUn, ↓aConv, ↓aAlloc, ↓aBox, ↓aBuild, ↓aLoad, ↓aStore, ↓aNil, ↓aFieldAddr, ↓aField, ↓aExtract, ↓aIndexAddr, ↓aIndex, ↓aSlice, ↓aMake, ↓aBuildSlice, ↓aFrz, ↓aLen, ↓aAppend, ↓aCopy, Nat.reduceAdd, Nat.reduceSub, Nat.reduceMul, Nat.reduceLT, Nat.reduceLeDiff, Nat.reduceEqDiff, Int.reduceToNat, Int.reduceBEq, Int.reduceBNe, Int.reduceEq, Int.reduceNe, Int.reduceNeg, Int.reduceLE, Int.reduceLT, reduceIte, reduceCtorEq, go_sem, uC_own, uC_ids, uC_shift, uC_frz, Nat.add_sub_cancel, Nat.add_one_sub_one, Nat.sub_zero, uC_length, Nat.mul_one, ht, hl, uC_length], ⟨rfl, ?_, ?_, ?_⟩⟩ <;> simp [↓askG_tt, ↓askG_ff, ↓askG_tf, ↓askG_ft, ↓AOp, ↓aBin, ↓aUn, ↓aConv, ↓aAlloc, ↓aBox, ↓aBuild, ↓aLoad, ↓aStore, ↓aNil, ↓aFieldAddr, ↓aField, ↓aExtract, ↓aIndexAddr, ↓aIndex, ↓aSlice, ↓aMake, ↓aBuildSlice, ↓aFrz, ↓aLen, ↓aAppend, ↓aCopy, Nat.reduceAdd, Nat.reduceSub, Nat.reduceMul, Nat.reduceLT, Nat.reduceLeDiff, Nat.reduceEqDiff, Int.reduceToNat, Int.reduceBEq, Int.reduceBNe, Int.reduceEq, Int.reduceNe, Int.reduceNeg, Int.reduceLE, Int.reduceLT, reduceIte, reduceCtorEq, go_sem, uC_own, uC_ids, uC_shift, uC_frz, Nat.add_sub_cancel, Nat.add_one_sub_one, Nat.sub_zero, uC_length, Nat.mul_one, finP, finPs, viewP, viewPs, finT, finC, finCs, finL, finLs, finBs, viewOk, viewsOk, persL, inT, inC, inCs, inL, inLs, ndB, allP_nil, allP_cons, allP_append]
end Go.Proofs.YtiifcgaililllaaDoor
