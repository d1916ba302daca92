/- sha: a block by the document. -/
import Derived.Test.YtiifcgaililllaaDoorPwSc
namespace Go.Proofs.YtiifcgaililllaaDoor
set_option linter.unusedSimpArgs false
set_option linter.unusedVariables false
open Go Go.RowKit
attribute [local congr] AW_congr AOs_congr aCall_congr aCall1_congr aSem_congr aSliceO_congr aBuildO_congr aStoreO_congr
attribute [local go_sem] uC_own uC_ids uC_shift uC_frz uC_length tabK_uC rowsE_length rowsE_get Option.map_map bytesE_length bytesE_get shiftE_bytes shiftE_rows exBytesE str_beq bytesE_take_self
set_option maxRecDepth 100000
/-! ### Bytes out of numbers -/


theorem turnR_pc (x : Int) (n : Nat) (m : Int) (hm : m = (n : Int)) (h2 : n ≤ 31) : PC Tryd.prog 66 [uT x, .leaf (.sc (.int .u64 m))] [] (uT (rotU x n)) := by
  subst hm
  refine PC.of_body Tryd.func66 rfl ?_
  intro Γ _ _
  simp only [Tryd.ntmps66, List.length_cons, List.length_nil, Nat.reduceAdd, Nat.reduceSub, List.replicate_succ, List.replicate_zero, List.cons_append, List.nil_append]
  have e1 : IntKind.u64.wrap (32 - (n : Int)) = ((32 - n : Nat) : Int) := by rw [wrap_u64 _ (by omega)]; omega
  repeat' (first
    | (with_reducible first | refine AW.seq ?_ | refine AW.block ?_ | refine AW.ret ?_ | refine AW.skip ?_ | refine AW.exit ?_)
    | ((refine AW.cond (by rfl) (fun hc => ?_) (fun hc => ?_)) <;> (try simp only [hcS] at hc) <;> (try first | contradiction | (exfalso; omega)))
    | ((refine AW.condB (by rfl) (fun hc => ?_) (fun hc => ?_)))
    | ((first | (with_reducible refine AW.regionK mo (by kernel_rfl) ?_; intro K hK) | (with_reducible refine aSliceO.l ?_) | (with_reducible refine aBuildO.l ?_) | (with_reducible refine aStoreO.l ?_)); simp (maxSteps := 2000000) only [↓askG_tt, ↓askG_ff, ↓askG_tf, ↓askG_ft, ↓AOp, ↓aBin, ↓aUn, ↓aConv, ↓aAlloc, ↓aBox, ↓aBuild, ↓aLoad, ↓aStore, ↓aNil, ↓aFieldAddr, ↓aField, ↓aExtract, ↓aIndexAddr, ↓aIndex, ↓aSlice, ↓aMake, ↓aBuildSlice, ↓aFrz, ↓aLen, ↓aAppend, ↓aCopy, Nat.reduceAdd, Nat.reduceSub, Nat.reduceMul, Nat.reduceLT, Nat.reduceLeDiff, Nat.reduceEqDiff, Int.reduceToNat, Int.reduceBEq, Int.reduceBNe, Int.reduceEq, Int.reduceNe, Int.reduceNeg, Int.reduceLE, Int.reduceLT, reduceIte, reduceCtorEq, go_sem, Nat.mul_one, Nat.add_sub_cancel, Nat.add_one_sub_one, Nat.sub_zero, shiftP, shiftT, shiftC, shiftL, shiftB, newIds, idsOfT, List.zipIdx_cons, List.zipIdx_nil, e1, shlU_def, shrU_def, orU_def])
    | (with_reducible refine hK _ ?_; clear hK K)
    | (with_reducible refine askG.mk (fun hg => ?_) (fun hg => ?_) <;> (try simp only [hcS] at hg) <;> (try first | contradiction | (exfalso; omega)))
    | ((with_reducible refine And.intro ?_ ?_); focus (first | (with_reducible show pairsOk _ _ = true; kernel_rfl) | omega | (with_reducible assumption) | kernel_rfl | (exact bytesE_len _) | (exact bytesE_allP _) | (exact rowsE_len _) | (exact rowsE_allP _) | ((simp [allP_nil, allP_cons, persL]; done)) | (simp; done) | (simp; omega)))
    | ((with_reducible first | show inBlockS _ _ _ _ | show thenS _ _ _ _); simp only [inBlockS, thenS, reduceIte, Nat.reduceEqDiff]))
  refine ⟨_, [], rfl, ⟨rfl, ?_, ?_, ?_⟩⟩ <;> simp [go_sem, Nat.mul_one, Nat.add_sub_cancel, Nat.add_one_sub_one, Nat.sub_zero, finP, finPs, viewP, viewPs, finT, finC, finCs, finL, finLs, finBs, viewOk, viewsOk, persL, inT, inC, inCs, inL, inLs, ndB, allP_nil, allP_cons, allP_append]
  rfl
theorem constants_pc : PC Tryd.prog 65 [] [] (.agg (uC kL)) := by
  have hk : uC kL = [L.sc (Value.int IntKind.u32 1116352408), L.sc (Value.int IntKind.u32 1899447441), L.sc (Value.int IntKind.u32 3049323471), L.sc (Value.int IntKind.u32 3921009573), L.sc (Value.int IntKind.u32 961987163), L.sc (Value.int IntKind.u32 1508970993), L.sc (Value.int IntKind.u32 2453635748), L.sc (Value.int IntKind.u32 2870763221), L.sc (Value.int IntKind.u32 3624381080), L.sc (Value.int IntKind.u32 310598401), L.sc (Value.int IntKind.u32 607225278), L.sc (Value.int IntKind.u32 1426881987), L.sc (Value.int IntKind.u32 1925078388), L.sc (Value.int IntKind.u32 2162078206), L.sc (Value.int IntKind.u32 2614888103), L.sc (Value.int IntKind.u32 3248222580), L.sc (Value.int IntKind.u32 3835390401), L.sc (Value.int IntKind.u32 4022224774), L.sc (Value.int IntKind.u32 264347078), L.sc (Value.int IntKind.u32 604807628), L.sc (Value.int IntKind.u32 770255983), L.sc (Value.int IntKind.u32 1249150122), L.sc (Value.int IntKind.u32 1555081692), L.sc (Value.int IntKind.u32 1996064986), L.sc (Value.int IntKind.u32 2554220882), L.sc (Value.int IntKind.u32 2821834349), L.sc (Value.int IntKind.u32 2952996808), L.sc (Value.int IntKind.u32 3210313671), L.sc (Value.int IntKind.u32 3336571891), L.sc (Value.int IntKind.u32 3584528711), L.sc (Value.int IntKind.u32 113926993), L.sc (Value.int IntKind.u32 338241895), L.sc (Value.int IntKind.u32 666307205), L.sc (Value.int IntKind.u32 773529912), L.sc (Value.int IntKind.u32 1294757372), L.sc (Value.int IntKind.u32 1396182291), L.sc (Value.int IntKind.u32 1695183700), L.sc (Value.int IntKind.u32 1986661051), L.sc (Value.int IntKind.u32 2177026350), L.sc (Value.int IntKind.u32 2456956037), L.sc (Value.int IntKind.u32 2730485921), L.sc (Value.int IntKind.u32 2820302411), L.sc (Value.int IntKind.u32 3259730800), L.sc (Value.int IntKind.u32 3345764771), L.sc (Value.int IntKind.u32 3516065817), L.sc (Value.int IntKind.u32 3600352804), L.sc (Value.int IntKind.u32 4094571909), L.sc (Value.int IntKind.u32 275423344), L.sc (Value.int IntKind.u32 430227734), L.sc (Value.int IntKind.u32 506948616), L.sc (Value.int IntKind.u32 659060556), L.sc (Value.int IntKind.u32 883997877), L.sc (Value.int IntKind.u32 958139571), L.sc (Value.int IntKind.u32 1322822218), L.sc (Value.int IntKind.u32 1537002063), L.sc (Value.int IntKind.u32 1747873779), L.sc (Value.int IntKind.u32 1955562222), L.sc (Value.int IntKind.u32 2024104815), L.sc (Value.int IntKind.u32 2227730452), L.sc (Value.int IntKind.u32 2361852424), L.sc (Value.int IntKind.u32 2428436474), L.sc (Value.int IntKind.u32 2756734187), L.sc (Value.int IntKind.u32 3204031479), L.sc (Value.int IntKind.u32 3329325298)] := rfl
  rw [hk]
  refine PC.of_body Tryd.func65 rfl ?_
  intro Γ _ _
  simp only [Tryd.ntmps65, List.length_cons, List.length_nil, Nat.reduceAdd, Nat.reduceSub, List.replicate_succ, List.replicate_zero, List.cons_append, List.nil_append]
  repeat' (first
    | (with_reducible first | refine AW.seq ?_ | refine AW.block ?_ | refine AW.ret ?_ | refine AW.skip ?_ | refine AW.exit ?_)
    | ((refine AW.cond (by rfl) (fun hc => ?_) (fun hc => ?_)) <;> (try simp only [hcS] at hc) <;> (try first | contradiction | (exfalso; omega)))
    | ((refine AW.condB (by rfl) (fun hc => ?_) (fun hc => ?_)))
    | ((first | (with_reducible refine AW.regionK mo (by kernel_rfl) ?_; intro K hK) | (with_reducible refine aSliceO.l ?_) | (with_reducible refine aBuildO.l ?_) | (with_reducible refine aStoreO.l ?_)); simp (maxSteps := 2000000) only [↓askG_tt, ↓askG_ff, ↓askG_tf, ↓askG_ft, ↓AOp, ↓aBin, ↓aUn, ↓aConv, ↓aAlloc, ↓aBox, ↓aBuild, ↓aLoad, ↓aStore, ↓aNil, ↓aFieldAddr, ↓aField, ↓aExtract, ↓aIndexAddr, ↓aIndex, ↓aSlice, ↓aMake, ↓aBuildSlice, ↓aFrz, ↓aLen, ↓aAppend, ↓aCopy, Nat.reduceAdd, Nat.reduceSub, Nat.reduceMul, Nat.reduceLT, Nat.reduceLeDiff, Nat.reduceEqDiff, Int.reduceToNat, Int.reduceBEq, Int.reduceBNe, Int.reduceEq, Int.reduceNe, Int.reduceNeg, Int.reduceLE, Int.reduceLT, reduceIte, reduceCtorEq, go_sem, Nat.mul_one, Nat.add_sub_cancel, Nat.add_one_sub_one, Nat.sub_zero, shiftP, shiftT, shiftC, shiftL, shiftB, newIds, idsOfT, List.zipIdx_cons, List.zipIdx_nil])
    | (with_reducible refine hK _ ?_; clear hK K)
    | (with_reducible refine askG.mk (fun hg => ?_) (fun hg => ?_) <;> (try simp only [hcS] at hg) <;> (try first | contradiction | (exfalso; omega)))
    | ((with_reducible refine And.intro ?_ ?_); focus (first | (with_reducible show pairsOk _ _ = true; kernel_rfl) | omega | (with_reducible assumption) | kernel_rfl | (exact bytesE_len _) | (exact bytesE_allP _) | (exact rowsE_len _) | (exact rowsE_allP _) | ((simp [allP_nil, allP_cons, persL]; done)) | (simp; done) | (simp; omega)))
    | ((with_reducible first | show inBlockS _ _ _ _ | show thenS _ _ _ _); simp only [inBlockS, thenS, reduceIte, Nat.reduceEqDiff]))
  refine ⟨_, [], rfl, ⟨rfl, ?_, ?_, ?_⟩⟩ <;> simp [go_sem, Nat.mul_one, Nat.add_sub_cancel, Nat.add_one_sub_one, Nat.sub_zero, finP, finPs, viewP, viewPs, finT, finC, finCs, finL, finLs, finBs, viewOk, viewsOk, persL, inT, inC, inCs, inL, inLs, ndB, allP_nil, allP_cons, allP_append]

theorem zeroW56 : L.sc (Value.int IntKind.u32 0) :: L.sc (Value.int IntKind.u32 0) :: L.sc (Value.int IntKind.u32 0) :: L.sc (Value.int IntKind.u32 0) :: L.sc (Value.int IntKind.u32 0) :: L.sc (Value.int IntKind.u32 0) :: L.sc (Value.int IntKind.u32 0) :: L.sc (Value.int IntKind.u32 0) :: L.sc (Value.int IntKind.u32 0) :: L.sc (Value.int IntKind.u32 0) :: L.sc (Value.int IntKind.u32 0) :: L.sc (Value.int IntKind.u32 0) :: L.sc (Value.int IntKind.u32 0) :: L.sc (Value.int IntKind.u32 0) :: L.sc (Value.int IntKind.u32 0) :: L.sc (Value.int IntKind.u32 0) :: L.sc (Value.int IntKind.u32 0) :: L.sc (Value.int IntKind.u32 0) :: L.sc (Value.int IntKind.u32 0) :: L.sc (Value.int IntKind.u32 0) :: L.sc (Value.int IntKind.u32 0) :: L.sc (Value.int IntKind.u32 0) :: L.sc (Value.int IntKind.u32 0) :: L.sc (Value.int IntKind.u32 0) :: L.sc (Value.int IntKind.u32 0) :: L.sc (Value.int IntKind.u32 0) :: L.sc (Value.int IntKind.u32 0) :: L.sc (Value.int IntKind.u32 0) :: L.sc (Value.int IntKind.u32 0) :: L.sc (Value.int IntKind.u32 0) :: L.sc (Value.int IntKind.u32 0) :: L.sc (Value.int IntKind.u32 0) :: L.sc (Value.int IntKind.u32 0) :: L.sc (Value.int IntKind.u32 0) :: L.sc (Value.int IntKind.u32 0) :: L.sc (Value.int IntKind.u32 0) :: L.sc (Value.int IntKind.u32 0) :: L.sc (Value.int IntKind.u32 0) :: L.sc (Value.int IntKind.u32 0) :: L.sc (Value.int IntKind.u32 0) :: L.sc (Value.int IntKind.u32 0) :: L.sc (Value.int IntKind.u32 0) :: L.sc (Value.int IntKind.u32 0) :: L.sc (Value.int IntKind.u32 0) :: L.sc (Value.int IntKind.u32 0) :: L.sc (Value.int IntKind.u32 0) :: L.sc (Value.int IntKind.u32 0) :: L.sc (Value.int IntKind.u32 0) :: L.sc (Value.int IntKind.u32 0) :: L.sc (Value.int IntKind.u32 0) :: L.sc (Value.int IntKind.u32 0) :: L.sc (Value.int IntKind.u32 0) :: L.sc (Value.int IntKind.u32 0) :: L.sc (Value.int IntKind.u32 0) :: L.sc (Value.int IntKind.u32 0) :: L.sc (Value.int IntKind.u32 0) :: uC z8 = uC zW := rfl
theorem byte_get {b : List UInt8} {k : Nat} (h : k < b.length) : b[k]? = some (b.getD k 0) := by simp [List.getD_eq_getElem?_getD, h]
theorem notU_x (a : Int) : xorU (if IntKind.u32.signed = true then -1 else IntKind.u32.max) a = notU a := rfl
theorem rdU_def (x y z u : UInt8) : orU (orU (orU (shlU (x.toNat : Int) 24) (shlU (y.toNat : Int) 16)) (shlU (z.toNat : Int) 8)) (u.toNat : Int) = rdU x y z u := rfl
set_option maxHeartbeats 4000000 in
theorem refBlock_pc (h : List Int) (b : List UInt8) (hh : h.length = 8) (hb : b.length = 64) : PC Tryd.prog 56 [.agg (uC h), bytesT b] [] (.tup [.agg (uC (blockS h b)), intT 0]) := by
  have C0 := constants_pc
  unfold blockS
  refine PC.of_body Tryd.func56 rfl ?_
  intro Γ _ _
  simp only [Tryd.ntmps56, List.length_cons, List.length_nil, Nat.reduceAdd, Nat.reduceSub, List.replicate_succ, List.replicate_zero, List.cons_append, List.nil_append]
  have g00 : (((b.length : Nat) : Int) != 64) = false := by simp [hb]
  have t8 := uC_take_self h
  rw [hh] at t8
  have d8 : List.drop 8 (uC h) = [] := List.drop_of_length_le (by simp [uC_length, hh])
  have zd : List.drop 64 (uC kL) = [] := List.drop_of_length_le (by simp [uC_length, kL_len])
  repeat' (first
    | (with_reducible first | refine AW.seq ?_ | refine AW.block ?_ | refine AW.ret ?_ | refine AW.skip ?_ | refine AW.exit ?_)
    | ((refine AW.cond (by rfl) (fun hc => ?_) (fun hc => ?_)) <;> (try simp only [hcS] at hc) <;> (try first | contradiction | (exfalso; omega)))
    | ((refine AW.condB (by rfl) (fun hc => ?_) (fun hc => ?_)))
    | ((first | (refine aCall.pers (C0) fnOk65 ?_ ?_ ?_ ?_; (focus rfl); (focus rfl); (focus (simp [persT, persL, g00, hh, t8, d8, zeroW8, zeroW64, zeroW56, z8_len, z8_drop, zW_len, zW_drop, kL_len, zd]; done))) | (with_reducible refine AW.regionK mo (by kernel_rfl) ?_; intro K hK) | (with_reducible refine aSliceO.l ?_) | (with_reducible refine aBuildO.l ?_) | (with_reducible refine aStoreO.l ?_)); simp (maxSteps := 2000000) only [↓askG_tt, ↓askG_ff, ↓askG_tf, ↓askG_ft, ↓AOp, ↓aBin, ↓aUn, ↓aConv, ↓aAlloc, ↓aBox, ↓aBuild, ↓aLoad, ↓aStore, ↓aNil, ↓aFieldAddr, ↓aField, ↓aExtract, ↓aIndexAddr, ↓aIndex, ↓aSlice, ↓aMake, ↓aBuildSlice, ↓aFrz, ↓aLen, ↓aAppend, ↓aCopy, Nat.reduceAdd, Nat.reduceSub, Nat.reduceMul, Nat.reduceLT, Nat.reduceLeDiff, Nat.reduceEqDiff, Int.reduceToNat, Int.reduceBEq, Int.reduceBNe, Int.reduceEq, Int.reduceNe, Int.reduceNeg, Int.reduceLE, Int.reduceLT, reduceIte, reduceCtorEq, go_sem, Nat.mul_one, Nat.add_sub_cancel, Nat.add_one_sub_one, Nat.sub_zero, shiftP, shiftT, shiftC, shiftL, shiftB, newIds, idsOfT, List.zipIdx_cons, List.zipIdx_nil, g00, hh, t8, d8, zeroW8, zeroW64, zeroW56, z8_len, z8_drop, zW_len, zW_drop, kL_len, zd])
    | (with_reducible refine hK _ ?_; clear hK K)
    | (with_reducible refine askG.mk (fun hg => ?_) (fun hg => ?_) <;> (try simp only [hcS] at hg) <;> (try first | contradiction | (exfalso; omega)))
    | ((with_reducible refine And.intro ?_ ?_); focus (first | (with_reducible show pairsOk _ _ = true; kernel_rfl) | omega | (with_reducible assumption) | kernel_rfl | (exact bytesE_len _) | (exact bytesE_allP _) | (exact rowsE_len _) | (exact rowsE_allP _) | ((simp [allP_nil, allP_cons, persL]; done)) | (simp; done) | (simp; omega)))
    | ((with_reducible first | show inBlockS _ _ _ _ | show thenS _ _ _ _); simp only [inBlockS, thenS, reduceIte, Nat.reduceEqDiff]))
  refine AW.loopG (fun i : Nat => (29, intT i) :: (anys 8 1 (anys 30 38 []))) (fun i => [some ⟨69, 8, [uC h]⟩, some ⟨69, 8, [uC z8]⟩, some ⟨80, 64, [uC kL]⟩, some ⟨80, 64, [uC (schA b i)]⟩]) (fun i => 16 - i) (fun i => i ≤ 16) 0 [0, 1, 2, 3] (by omega) ⟨by simp, by simp [leEs_one, leP, lePs, inP, inPs, inEs, leTs, leT, leC, leCs, leL, leLs, leBs, overT, anys, inTs, inT, inCs, inC, inLs, inL, inBs, hOf, undefT], by simp [leEs_one, leP, lePs, inP, inPs, inEs, leTs, leT, leC, leCs, leL, leLs, leBs, overT, anys, inTs, inT, inCs, inC, inLs, inL, inBs, hOf, undefT, schA_zero, zeroW64]⟩ (fun i _ => ⟨by simp [leEs_one, leP, lePs, inP, inPs, inEs, leTs, leT, leC, leCs, leL, leLs, leBs, overT, anys, inTs, inT, inCs, inC, inLs, inL, inBs, hOf, undefT], by simp [leEs_one, leP, lePs, inP, inPs, inEs, leTs, leT, leC, leCs, leL, leLs, leBs, overT, anys, inTs, inT, inCs, inC, inLs, inL, inBs, hOf, undefT]⟩) ?_
  intro i hi
  simp only [overT, anys, ↓askG_tt, ↓askG_ff, ↓askG_tf, ↓askG_ft, ↓AOp, ↓aBin, ↓aUn, ↓aConv, ↓aAlloc, ↓aBox, ↓aBuild, ↓aLoad, ↓aStore, ↓aNil, ↓aFieldAddr, ↓aField, ↓aExtract, ↓aIndexAddr, ↓aIndex, ↓aSlice, ↓aMake, ↓aBuildSlice, ↓aFrz, ↓aLen, ↓aAppend, ↓aCopy, Nat.reduceAdd, Nat.reduceSub, Nat.reduceMul, Nat.reduceLT, Nat.reduceLeDiff, Nat.reduceEqDiff, Int.reduceToNat, Int.reduceBEq, Int.reduceBNe, Int.reduceEq, Int.reduceNe, Int.reduceNeg, Int.reduceLE, Int.reduceLT, reduceIte, reduceCtorEq, go_sem, Nat.mul_one, Nat.add_sub_cancel, Nat.add_one_sub_one, Nat.sub_zero]
  have hl := schA_len b i (by omega)
  by_cases hlt : i < 16
  · have g0 : decide ((i : Int) < 16) = true := by simp; omega
    have e1 : IntKind.i64.wrap (4 * (i : Int)) = ((4 * i : Nat) : Int) := by rw [wrap_i64 _ (by omega)]; omega
    have e2 : IntKind.i64.wrap (((4 * i : Nat) : Int) + 1) = ((4 * i + 1 : Nat) : Int) := by rw [wrap_i64 _ (by omega)]; omega
    have e3 : IntKind.i64.wrap (((4 * i : Nat) : Int) + 2) = ((4 * i + 2 : Nat) : Int) := by rw [wrap_i64 _ (by omega)]; omega
    have e4 : IntKind.i64.wrap (((4 * i : Nat) : Int) + 3) = ((4 * i + 3 : Nat) : Int) := by rw [wrap_i64 _ (by omega)]; omega
    have b0 := byte_get (b := b) (k := 4 * i) (by omega)
    have b1 := byte_get (b := b) (k := 4 * i + 1) (by omega)
    have b2 := byte_get (b := b) (k := 4 * i + 2) (by omega)
    have b3 := byte_get (b := b) (k := 4 * i + 3) (by omega)
    have hs := uC_set (l := schA b i) (i := i) (x := rd4 b i) (by omega)
    rw [schA_next b i (by omega)] at hs
    have hr : rdU (b.getD (4 * i) 0) (b.getD (4 * i + 1) 0) (b.getD (4 * i + 2) 0) (b.getD (4 * i + 3) 0) = rd4 b i := rfl
    repeat' (first
    | (with_reducible first | refine AW.seq ?_ | refine AW.block ?_ | refine AW.ret ?_ | refine AW.skip ?_ | refine AW.exit ?_)
    | ((refine AW.cond (by rfl) (fun hc => ?_) (fun hc => ?_)) <;> (try simp only [hcS] at hc) <;> (try first | contradiction | (exfalso; omega)))
    | ((refine AW.condB (by rfl) (fun hc => ?_) (fun hc => ?_)))
    | ((first | (with_reducible refine AW.regionK mo (by kernel_rfl) ?_; intro K hK) | (with_reducible refine aSliceO.l ?_) | (with_reducible refine aBuildO.l ?_) | (with_reducible refine aStoreO.l ?_)); simp (maxSteps := 2000000) only [↓askG_tt, ↓askG_ff, ↓askG_tf, ↓askG_ft, ↓AOp, ↓aBin, ↓aUn, ↓aConv, ↓aAlloc, ↓aBox, ↓aBuild, ↓aLoad, ↓aStore, ↓aNil, ↓aFieldAddr, ↓aField, ↓aExtract, ↓aIndexAddr, ↓aIndex, ↓aSlice, ↓aMake, ↓aBuildSlice, ↓aFrz, ↓aLen, ↓aAppend, ↓aCopy, Nat.reduceAdd, Nat.reduceSub, Nat.reduceMul, Nat.reduceLT, Nat.reduceLeDiff, Nat.reduceEqDiff, Int.reduceToNat, Int.reduceBEq, Int.reduceBNe, Int.reduceEq, Int.reduceNe, Int.reduceNeg, Int.reduceLE, Int.reduceLT, reduceIte, reduceCtorEq, go_sem, Nat.mul_one, Nat.add_sub_cancel, Nat.add_one_sub_one, Nat.sub_zero, shiftP, shiftT, shiftC, shiftL, shiftB, newIds, idsOfT, List.zipIdx_cons, List.zipIdx_nil, g0, e1, e2, e3, e4, b0, b1, b2, b3, hb, hl, byV, w32_byte, shlU_def, orU_def, rdU_def, hr])
    | (with_reducible refine hK _ ?_; clear hK K)
    | (with_reducible refine askG.mk (fun hg => ?_) (fun hg => ?_) <;> (try simp only [hcS] at hg) <;> (try first | contradiction | (exfalso; omega)))
    | ((with_reducible refine And.intro ?_ ?_); focus (first | (with_reducible show pairsOk _ _ = true; kernel_rfl) | omega | (with_reducible assumption) | kernel_rfl | (exact bytesE_len _) | (exact bytesE_allP _) | (exact rowsE_len _) | (exact rowsE_allP _) | ((simp [allP_nil, allP_cons, persL]; done)) | (simp; done) | (simp; omega)))
    | ((with_reducible first | show inBlockS _ _ _ _ | show thenS _ _ _ _); simp only [inBlockS, thenS, reduceIte, Nat.reduceEqDiff]))
    rw [hs, wrap_i64 _ (by omega)]
    exact ⟨[0, 1, 2, 3], i + 1, by omega, by omega, ⟨by simp, by simp [leEs_one, leP, lePs, inP, inPs, inEs, leTs, leT, leC, leCs, leL, leLs, leBs, overT, anys, inTs, inT, inCs, inC, inLs, inL, inBs, hOf, undefT, hb], by simp [leEs_one, leP, lePs, inP, inPs, inEs, leTs, leT, leC, leCs, leL, leLs, leBs, overT, anys, inTs, inT, inCs, inC, inLs, inL, inBs, hOf, undefT]⟩⟩
  · obtain rfl : i = 16 := by omega
    have g0 : decide (((16 : Nat) : Int) < 16) = false := by decide
    clear hlt hi hl
    have hz : schA b 16 = schB b 0 := rfl
    rw [hz]
    clear hz
    repeat' (first
    | (with_reducible first | refine AW.seq ?_ | refine AW.block ?_ | refine AW.ret ?_ | refine AW.skip ?_ | refine AW.exit ?_)
    | ((refine AW.cond (by rfl) (fun hc => ?_) (fun hc => ?_)) <;> (try simp only [hcS] at hc) <;> (try first | contradiction | (exfalso; omega)))
    | ((refine AW.condB (by rfl) (fun hc => ?_) (fun hc => ?_)))
    | ((first | (with_reducible refine AW.regionK mo (by kernel_rfl) ?_; intro K hK) | (with_reducible refine aSliceO.l ?_) | (with_reducible refine aBuildO.l ?_) | (with_reducible refine aStoreO.l ?_)); simp (maxSteps := 2000000) only [↓askG_tt, ↓askG_ff, ↓askG_tf, ↓askG_ft, ↓AOp, ↓aBin, ↓aUn, ↓aConv, ↓aAlloc, ↓aBox, ↓aBuild, ↓aLoad, ↓aStore, ↓aNil, ↓aFieldAddr, ↓aField, ↓aExtract, ↓aIndexAddr, ↓aIndex, ↓aSlice, ↓aMake, ↓aBuildSlice, ↓aFrz, ↓aLen, ↓aAppend, ↓aCopy, Nat.reduceAdd, Nat.reduceSub, Nat.reduceMul, Nat.reduceLT, Nat.reduceLeDiff, Nat.reduceEqDiff, Int.reduceToNat, Int.reduceBEq, Int.reduceBNe, Int.reduceEq, Int.reduceNe, Int.reduceNeg, Int.reduceLE, Int.reduceLT, reduceIte, reduceCtorEq, go_sem, Nat.mul_one, Nat.add_sub_cancel, Nat.add_one_sub_one, Nat.sub_zero, shiftP, shiftT, shiftC, shiftL, shiftB, newIds, idsOfT, List.zipIdx_cons, List.zipIdx_nil, g0])
    | (with_reducible refine hK _ ?_; clear hK K)
    | (with_reducible refine askG.mk (fun hg => ?_) (fun hg => ?_) <;> (try simp only [hcS] at hg) <;> (try first | contradiction | (exfalso; omega)))
    | ((with_reducible refine And.intro ?_ ?_); focus (first | (with_reducible show pairsOk _ _ = true; kernel_rfl) | omega | (with_reducible assumption) | kernel_rfl | (exact bytesE_len _) | (exact bytesE_allP _) | (exact rowsE_len _) | (exact rowsE_allP _) | ((simp [allP_nil, allP_cons, persL]; done)) | (simp; done) | (simp; omega)))
    | ((with_reducible first | show inBlockS _ _ _ _ | show thenS _ _ _ _); simp only [inBlockS, thenS, reduceIte, Nat.reduceEqDiff]))
    refine AW.loopG (fun k : Nat => (9, intT ((16 + k : Nat) : Int)) :: (anys 10 2 (anys 68 53 []))) (fun k => [some ⟨69, 8, [uC h]⟩, some ⟨69, 8, [uC z8]⟩, some ⟨80, 64, [uC kL]⟩, some ⟨80, 64, [uC (schB b k)]⟩]) (fun k => 48 - k) (fun k => k ≤ 48) 0 [0, 1, 2, 3] (by omega) ⟨by simp, by simp [leEs_one, leP, lePs, inP, inPs, inEs, leTs, leT, leC, leCs, leL, leLs, leBs, overT, anys, inTs, inT, inCs, inC, inLs, inL, inBs, hOf, undefT], by simp [leEs_one, leP, lePs, inP, inPs, inEs, leTs, leT, leC, leCs, leL, leLs, leBs, overT, anys, inTs, inT, inCs, inC, inLs, inL, inBs, hOf, undefT]⟩ (fun k _ => ⟨by simp [leEs_one, leP, lePs, inP, inPs, inEs, leTs, leT, leC, leCs, leL, leLs, leBs, overT, anys, inTs, inT, inCs, inC, inLs, inL, inBs, hOf, undefT], by simp [leEs_one, leP, lePs, inP, inPs, inEs, leTs, leT, leC, leCs, leL, leLs, leBs, overT, anys, inTs, inT, inCs, inC, inLs, inL, inBs, hOf, undefT]⟩) ?_
    intro k hk
    simp only [overT, anys, ↓askG_tt, ↓askG_ff, ↓askG_tf, ↓askG_ft, ↓AOp, ↓aBin, ↓aUn, ↓aConv, ↓aAlloc, ↓aBox, ↓aBuild, ↓aLoad, ↓aStore, ↓aNil, ↓aFieldAddr, ↓aField, ↓aExtract, ↓aIndexAddr, ↓aIndex, ↓aSlice, ↓aMake, ↓aBuildSlice, ↓aFrz, ↓aLen, ↓aAppend, ↓aCopy, Nat.reduceAdd, Nat.reduceSub, Nat.reduceMul, Nat.reduceLT, Nat.reduceLeDiff, Nat.reduceEqDiff, Int.reduceToNat, Int.reduceBEq, Int.reduceBNe, Int.reduceEq, Int.reduceNe, Int.reduceNeg, Int.reduceLE, Int.reduceLT, reduceIte, reduceCtorEq, go_sem, Nat.mul_one, Nat.add_sub_cancel, Nat.add_one_sub_one, Nat.sub_zero]
    have hl := schB_len b k
    by_cases hlt : k < 48
    · have g0 : decide (((16 + k : Nat) : Int) < 64) = true := by simp; omega
      have e1 : IntKind.i64.wrap (((16 + k : Nat) : Int) - 16) = ((16 + k - 16 : Nat) : Int) := by rw [wrap_i64 _ (by omega)]; omega
      have e2 : IntKind.i64.wrap (((16 + k : Nat) : Int) - 15) = ((16 + k - 15 : Nat) : Int) := by rw [wrap_i64 _ (by omega)]; omega
      have e3 : IntKind.i64.wrap (((16 + k : Nat) : Int) - 7) = ((16 + k - 7 : Nat) : Int) := by rw [wrap_i64 _ (by omega)]; omega
      have e4 : IntKind.i64.wrap (((16 + k : Nat) : Int) - 2) = ((16 + k - 2 : Nat) : Int) := by rw [wrap_i64 _ (by omega)]; omega
      have d1 := uC_drop (l := schB b k) (i := 16 + k - 16) (by omega)
      have d2 := uC_drop (l := schB b k) (i := 16 + k - 15) (by omega)
      have d3 := uC_drop (l := schB b k) (i := 16 + k - 7) (by omega)
      have d4 := uC_drop (l := schB b k) (i := 16 + k - 2) (by omega)
      have hs := uC_set (l := schB b k) (i := 16 + k) (x := stepW (schB b k) (16 + k)) (by omega)
      have hr : stepW (schB b k) (16 + k) = addU (addU (addU ((schB b k).getD (16 + k - 16) 0) (mixL ((schB b k).getD (16 + k - 15) 0))) ((schB b k).getD (16 + k - 7) 0)) (mixH ((schB b k).getD (16 + k - 2) 0)) := rfl
      have hn : (schB b k).set (16 + k) (stepW (schB b k) (16 + k)) = schB b (k + 1) := rfl
      rw [hn] at hs
      clear hn
      unfold mixL mixH at hr
      rw [hr] at hs
      clear hr
      have q1 : 16 + k - 16 < 64 := by omega
      have q2 : 16 + k - 15 < 64 := by omega
      have q3 : 16 + k - 7 < 64 := by omega
      have q4 : 16 + k - 2 < 64 := by omega
      generalize hj : 16 + k = j at *
      generalize j - 16 = j1 at *
      generalize j - 15 = j2 at *
      generalize j - 7 = j3 at *
      generalize j - 2 = j4 at *
      have hj1 : j < 64 := by omega
      generalize (schB b k).getD j1 0 = y1 at *
      generalize (schB b k).getD j2 0 = y2 at *
      generalize (schB b k).getD j3 0 = y3 at *
      generalize (schB b k).getD j4 0 = y4 at *
      have C1 := turnR_pc y2 7 7 rfl (by decide)
      have C2 := turnR_pc y2 18 18 rfl (by decide)
      have C3 := turnR_pc y4 17 17 rfl (by decide)
      have C4 := turnR_pc y4 19 19 rfl (by decide)
      repeat' (first
    | (with_reducible first | refine AW.seq ?_ | refine AW.block ?_ | refine AW.ret ?_ | refine AW.skip ?_ | refine AW.exit ?_)
    | ((refine AW.cond (by rfl) (fun hc => ?_) (fun hc => ?_)) <;> (try simp only [hcS] at hc) <;> (try first | contradiction | (exfalso; omega)))
    | ((refine AW.condB (by rfl) (fun hc => ?_) (fun hc => ?_)))
    | ((first | (refine aCall.pers (C1) fnOk66 ?_ ?_ ?_ ?_; (focus rfl); (focus rfl); (focus (simp [persT, persL, g0, e1, e2, e3, e4, d1, d2, d3, d4, hl, addU_def, xorU_def, shrU_def]; done))) | (refine aCall.pers (C2) fnOk66 ?_ ?_ ?_ ?_; (focus rfl); (focus rfl); (focus (simp [persT, persL, g0, e1, e2, e3, e4, d1, d2, d3, d4, hl, addU_def, xorU_def, shrU_def]; done))) | (refine aCall.pers (C3) fnOk66 ?_ ?_ ?_ ?_; (focus rfl); (focus rfl); (focus (simp [persT, persL, g0, e1, e2, e3, e4, d1, d2, d3, d4, hl, addU_def, xorU_def, shrU_def]; done))) | (refine aCall.pers (C4) fnOk66 ?_ ?_ ?_ ?_; (focus rfl); (focus rfl); (focus (simp [persT, persL, g0, e1, e2, e3, e4, d1, d2, d3, d4, hl, addU_def, xorU_def, shrU_def]; done))) | (with_reducible refine AW.regionK mo (by kernel_rfl) ?_; intro K hK) | (with_reducible refine aSliceO.l ?_) | (with_reducible refine aBuildO.l ?_) | (with_reducible refine aStoreO.l ?_)); simp (maxSteps := 2000000) only [↓askG_tt, ↓askG_ff, ↓askG_tf, ↓askG_ft, ↓AOp, ↓aBin, ↓aUn, ↓aConv, ↓aAlloc, ↓aBox, ↓aBuild, ↓aLoad, ↓aStore, ↓aNil, ↓aFieldAddr, ↓aField, ↓aExtract, ↓aIndexAddr, ↓aIndex, ↓aSlice, ↓aMake, ↓aBuildSlice, ↓aFrz, ↓aLen, ↓aAppend, ↓aCopy, Nat.reduceAdd, Nat.reduceSub, Nat.reduceMul, Nat.reduceLT, Nat.reduceLeDiff, Nat.reduceEqDiff, Int.reduceToNat, Int.reduceBEq, Int.reduceBNe, Int.reduceEq, Int.reduceNe, Int.reduceNeg, Int.reduceLE, Int.reduceLT, reduceIte, reduceCtorEq, go_sem, Nat.mul_one, Nat.add_sub_cancel, Nat.add_one_sub_one, Nat.sub_zero, shiftP, shiftT, shiftC, shiftL, shiftB, newIds, idsOfT, List.zipIdx_cons, List.zipIdx_nil, g0, e1, e2, e3, e4, d1, d2, d3, d4, hl, addU_def, xorU_def, shrU_def])
    | (with_reducible refine hK _ ?_; clear hK K)
    | (with_reducible refine askG.mk (fun hg => ?_) (fun hg => ?_) <;> (try simp only [hcS] at hg) <;> (try first | contradiction | (exfalso; omega)))
    | ((with_reducible refine And.intro ?_ ?_); focus (first | (with_reducible show pairsOk _ _ = true; kernel_rfl) | omega | (with_reducible assumption) | kernel_rfl | (exact bytesE_len _) | (exact bytesE_allP _) | (exact rowsE_len _) | (exact rowsE_allP _) | ((simp [allP_nil, allP_cons, persL]; done)) | (simp; done) | (simp; omega)))
    | ((with_reducible first | show inBlockS _ _ _ _ | show thenS _ _ _ _); simp only [inBlockS, thenS, reduceIte, Nat.reduceEqDiff]))
      rw [hs, wrap_i64 _ (by omega)]
      exact ⟨[0, 1, 2, 3], k + 1, by omega, by omega, ⟨by simp, by simp [leEs_one, leP, lePs, inP, inPs, inEs, leTs, leT, leC, leCs, leL, leLs, leBs, overT, anys, inTs, inT, inCs, inC, inLs, inL, inBs, hOf, undefT]; omega, by simp [leEs_one, leP, lePs, inP, inPs, inEs, leTs, leT, leC, leCs, leL, leLs, leBs, overT, anys, inTs, inT, inCs, inC, inLs, inL, inBs, hOf, undefT]⟩⟩
    · obtain rfl : k = 48 := by omega
      have g0 : decide (((16 + 48 : Nat) : Int) < 64) = false := by decide
      have hwl := hl
      generalize schB b 48 = ws at *
      repeat' (first
    | (with_reducible first | refine AW.seq ?_ | refine AW.block ?_ | refine AW.ret ?_ | refine AW.skip ?_ | refine AW.exit ?_)
    | ((refine AW.cond (by rfl) (fun hc => ?_) (fun hc => ?_)) <;> (try simp only [hcS] at hc) <;> (try first | contradiction | (exfalso; omega)))
    | ((refine AW.condB (by rfl) (fun hc => ?_) (fun hc => ?_)))
    | ((first | (with_reducible refine AW.regionK mo (by kernel_rfl) ?_; intro K hK) | (with_reducible refine aSliceO.l ?_) | (with_reducible refine aBuildO.l ?_) | (with_reducible refine aStoreO.l ?_)); simp (maxSteps := 2000000) only [↓askG_tt, ↓askG_ff, ↓askG_tf, ↓askG_ft, ↓AOp, ↓aBin, ↓aUn, ↓aConv, ↓aAlloc, ↓aBox, ↓aBuild, ↓aLoad, ↓aStore, ↓aNil, ↓aFieldAddr, ↓aField, ↓aExtract, ↓aIndexAddr, ↓aIndex, ↓aSlice, ↓aMake, ↓aBuildSlice, ↓aFrz, ↓aLen, ↓aAppend, ↓aCopy, Nat.reduceAdd, Nat.reduceSub, Nat.reduceMul, Nat.reduceLT, Nat.reduceLeDiff, Nat.reduceEqDiff, Int.reduceToNat, Int.reduceBEq, Int.reduceBNe, Int.reduceEq, Int.reduceNe, Int.reduceNeg, Int.reduceLE, Int.reduceLT, reduceIte, reduceCtorEq, go_sem, Nat.mul_one, Nat.add_sub_cancel, Nat.add_one_sub_one, Nat.sub_zero, shiftP, shiftT, shiftC, shiftL, shiftB, newIds, idsOfT, List.zipIdx_cons, List.zipIdx_nil, g0, hl, hh, t8, d8])
    | (with_reducible refine hK _ ?_; clear hK K)
    | (with_reducible refine askG.mk (fun hg => ?_) (fun hg => ?_) <;> (try simp only [hcS] at hg) <;> (try first | contradiction | (exfalso; omega)))
    | ((with_reducible refine And.intro ?_ ?_); focus (first | (with_reducible show pairsOk _ _ = true; kernel_rfl) | omega | (with_reducible assumption) | kernel_rfl | (exact bytesE_len _) | (exact bytesE_allP _) | (exact rowsE_len _) | (exact rowsE_allP _) | ((simp [allP_nil, allP_cons, persL]; done)) | (simp; done) | (simp; omega)))
    | ((with_reducible first | show inBlockS _ _ _ _ | show thenS _ _ _ _); simp only [inBlockS, thenS, reduceIte, Nat.reduceEqDiff]))
      refine AW.loopG (fun n : Nat => (122, intT n) :: (anys 13 9 (anys 123 83 []))) (fun n => [some ⟨69, 8, [uC h]⟩, some ⟨69, 8, [uC z8]⟩, some ⟨80, 64, [uC kL]⟩, some ⟨80, 64, [uC ws]⟩, some ⟨69, 8, [uC (shaRun ws h n)]⟩]) (fun n => 64 - n) (fun n => n ≤ 64) 0 [0, 1, 2, 3, 4] (by omega) ⟨by simp, by simp [leEs_one, leP, lePs, inP, inPs, inEs, leTs, leT, leC, leCs, leL, leLs, leBs, overT, anys, inTs, inT, inCs, inC, inLs, inL, inBs, hOf, undefT], by simp [leEs_one, leP, lePs, inP, inPs, inEs, leTs, leT, leC, leCs, leL, leLs, leBs, overT, anys, inTs, inT, inCs, inC, inLs, inL, inBs, hOf, undefT, shaRun_zero]⟩ (fun n _ => ⟨by simp [leEs_one, leP, lePs, inP, inPs, inEs, leTs, leT, leC, leCs, leL, leLs, leBs, overT, anys, inTs, inT, inCs, inC, inLs, inL, inBs, hOf, undefT], by simp [leEs_one, leP, lePs, inP, inPs, inEs, leTs, leT, leC, leCs, leL, leLs, leBs, overT, anys, inTs, inT, inCs, inC, inLs, inL, inBs, hOf, undefT]⟩) ?_
      intro n hn
      simp only [overT, anys, ↓askG_tt, ↓askG_ff, ↓askG_tf, ↓askG_ft, ↓AOp, ↓aBin, ↓aUn, ↓aConv, ↓aAlloc, ↓aBox, ↓aBuild, ↓aLoad, ↓aStore, ↓aNil, ↓aFieldAddr, ↓aField, ↓aExtract, ↓aIndexAddr, ↓aIndex, ↓aSlice, ↓aMake, ↓aBuildSlice, ↓aFrz, ↓aLen, ↓aAppend, ↓aCopy, Nat.reduceAdd, Nat.reduceSub, Nat.reduceMul, Nat.reduceLT, Nat.reduceLeDiff, Nat.reduceEqDiff, Int.reduceToNat, Int.reduceBEq, Int.reduceBNe, Int.reduceEq, Int.reduceNe, Int.reduceNeg, Int.reduceLE, Int.reduceLT, reduceIte, reduceCtorEq, go_sem, Nat.mul_one, Nat.add_sub_cancel, Nat.add_one_sub_one, Nat.sub_zero]
      by_cases hlt : n < 64
      · have g0 : decide ((n : Int) < 64) = true := by simp; omega
        have hk := uC_drop (l := kL) (i := n) (by rw [kL_len]; exact hlt)
        have hw := uC_drop (l := ws) (i := n) (by omega)
        have hnext : shaRun ws h (n + 1) = shaStep (kL.getD n 0) (ws.getD n 0) (shaRun ws h n) := rfl
        obtain ⟨v0, v1, v2, v3, v4, v5, v6, v7, hv⟩ := len8 (shaRun_len ws hh n)
        rw [hv] at hnext ⊢
        clear hv
        generalize kL.getD n 0 = kn at *
        generalize ws.getD n 0 = wn at *
        generalize List.drop (n + 1) kL = kr at *
        have C1 := turnR_pc v4 6 6 rfl (by decide)
        have C2 := turnR_pc v4 11 11 rfl (by decide)
        have C3 := turnR_pc v4 25 25 rfl (by decide)
        have C4 := turnR_pc v0 2 2 rfl (by decide)
        have C5 := turnR_pc v0 13 13 rfl (by decide)
        have C6 := turnR_pc v0 22 22 rfl (by decide)
        repeat' (first
    | (with_reducible first | refine AW.seq ?_ | refine AW.block ?_ | refine AW.ret ?_ | refine AW.skip ?_ | refine AW.exit ?_)
    | ((refine AW.cond (by rfl) (fun hc => ?_) (fun hc => ?_)) <;> (try simp only [hcS] at hc) <;> (try first | contradiction | (exfalso; omega)))
    | ((refine AW.condB (by rfl) (fun hc => ?_) (fun hc => ?_)))
    | ((first | (refine aCall.pers (C1) fnOk66 ?_ ?_ ?_ ?_; (focus rfl); (focus rfl); (focus (simp [persT, persL, g0, hk, hw, uC8, kL_len, hwl, addU_def, xorU_def, andU_def, notU_x]; done))) | (refine aCall.pers (C2) fnOk66 ?_ ?_ ?_ ?_; (focus rfl); (focus rfl); (focus (simp [persT, persL, g0, hk, hw, uC8, kL_len, hwl, addU_def, xorU_def, andU_def, notU_x]; done))) | (refine aCall.pers (C3) fnOk66 ?_ ?_ ?_ ?_; (focus rfl); (focus rfl); (focus (simp [persT, persL, g0, hk, hw, uC8, kL_len, hwl, addU_def, xorU_def, andU_def, notU_x]; done))) | (refine aCall.pers (C4) fnOk66 ?_ ?_ ?_ ?_; (focus rfl); (focus rfl); (focus (simp [persT, persL, g0, hk, hw, uC8, kL_len, hwl, addU_def, xorU_def, andU_def, notU_x]; done))) | (refine aCall.pers (C5) fnOk66 ?_ ?_ ?_ ?_; (focus rfl); (focus rfl); (focus (simp [persT, persL, g0, hk, hw, uC8, kL_len, hwl, addU_def, xorU_def, andU_def, notU_x]; done))) | (refine aCall.pers (C6) fnOk66 ?_ ?_ ?_ ?_; (focus rfl); (focus rfl); (focus (simp [persT, persL, g0, hk, hw, uC8, kL_len, hwl, addU_def, xorU_def, andU_def, notU_x]; done))) | (with_reducible refine AW.regionK mo (by kernel_rfl) ?_; intro K hK) | (with_reducible refine aSliceO.l ?_) | (with_reducible refine aBuildO.l ?_) | (with_reducible refine aStoreO.l ?_)); simp (maxSteps := 2000000) only [↓askG_tt, ↓askG_ff, ↓askG_tf, ↓askG_ft, ↓AOp, ↓aBin, ↓aUn, ↓aConv, ↓aAlloc, ↓aBox, ↓aBuild, ↓aLoad, ↓aStore, ↓aNil, ↓aFieldAddr, ↓aField, ↓aExtract, ↓aIndexAddr, ↓aIndex, ↓aSlice, ↓aMake, ↓aBuildSlice, ↓aFrz, ↓aLen, ↓aAppend, ↓aCopy, Nat.reduceAdd, Nat.reduceSub, Nat.reduceMul, Nat.reduceLT, Nat.reduceLeDiff, Nat.reduceEqDiff, Int.reduceToNat, Int.reduceBEq, Int.reduceBNe, Int.reduceEq, Int.reduceNe, Int.reduceNeg, Int.reduceLE, Int.reduceLT, reduceIte, reduceCtorEq, go_sem, Nat.mul_one, Nat.add_sub_cancel, Nat.add_one_sub_one, Nat.sub_zero, shiftP, shiftT, shiftC, shiftL, shiftB, newIds, idsOfT, List.zipIdx_cons, List.zipIdx_nil, g0, hk, hw, uC8, kL_len, hwl, addU_def, xorU_def, andU_def, notU_x])
    | (with_reducible refine hK _ ?_; clear hK K)
    | (with_reducible refine askG.mk (fun hg => ?_) (fun hg => ?_) <;> (try simp only [hcS] at hg) <;> (try first | contradiction | (exfalso; omega)))
    | ((with_reducible refine And.intro ?_ ?_); focus (first | (with_reducible show pairsOk _ _ = true; kernel_rfl) | omega | (with_reducible assumption) | kernel_rfl | (exact bytesE_len _) | (exact bytesE_allP _) | (exact rowsE_len _) | (exact rowsE_allP _) | ((simp [allP_nil, allP_cons, persL]; done)) | (simp; done) | (simp; omega)))
    | ((with_reducible first | show inBlockS _ _ _ _ | show thenS _ _ _ _); simp only [inBlockS, thenS, reduceIte, Nat.reduceEqDiff]))
        rw [wrap_i64 _ (by omega)]
        exact ⟨[0, 1, 2, 3, 4], n + 1, by omega, by omega, ⟨by simp, by simp [leEs_one, leP, lePs, inP, inPs, inEs, leTs, leT, leC, leCs, leL, leLs, leBs, overT, anys, inTs, inT, inCs, inC, inLs, inL, inBs, hOf, undefT], by simp [leEs_one, leP, lePs, inP, inPs, inEs, leTs, leT, leC, leCs, leL, leLs, leBs, overT, anys, inTs, inT, inCs, inC, inLs, inL, inBs, hOf, undefT, hnext, shaStep, uC8, trnL, trnH, choU, majU]⟩⟩
      · obtain rfl : n = 64 := by omega
        have g0 : decide (((64 : Nat) : Int) < 64) = false := by decide
        have hv := shaRun_len ws hh 64
        generalize shaRun ws h 64 = v at *
        repeat' (first
    | (with_reducible first | refine AW.seq ?_ | refine AW.block ?_ | refine AW.ret ?_ | refine AW.skip ?_ | refine AW.exit ?_)
    | ((refine AW.cond (by rfl) (fun hc => ?_) (fun hc => ?_)) <;> (try simp only [hcS] at hc) <;> (try first | contradiction | (exfalso; omega)))
    | ((refine AW.condB (by rfl) (fun hc => ?_) (fun hc => ?_)))
    | ((first | (with_reducible refine AW.regionK mo (by kernel_rfl) ?_; intro K hK) | (with_reducible refine aSliceO.l ?_) | (with_reducible refine aBuildO.l ?_) | (with_reducible refine aStoreO.l ?_)); simp (maxSteps := 2000000) only [↓askG_tt, ↓askG_ff, ↓askG_tf, ↓askG_ft, ↓AOp, ↓aBin, ↓aUn, ↓aConv, ↓aAlloc, ↓aBox, ↓aBuild, ↓aLoad, ↓aStore, ↓aNil, ↓aFieldAddr, ↓aField, ↓aExtract, ↓aIndexAddr, ↓aIndex, ↓aSlice, ↓aMake, ↓aBuildSlice, ↓aFrz, ↓aLen, ↓aAppend, ↓aCopy, Nat.reduceAdd, Nat.reduceSub, Nat.reduceMul, Nat.reduceLT, Nat.reduceLeDiff, Nat.reduceEqDiff, Int.reduceToNat, Int.reduceBEq, Int.reduceBNe, Int.reduceEq, Int.reduceNe, Int.reduceNeg, Int.reduceLE, Int.reduceLT, reduceIte, reduceCtorEq, go_sem, Nat.mul_one, Nat.add_sub_cancel, Nat.add_one_sub_one, Nat.sub_zero, shiftP, shiftT, shiftC, shiftL, shiftB, newIds, idsOfT, List.zipIdx_cons, List.zipIdx_nil, g0])
    | (with_reducible refine hK _ ?_; clear hK K)
    | (with_reducible refine askG.mk (fun hg => ?_) (fun hg => ?_) <;> (try simp only [hcS] at hg) <;> (try first | contradiction | (exfalso; omega)))
    | ((with_reducible refine And.intro ?_ ?_); focus (first | (with_reducible show pairsOk _ _ = true; kernel_rfl) | omega | (with_reducible assumption) | kernel_rfl | (exact bytesE_len _) | (exact bytesE_allP _) | (exact rowsE_len _) | (exact rowsE_allP _) | ((simp [allP_nil, allP_cons, persL]; done)) | (simp; done) | (simp; omega)))
    | ((with_reducible first | show inBlockS _ _ _ _ | show thenS _ _ _ _); simp only [inBlockS, thenS, reduceIte, Nat.reduceEqDiff]))
        refine AW.loopG (fun i : Nat => (206, intT i) :: (anys 22 1 (anys 207 11 []))) (fun i => [some ⟨69, 8, [uC h]⟩, some ⟨69, 8, [uC z8]⟩, some ⟨80, 64, [uC kL]⟩, some ⟨80, 64, [uC ws]⟩, some ⟨69, 8, [uC (sumA v h i)]⟩]) (fun i => 8 - i) (fun i => i ≤ 8) 0 [0, 1, 2, 3, 4] (by omega) ⟨by simp, by simp [leEs_one, leP, lePs, inP, inPs, inEs, leTs, leT, leC, leCs, leL, leLs, leBs, overT, anys, inTs, inT, inCs, inC, inLs, inL, inBs, hOf, undefT], by simp [leEs_one, leP, lePs, inP, inPs, inEs, leTs, leT, leC, leCs, leL, leLs, leBs, overT, anys, inTs, inT, inCs, inC, inLs, inL, inBs, hOf, undefT, sumA_zero]⟩ (fun i _ => ⟨by simp [leEs_one, leP, lePs, inP, inPs, inEs, leTs, leT, leC, leCs, leL, leLs, leBs, overT, anys, inTs, inT, inCs, inC, inLs, inL, inBs, hOf, undefT], by simp [leEs_one, leP, lePs, inP, inPs, inEs, leTs, leT, leC, leCs, leL, leLs, leBs, overT, anys, inTs, inT, inCs, inC, inLs, inL, inBs, hOf, undefT]⟩) ?_
        intro i hi
        simp only [overT, anys, ↓askG_tt, ↓askG_ff, ↓askG_tf, ↓askG_ft, ↓AOp, ↓aBin, ↓aUn, ↓aConv, ↓aAlloc, ↓aBox, ↓aBuild, ↓aLoad, ↓aStore, ↓aNil, ↓aFieldAddr, ↓aField, ↓aExtract, ↓aIndexAddr, ↓aIndex, ↓aSlice, ↓aMake, ↓aBuildSlice, ↓aFrz, ↓aLen, ↓aAppend, ↓aCopy, Nat.reduceAdd, Nat.reduceSub, Nat.reduceMul, Nat.reduceLT, Nat.reduceLeDiff, Nat.reduceEqDiff, Int.reduceToNat, Int.reduceBEq, Int.reduceBNe, Int.reduceEq, Int.reduceNe, Int.reduceNeg, Int.reduceLE, Int.reduceLT, reduceIte, reduceCtorEq, go_sem, Nat.mul_one, Nat.add_sub_cancel, Nat.add_one_sub_one, Nat.sub_zero]
        have hl := sumA_len (i := i) hv hh
        by_cases hlt : i < 8
        · have g1 : decide ((i : Int) < 8) = true := by simp; omega
          have d1 := uC_drop (l := sumA v h i) (i := i) (by omega)
          have d2 := uC_drop (l := h) (i := i) (by omega)
          have hs := uC_set (l := sumA v h i) (i := i) (x := addU ((sumA v h i).getD i 0) (h.getD i 0)) (by omega)
          rw [sumA_next hv hh hlt] at hs
          repeat' (first
    | (with_reducible first | refine AW.seq ?_ | refine AW.block ?_ | refine AW.ret ?_ | refine AW.skip ?_ | refine AW.exit ?_)
    | ((refine AW.cond (by rfl) (fun hc => ?_) (fun hc => ?_)) <;> (try simp only [hcS] at hc) <;> (try first | contradiction | (exfalso; omega)))
    | ((refine AW.condB (by rfl) (fun hc => ?_) (fun hc => ?_)))
    | ((first | (with_reducible refine AW.regionK mo (by kernel_rfl) ?_; intro K hK) | (with_reducible refine aSliceO.l ?_) | (with_reducible refine aBuildO.l ?_) | (with_reducible refine aStoreO.l ?_)); simp (maxSteps := 2000000) only [↓askG_tt, ↓askG_ff, ↓askG_tf, ↓askG_ft, ↓AOp, ↓aBin, ↓aUn, ↓aConv, ↓aAlloc, ↓aBox, ↓aBuild, ↓aLoad, ↓aStore, ↓aNil, ↓aFieldAddr, ↓aField, ↓aExtract, ↓aIndexAddr, ↓aIndex, ↓aSlice, ↓aMake, ↓aBuildSlice, ↓aFrz, ↓aLen, ↓aAppend, ↓aCopy, Nat.reduceAdd, Nat.reduceSub, Nat.reduceMul, Nat.reduceLT, Nat.reduceLeDiff, Nat.reduceEqDiff, Int.reduceToNat, Int.reduceBEq, Int.reduceBNe, Int.reduceEq, Int.reduceNe, Int.reduceNeg, Int.reduceLE, Int.reduceLT, reduceIte, reduceCtorEq, go_sem, Nat.mul_one, Nat.add_sub_cancel, Nat.add_one_sub_one, Nat.sub_zero, shiftP, shiftT, shiftC, shiftL, shiftB, newIds, idsOfT, List.zipIdx_cons, List.zipIdx_nil, g1, d1, d2, hl, hh, addU_def])
    | (with_reducible refine hK _ ?_; clear hK K)
    | (with_reducible refine askG.mk (fun hg => ?_) (fun hg => ?_) <;> (try simp only [hcS] at hg) <;> (try first | contradiction | (exfalso; omega)))
    | ((with_reducible refine And.intro ?_ ?_); focus (first | (with_reducible show pairsOk _ _ = true; kernel_rfl) | omega | (with_reducible assumption) | kernel_rfl | (exact bytesE_len _) | (exact bytesE_allP _) | (exact rowsE_len _) | (exact rowsE_allP _) | ((simp [allP_nil, allP_cons, persL]; done)) | (simp; done) | (simp; omega)))
    | ((with_reducible first | show inBlockS _ _ _ _ | show thenS _ _ _ _); simp only [inBlockS, thenS, reduceIte, Nat.reduceEqDiff]))
          rw [wrap_i64 _ (by omega), hs]
          exact ⟨[0, 1, 2, 3, 4], i + 1, by omega, by omega, ⟨by simp, by simp [leEs_one, leP, lePs, inP, inPs, inEs, leTs, leT, leC, leCs, leL, leLs, leBs, overT, anys, inTs, inT, inCs, inC, inLs, inL, inBs, hOf, undefT], by simp [leEs_one, leP, lePs, inP, inPs, inEs, leTs, leT, leC, leCs, leL, leLs, leBs, overT, anys, inTs, inT, inCs, inC, inLs, inL, inBs, hOf, undefT]⟩⟩
        · obtain rfl : i = 8 := by omega
          have g1 : decide (((8 : Nat) : Int) < 8) = false := by decide
          rw [sumA_last hv hh] at hl ⊢
          generalize List.zipWith addU v h = r at *
          have tr := uC_take_self r
          rw [hl] at tr
          repeat' (first
    | (with_reducible first | refine AW.seq ?_ | refine AW.block ?_ | refine AW.ret ?_ | refine AW.skip ?_ | refine AW.exit ?_)
    | ((refine AW.cond (by rfl) (fun hc => ?_) (fun hc => ?_)) <;> (try simp only [hcS] at hc) <;> (try first | contradiction | (exfalso; omega)))
    | ((refine AW.condB (by rfl) (fun hc => ?_) (fun hc => ?_)))
    | ((first | (with_reducible refine AW.regionK mo (by kernel_rfl) ?_; intro K hK) | (with_reducible refine aSliceO.l ?_) | (with_reducible refine aBuildO.l ?_) | (with_reducible refine aStoreO.l ?_)); simp (maxSteps := 2000000) only [↓askG_tt, ↓askG_ff, ↓askG_tf, ↓askG_ft, ↓AOp, ↓aBin, ↓aUn, ↓aConv, ↓aAlloc, ↓aBox, ↓aBuild, ↓aLoad, ↓aStore, ↓aNil, ↓aFieldAddr, ↓aField, ↓aExtract, ↓aIndexAddr, ↓aIndex, ↓aSlice, ↓aMake, ↓aBuildSlice, ↓aFrz, ↓aLen, ↓aAppend, ↓aCopy, Nat.reduceAdd, Nat.reduceSub, Nat.reduceMul, Nat.reduceLT, Nat.reduceLeDiff, Nat.reduceEqDiff, Int.reduceToNat, Int.reduceBEq, Int.reduceBNe, Int.reduceEq, Int.reduceNe, Int.reduceNeg, Int.reduceLE, Int.reduceLT, reduceIte, reduceCtorEq, go_sem, Nat.mul_one, Nat.add_sub_cancel, Nat.add_one_sub_one, Nat.sub_zero, shiftP, shiftT, shiftC, shiftL, shiftB, newIds, idsOfT, List.zipIdx_cons, List.zipIdx_nil, g1, hl, tr, z8_len, z8_drop])
    | (with_reducible refine hK _ ?_; clear hK K)
    | (with_reducible refine askG.mk (fun hg => ?_) (fun hg => ?_) <;> (try simp only [hcS] at hg) <;> (try first | contradiction | (exfalso; omega)))
    | ((with_reducible refine And.intro ?_ ?_); focus (first | (with_reducible show pairsOk _ _ = true; kernel_rfl) | omega | (with_reducible assumption) | kernel_rfl | (exact bytesE_len _) | (exact bytesE_allP _) | (exact rowsE_len _) | (exact rowsE_allP _) | ((simp [allP_nil, allP_cons, persL]; done)) | (simp; done) | (simp; omega)))
    | ((with_reducible first | show inBlockS _ _ _ _ | show thenS _ _ _ _); simp only [inBlockS, thenS, reduceIte, Nat.reduceEqDiff]))
          refine ⟨.tup [.agg (uC r), intT 0], [], by simp [resT, resMany, resOne, ↓askG_tt, ↓askG_ff, ↓askG_tf, ↓askG_ft, ↓AOp, ↓aBin, ↓aUn, ↓aConv, ↓aAlloc, ↓aBox, ↓aBuild, ↓aLoad, ↓aStore, ↓aNil, ↓aFieldAddr, ↓aField, ↓aExtract, ↓aIndexAddr, ↓aIndex, ↓aSlice, ↓aMake, ↓aBuildSlice, ↓aFrz, ↓aLen, ↓aAppend, ↓aCopy, Nat.reduceAdd, Nat.reduceSub, Nat.reduceMul, Nat.reduceLT, Nat.reduceLeDiff, Nat.reduceEqDiff, Int.reduceToNat, Int.reduceBEq, Int.reduceBNe, Int.reduceEq, Int.reduceNe, Int.reduceNeg, Int.reduceLE, Int.reduceLT, reduceIte, reduceCtorEq, go_sem, Nat.mul_one, Nat.add_sub_cancel, Nat.add_one_sub_one, Nat.sub_zero, tr, hl, uC_length], ⟨rfl, ?_, ?_, ?_⟩⟩ <;> simp [↓askG_tt, ↓askG_ff, ↓askG_tf, ↓askG_ft, ↓AOp, ↓aBin, ↓aUn, ↓aConv, ↓aAlloc, ↓aBox, ↓aBuild, ↓aLoad, ↓aStore, ↓aNil, ↓aFieldAddr, ↓aField, ↓aExtract, ↓aIndexAddr, ↓aIndex, ↓aSlice, ↓aMake, ↓aBuildSlice, ↓aFrz, ↓aLen, ↓aAppend, ↓aCopy, Nat.reduceAdd, Nat.reduceSub, Nat.reduceMul, Nat.reduceLT, Nat.reduceLeDiff, Nat.reduceEqDiff, Int.reduceToNat, Int.reduceBEq, Int.reduceBNe, Int.reduceEq, Int.reduceNe, Int.reduceNeg, Int.reduceLE, Int.reduceLT, reduceIte, reduceCtorEq, go_sem, Nat.mul_one, Nat.add_sub_cancel, Nat.add_one_sub_one, Nat.sub_zero, finP, finPs, viewP, viewPs, finT, finC, finCs, finL, finLs, finBs, viewOk, viewsOk, persL, inT, inC, inCs, inL, inLs, ndB, allP_nil, allP_cons, allP_append]
end Go.Proofs.YtiifcgaililllaaDoor
