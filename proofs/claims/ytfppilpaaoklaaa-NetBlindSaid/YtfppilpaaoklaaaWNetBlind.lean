/- The walk of the law NetBlind. -/
import Derived.Test.YtfppilpaaoklaaaPwZd
namespace Go.Proofs.Ytfppilpaaoklaaa
set_option linter.unusedSimpArgs false
set_option linter.unusedVariables false
open Go Go.RowKit
attribute [local congr] AW_congr AOs_congr aCall_congr aCall1_congr aSem_congr aSliceO_congr aBuildO_congr aStoreO_congr
attribute [local go_sem] rowsE_length rowsE_get Option.map_map bytesE_length bytesE_get shiftE_bytes shiftE_rows exBytesE str_beq bytesE_take_self
set_option maxRecDepth 100000

theorem flown_at (now f fr tw fr2 tw2 : Int) (a b : List UInt8) : (flown now f fr tw a).map Flt.at' = (flown now f fr2 tw2 b).map Flt.at' := by
  unfold flown
  split
  · rfl
  · split <;> rfl
set_option maxHeartbeats 8000000 in
theorem netBlind_pc (n : Nt) (now : Int) (a b : List UInt8) (fr tw : Int) (hf : NFit n) : PC Try.prog 8 [ntT n, intT now, bytesT a, bytesT b, intT fr, intT tw] [] (boolT true) := by
  have CL := live_pc
  have FM := fewN_pc n hf
  cases hb : fewN n with
  | false =>
    rw [hb] at FM
    clear hf hb
    obtain ⟨ls, fs⟩ := n
    simp only [ntT, ntC] at *
    refine PC.of_body Try.func8 rfl ?_
    intro Γ _ _
    simp only [Try.ntmps8, List.length_cons, List.length_nil, Nat.reduceAdd, Nat.reduceSub, List.replicate_succ, List.replicate_zero, List.cons_append, List.nil_append]
    repeat' (first
    | (with_reducible first | refine AW.seq ?_ | refine AW.block ?_ | refine AW.ret ?_ | refine AW.skip ?_ | refine AW.exit ?_)
    | ((refine AW.cond (by rfl) (fun hc => ?_) (fun hc => ?_)) <;> (try simp only [hcS] at hc) <;> (try first | contradiction | (exfalso; omega)))
    | ((refine AW.condB (by rfl) (fun hc => ?_) (fun hc => ?_)))
    | ((first | (refine aCall.pers (CL) fnOk9 ?_ ?_ ?_ ?_; (focus rfl); (focus rfl); (focus (simp [persT, persL, rowsE_length]; done))) | (refine aCall.pers (FM) fnOk10 ?_ ?_ ?_ ?_; (focus rfl); (focus rfl); (focus (simp [persT, persL, rowsE_length]; done))) | (with_reducible refine AW.regionK mo (by kernel_rfl) ?_; intro K hK) | (with_reducible refine aSliceO.l ?_) | (with_reducible refine aBuildO.l ?_) | (with_reducible refine aStoreO.l ?_)); simp (maxSteps := 2000000) only [↓askG_tt, ↓askG_ff, ↓askG_tf, ↓askG_ft, ↓AOp, ↓aBin, ↓aUn, ↓aConv, ↓aAlloc, ↓aBox, ↓aBuild, ↓aLoad, ↓aStore, ↓aNil, ↓aFieldAddr, ↓aField, ↓aExtract, ↓aIndexAddr, ↓aIndex, ↓aSlice, ↓aMake, ↓aBuildSlice, ↓aFrz, ↓aLen, ↓aAppend, ↓aCopy, Nat.reduceAdd, Nat.reduceSub, Nat.reduceMul, Nat.reduceLT, Nat.reduceLeDiff, Nat.reduceEqDiff, Int.reduceToNat, Int.reduceBEq, Int.reduceBNe, Int.reduceEq, Int.reduceNe, Int.reduceNeg, Int.reduceLE, Int.reduceLT, reduceIte, reduceCtorEq, go_sem, Nat.add_sub_cancel, Nat.add_one_sub_one, Nat.sub_zero, shiftP, shiftT, shiftC, shiftL, shiftB, newIds, idsOfT, List.zipIdx_cons, List.zipIdx_nil, rowsE_length])
    | (with_reducible refine hK _ ?_; clear hK K)
    | (with_reducible refine askG.mk (fun hg => ?_) (fun hg => ?_) <;> (try simp only [hcS] at hg) <;> (try first | contradiction | (exfalso; omega)))
    | ((with_reducible refine And.intro ?_ ?_); focus (first | (with_reducible show pairsOk _ _ = true; kernel_rfl) | omega | (with_reducible assumption) | kernel_rfl | (exact bytesE_len _) | (exact bytesE_allP _) | (exact rowsE_len _) | (exact rowsE_allP _) | (intro r hr; simp only [List.mem_cons] at hr; rcases hr with rfl | hr <;> first | rfl | exact rowsE_len _ _ hr) | ((simp [allP_nil, allP_cons, persL]; done)) | (simp; done) | (simp; omega)))
    | ((with_reducible first | show inBlockS _ _ _ _ | show thenS _ _ _ _); simp only [inBlockS, thenS, reduceIte, Nat.reduceEqDiff]))
    all_goals (refine ⟨_, [], rfl, ⟨rfl, ?_, ?_, ?_⟩⟩ <;> simp [go_sem, Nat.add_sub_cancel, Nat.add_one_sub_one, Nat.sub_zero, finP, finPs, viewP, viewPs, finT, finC, finCs, finL, finLs, finBs, viewOk, viewsOk, persL, inT, inC, inCs, inL, inLs, ndB, allP_nil, allP_cons, allP_append])
  | true =>
    rw [hb] at FM
    clear hb
    by_cases ha : a.length ≤ 300
    · have g1 : decide (300 < (a.length : Int)) = false := decide_eq_false (by omega)
      by_cases hb : b.length ≤ 300
      · have g2 : decide (300 < (b.length : Int)) = false := decide_eq_false (by omega)
        have S1 := send_pc n now fr tw a hf (by omega)
        have S2 := send_pc n now tw fr b hf (by omega)
        have ex : (sendN n now fr tw a).ls.map Flt.at' = (sendN n now tw fr b).ls.map Flt.at' := by
          simp only [sendN, List.map_append, flown_at now (n.fs.headD 0) fr tw tw fr a b]
        have eF : (sendN n now tw fr b).fs = (sendN n now fr tw a).fs := rfl
        have SI := sameI_pc (sendN n now fr tw a).fs (by have := hf.f1; simp only [sendN, List.length_tail]; omega)
        have eL : (sendN n now tw fr b).ls.length = (sendN n now fr tw a).ls.length := by
          have := congrArg List.length ex
          simpa using this.symm
        have hl : (sendN n now fr tw a).ls.length ≤ 9223372036854775800 := by
          have := hf.l1
          have h2 : (flown now (n.fs.headD 0) fr tw a).length ≤ 2 := by
            unfold flown
            split
            · simp
            · split <;> simp
          simp only [sendN, List.length_append]; omega
        obtain ⟨n1, h1⟩ : ∃ n1, sendN n now fr tw a = n1 := ⟨_, rfl⟩
        obtain ⟨n2, h2⟩ : ∃ n2, sendN n now tw fr b = n2 := ⟨_, rfl⟩
        rw [h1] at S1 ex eF SI eL hl
        rw [h2] at S2 ex eF eL
        clear hf h1 h2
        obtain ⟨ls, fs⟩ := n
        obtain ⟨l1, f1⟩ := n1
        obtain ⟨l2, f2⟩ := n2
        simp only at ex eF SI eL hl
        subst eF
        simp only [ntT, ntC] at *
        refine PC.of_body Try.func8 rfl ?_
        intro Γ _ _
        simp only [Try.ntmps8, List.length_cons, List.length_nil, Nat.reduceAdd, Nat.reduceSub, List.replicate_succ, List.replicate_zero, List.cons_append, List.nil_append]
        repeat' (first
    | (with_reducible first | refine AW.seq ?_ | refine AW.block ?_ | refine AW.ret ?_ | refine AW.skip ?_ | refine AW.exit ?_)
    | ((refine AW.cond (by rfl) (fun hc => ?_) (fun hc => ?_)) <;> (try simp only [hcS] at hc) <;> (try first | contradiction | (exfalso; omega)))
    | ((refine AW.condB (by rfl) (fun hc => ?_) (fun hc => ?_)))
    | ((first | (refine aCall.pers (CL) fnOk9 ?_ ?_ ?_ ?_; (focus rfl); (focus rfl); (focus (simp [persT, persL, g1, g2, eL, bne_self_eq_false]; done))) | (refine aCall.pers (FM) fnOk10 ?_ ?_ ?_ ?_; (focus rfl); (focus rfl); (focus (simp [persT, persL, g1, g2, eL, bne_self_eq_false]; done))) | (refine aCall.pers (S1) fnOk11 ?_ ?_ ?_ ?_; (focus rfl); (focus rfl); (focus (simp [persT, persL, g1, g2, eL, bne_self_eq_false]; done))) | (refine aCall.pers (S2) fnOk11 ?_ ?_ ?_ ?_; (focus rfl); (focus rfl); (focus (simp [persT, persL, g1, g2, eL, bne_self_eq_false]; done))) | (refine aCall.pers (SI) fnOk18 ?_ ?_ ?_ ?_; (focus rfl); (focus rfl); (focus (simp [persT, persL, g1, g2, eL, bne_self_eq_false]; done))) | (with_reducible refine AW.regionK mo (by kernel_rfl) ?_; intro K hK) | (with_reducible refine aSliceO.l ?_) | (with_reducible refine aBuildO.l ?_) | (with_reducible refine aStoreO.l ?_)); simp (maxSteps := 2000000) only [↓askG_tt, ↓askG_ff, ↓askG_tf, ↓askG_ft, ↓AOp, ↓aBin, ↓aUn, ↓aConv, ↓aAlloc, ↓aBox, ↓aBuild, ↓aLoad, ↓aStore, ↓aNil, ↓aFieldAddr, ↓aField, ↓aExtract, ↓aIndexAddr, ↓aIndex, ↓aSlice, ↓aMake, ↓aBuildSlice, ↓aFrz, ↓aLen, ↓aAppend, ↓aCopy, Nat.reduceAdd, Nat.reduceSub, Nat.reduceMul, Nat.reduceLT, Nat.reduceLeDiff, Nat.reduceEqDiff, Int.reduceToNat, Int.reduceBEq, Int.reduceBNe, Int.reduceEq, Int.reduceNe, Int.reduceNeg, Int.reduceLE, Int.reduceLT, reduceIte, reduceCtorEq, go_sem, Nat.add_sub_cancel, Nat.add_one_sub_one, Nat.sub_zero, shiftP, shiftT, shiftC, shiftL, shiftB, newIds, idsOfT, List.zipIdx_cons, List.zipIdx_nil, g1, g2, eL, bne_self_eq_false])
    | (with_reducible refine hK _ ?_; clear hK K)
    | (with_reducible refine askG.mk (fun hg => ?_) (fun hg => ?_) <;> (try simp only [hcS] at hg) <;> (try first | contradiction | (exfalso; omega)))
    | ((with_reducible refine And.intro ?_ ?_); focus (first | (with_reducible show pairsOk _ _ = true; kernel_rfl) | omega | (with_reducible assumption) | kernel_rfl | (exact bytesE_len _) | (exact bytesE_allP _) | (exact rowsE_len _) | (exact rowsE_allP _) | (intro r hr; simp only [List.mem_cons] at hr; rcases hr with rfl | hr <;> first | rfl | exact rowsE_len _ _ hr) | ((simp [allP_nil, allP_cons, persL]; done)) | (simp; done) | (simp; omega)))
    | ((with_reducible first | show inBlockS _ _ _ _ | show thenS _ _ _ _); simp only [inBlockS, thenS, reduceIte, Nat.reduceEqDiff]))
        refine AW.loopG (fun i : Nat => (61, intT i) :: (anys 12 1 (anys 15 1 (anys 62 16 [])))) (fun _ => [some ⟨25, 2, [[rowsL fltC ls, rowsL intC fs]]⟩, some ⟨25, 2, [[rowsL fltC l1, rowsL intC f2]]⟩, some ⟨25, 2, [[rowsL fltC l2, rowsL intC f2]]⟩]) (fun i => l1.length - i) (fun i => i ≤ l1.length) 0 [0, 1, 2] (by omega) ⟨by simp, by simp [leEs_one, leP, lePs, inP, inPs, inEs, leTs, leT, leC, leCs, leL, leLs, leBs, overT, anys, inTs, inT, inCs, inC, inLs, inL, inBs, hOf, undefT], by simp [leEs_one, leP, lePs, inP, inPs, inEs, leTs, leT, leC, leCs, leL, leLs, leBs, overT, anys, inTs, inT, inCs, inC, inLs, inL, inBs, hOf, undefT]⟩ (fun i _ => ⟨by simp [leEs_one, leP, lePs, inP, inPs, inEs, leTs, leT, leC, leCs, leL, leLs, leBs, overT, anys, inTs, inT, inCs, inC, inLs, inL, inBs, hOf, undefT], by simp [leEs_one, leP, lePs, inP, inPs, inEs, leTs, leT, leC, leCs, leL, leLs, leBs, overT, anys, inTs, inT, inCs, inC, inLs, inL, inBs, hOf, undefT]⟩) ?_
        intro i hi
        simp only [overT, anys, ↓askG_tt, ↓askG_ff, ↓askG_tf, ↓askG_ft, ↓AOp, ↓aBin, ↓aUn, ↓aConv, ↓aAlloc, ↓aBox, ↓aBuild, ↓aLoad, ↓aStore, ↓aNil, ↓aFieldAddr, ↓aField, ↓aExtract, ↓aIndexAddr, ↓aIndex, ↓aSlice, ↓aMake, ↓aBuildSlice, ↓aFrz, ↓aLen, ↓aAppend, ↓aCopy, Nat.reduceAdd, Nat.reduceSub, Nat.reduceMul, Nat.reduceLT, Nat.reduceLeDiff, Nat.reduceEqDiff, Int.reduceToNat, Int.reduceBEq, Int.reduceBNe, Int.reduceEq, Int.reduceNe, Int.reduceNeg, Int.reduceLE, Int.reduceLT, reduceIte, reduceCtorEq, go_sem, Nat.add_sub_cancel, Nat.add_one_sub_one, Nat.sub_zero]
        by_cases hlt : i < l1.length
        · have g3 : decide ((i : Int) < (l1.length : Int)) = true := decide_eq_true (by omega)
          obtain ⟨x, hx⟩ : ∃ x, l1[i]? = some x := ⟨_, List.getElem?_eq_getElem hlt⟩
          obtain ⟨y, hy⟩ : ∃ y, l2[i]? = some y := ⟨_, List.getElem?_eq_getElem (by omega)⟩
          have exy : y.at' = x.at' := by
            have := congrArg (fun l => l[i]?) ex
            simp only [List.getElem?_map, hx, hy, Option.map_some, Option.some.injEq] at this
            exact this.symm
          repeat' (first
    | (with_reducible first | refine AW.seq ?_ | refine AW.block ?_ | refine AW.ret ?_ | refine AW.skip ?_ | refine AW.exit ?_)
    | ((refine AW.cond (by rfl) (fun hc => ?_) (fun hc => ?_)) <;> (try simp only [hcS] at hc) <;> (try first | contradiction | (exfalso; omega)))
    | ((refine AW.condB (by rfl) (fun hc => ?_) (fun hc => ?_)))
    | ((first | (with_reducible refine AW.regionK mo (by kernel_rfl) ?_; intro K hK) | (with_reducible refine aSliceO.l ?_) | (with_reducible refine aBuildO.l ?_) | (with_reducible refine aStoreO.l ?_)); simp (maxSteps := 2000000) only [↓askG_tt, ↓askG_ff, ↓askG_tf, ↓askG_ft, ↓AOp, ↓aBin, ↓aUn, ↓aConv, ↓aAlloc, ↓aBox, ↓aBuild, ↓aLoad, ↓aStore, ↓aNil, ↓aFieldAddr, ↓aField, ↓aExtract, ↓aIndexAddr, ↓aIndex, ↓aSlice, ↓aMake, ↓aBuildSlice, ↓aFrz, ↓aLen, ↓aAppend, ↓aCopy, Nat.reduceAdd, Nat.reduceSub, Nat.reduceMul, Nat.reduceLT, Nat.reduceLeDiff, Nat.reduceEqDiff, Int.reduceToNat, Int.reduceBEq, Int.reduceBNe, Int.reduceEq, Int.reduceNe, Int.reduceNeg, Int.reduceLE, Int.reduceLT, reduceIte, reduceCtorEq, go_sem, Nat.add_sub_cancel, Nat.add_one_sub_one, Nat.sub_zero, shiftP, shiftT, shiftC, shiftL, shiftB, newIds, idsOfT, List.zipIdx_cons, List.zipIdx_nil, g3, hx, hy, fltC, exy, bne_self_eq_false])
    | (with_reducible refine hK _ ?_; clear hK K)
    | (with_reducible refine askG.mk (fun hg => ?_) (fun hg => ?_) <;> (try simp only [hcS] at hg) <;> (try first | contradiction | (exfalso; omega)))
    | ((with_reducible refine And.intro ?_ ?_); focus (first | (with_reducible show pairsOk _ _ = true; kernel_rfl) | omega | (with_reducible assumption) | kernel_rfl | (exact bytesE_len _) | (exact bytesE_allP _) | (exact rowsE_len _) | (exact rowsE_allP _) | (intro r hr; simp only [List.mem_cons] at hr; rcases hr with rfl | hr <;> first | rfl | exact rowsE_len _ _ hr) | ((simp [allP_nil, allP_cons, persL]; done)) | (simp; done) | (simp; omega)))
    | ((with_reducible first | show inBlockS _ _ _ _ | show thenS _ _ _ _); simp only [inBlockS, thenS, reduceIte, Nat.reduceEqDiff]))
          rw [wrap_i64 _ (by omega)]
          exact ⟨[0, 1, 2], i + 1, by omega, by omega, ⟨by simp, by simp [leEs_one, leP, lePs, inP, inPs, inEs, leTs, leT, leC, leCs, leL, leLs, leBs, overT, anys, inTs, inT, inCs, inC, inLs, inL, inBs, hOf, undefT], by simp [leEs_one, leP, lePs, inP, inPs, inEs, leTs, leT, leC, leCs, leL, leLs, leBs, overT, anys, inTs, inT, inCs, inC, inLs, inL, inBs, hOf, undefT]⟩⟩
        · obtain rfl : i = l1.length := by omega
          have g3 : decide ((l1.length : Int) < (l1.length : Int)) = false := by simp
          repeat' (first
    | (with_reducible first | refine AW.seq ?_ | refine AW.block ?_ | refine AW.ret ?_ | refine AW.skip ?_ | refine AW.exit ?_)
    | ((refine AW.cond (by rfl) (fun hc => ?_) (fun hc => ?_)) <;> (try simp only [hcS] at hc) <;> (try first | contradiction | (exfalso; omega)))
    | ((refine AW.condB (by rfl) (fun hc => ?_) (fun hc => ?_)))
    | ((first | (with_reducible refine AW.regionK mo (by kernel_rfl) ?_; intro K hK) | (with_reducible refine aSliceO.l ?_) | (with_reducible refine aBuildO.l ?_) | (with_reducible refine aStoreO.l ?_)); simp (maxSteps := 2000000) only [↓askG_tt, ↓askG_ff, ↓askG_tf, ↓askG_ft, ↓AOp, ↓aBin, ↓aUn, ↓aConv, ↓aAlloc, ↓aBox, ↓aBuild, ↓aLoad, ↓aStore, ↓aNil, ↓aFieldAddr, ↓aField, ↓aExtract, ↓aIndexAddr, ↓aIndex, ↓aSlice, ↓aMake, ↓aBuildSlice, ↓aFrz, ↓aLen, ↓aAppend, ↓aCopy, Nat.reduceAdd, Nat.reduceSub, Nat.reduceMul, Nat.reduceLT, Nat.reduceLeDiff, Nat.reduceEqDiff, Int.reduceToNat, Int.reduceBEq, Int.reduceBNe, Int.reduceEq, Int.reduceNe, Int.reduceNeg, Int.reduceLE, Int.reduceLT, reduceIte, reduceCtorEq, go_sem, Nat.add_sub_cancel, Nat.add_one_sub_one, Nat.sub_zero, shiftP, shiftT, shiftC, shiftL, shiftB, newIds, idsOfT, List.zipIdx_cons, List.zipIdx_nil, g3])
    | (with_reducible refine hK _ ?_; clear hK K)
    | (with_reducible refine askG.mk (fun hg => ?_) (fun hg => ?_) <;> (try simp only [hcS] at hg) <;> (try first | contradiction | (exfalso; omega)))
    | ((with_reducible refine And.intro ?_ ?_); focus (first | (with_reducible show pairsOk _ _ = true; kernel_rfl) | omega | (with_reducible assumption) | kernel_rfl | (exact bytesE_len _) | (exact bytesE_allP _) | (exact rowsE_len _) | (exact rowsE_allP _) | (intro r hr; simp only [List.mem_cons] at hr; rcases hr with rfl | hr <;> first | rfl | exact rowsE_len _ _ hr) | ((simp [allP_nil, allP_cons, persL]; done)) | (simp; done) | (simp; omega)))
    | ((with_reducible first | show inBlockS _ _ _ _ | show thenS _ _ _ _); simp only [inBlockS, thenS, reduceIte, Nat.reduceEqDiff]))
          all_goals (refine ⟨_, [], rfl, ⟨rfl, ?_, ?_, ?_⟩⟩ <;> simp [go_sem, Nat.add_sub_cancel, Nat.add_one_sub_one, Nat.sub_zero, finP, finPs, viewP, viewPs, finT, finC, finCs, finL, finLs, finBs, viewOk, viewsOk, persL, inT, inC, inCs, inL, inLs, ndB, allP_nil, allP_cons, allP_append])
      · have g2 : decide (300 < (b.length : Int)) = true := decide_eq_true (by omega)
        clear hf
        obtain ⟨ls, fs⟩ := n
        simp only [ntT, ntC] at *
        refine PC.of_body Try.func8 rfl ?_
        intro Γ _ _
        simp only [Try.ntmps8, List.length_cons, List.length_nil, Nat.reduceAdd, Nat.reduceSub, List.replicate_succ, List.replicate_zero, List.cons_append, List.nil_append]
        repeat' (first
    | (with_reducible first | refine AW.seq ?_ | refine AW.block ?_ | refine AW.ret ?_ | refine AW.skip ?_ | refine AW.exit ?_)
    | ((refine AW.cond (by rfl) (fun hc => ?_) (fun hc => ?_)) <;> (try simp only [hcS] at hc) <;> (try first | contradiction | (exfalso; omega)))
    | ((refine AW.condB (by rfl) (fun hc => ?_) (fun hc => ?_)))
    | ((first | (refine aCall.pers (CL) fnOk9 ?_ ?_ ?_ ?_; (focus rfl); (focus rfl); (focus (simp [persT, persL, g1, g2]; done))) | (refine aCall.pers (FM) fnOk10 ?_ ?_ ?_ ?_; (focus rfl); (focus rfl); (focus (simp [persT, persL, g1, g2]; done))) | (with_reducible refine AW.regionK mo (by kernel_rfl) ?_; intro K hK) | (with_reducible refine aSliceO.l ?_) | (with_reducible refine aBuildO.l ?_) | (with_reducible refine aStoreO.l ?_)); simp (maxSteps := 2000000) only [↓askG_tt, ↓askG_ff, ↓askG_tf, ↓askG_ft, ↓AOp, ↓aBin, ↓aUn, ↓aConv, ↓aAlloc, ↓aBox, ↓aBuild, ↓aLoad, ↓aStore, ↓aNil, ↓aFieldAddr, ↓aField, ↓aExtract, ↓aIndexAddr, ↓aIndex, ↓aSlice, ↓aMake, ↓aBuildSlice, ↓aFrz, ↓aLen, ↓aAppend, ↓aCopy, Nat.reduceAdd, Nat.reduceSub, Nat.reduceMul, Nat.reduceLT, Nat.reduceLeDiff, Nat.reduceEqDiff, Int.reduceToNat, Int.reduceBEq, Int.reduceBNe, Int.reduceEq, Int.reduceNe, Int.reduceNeg, Int.reduceLE, Int.reduceLT, reduceIte, reduceCtorEq, go_sem, Nat.add_sub_cancel, Nat.add_one_sub_one, Nat.sub_zero, shiftP, shiftT, shiftC, shiftL, shiftB, newIds, idsOfT, List.zipIdx_cons, List.zipIdx_nil, g1, g2])
    | (with_reducible refine hK _ ?_; clear hK K)
    | (with_reducible refine askG.mk (fun hg => ?_) (fun hg => ?_) <;> (try simp only [hcS] at hg) <;> (try first | contradiction | (exfalso; omega)))
    | ((with_reducible refine And.intro ?_ ?_); focus (first | (with_reducible show pairsOk _ _ = true; kernel_rfl) | omega | (with_reducible assumption) | kernel_rfl | (exact bytesE_len _) | (exact bytesE_allP _) | (exact rowsE_len _) | (exact rowsE_allP _) | (intro r hr; simp only [List.mem_cons] at hr; rcases hr with rfl | hr <;> first | rfl | exact rowsE_len _ _ hr) | ((simp [allP_nil, allP_cons, persL]; done)) | (simp; done) | (simp; omega)))
    | ((with_reducible first | show inBlockS _ _ _ _ | show thenS _ _ _ _); simp only [inBlockS, thenS, reduceIte, Nat.reduceEqDiff]))
        all_goals (refine ⟨_, [], rfl, ⟨rfl, ?_, ?_, ?_⟩⟩ <;> simp [go_sem, Nat.add_sub_cancel, Nat.add_one_sub_one, Nat.sub_zero, finP, finPs, viewP, viewPs, finT, finC, finCs, finL, finLs, finBs, viewOk, viewsOk, persL, inT, inC, inCs, inL, inLs, ndB, allP_nil, allP_cons, allP_append])
    · have g1 : decide (300 < (a.length : Int)) = true := decide_eq_true (by omega)
      clear hf
      obtain ⟨ls, fs⟩ := n
      simp only [ntT, ntC] at *
      refine PC.of_body Try.func8 rfl ?_
      intro Γ _ _
      simp only [Try.ntmps8, List.length_cons, List.length_nil, Nat.reduceAdd, Nat.reduceSub, List.replicate_succ, List.replicate_zero, List.cons_append, List.nil_append]
      repeat' (first
    | (with_reducible first | refine AW.seq ?_ | refine AW.block ?_ | refine AW.ret ?_ | refine AW.skip ?_ | refine AW.exit ?_)
    | ((refine AW.cond (by rfl) (fun hc => ?_) (fun hc => ?_)) <;> (try simp only [hcS] at hc) <;> (try first | contradiction | (exfalso; omega)))
    | ((refine AW.condB (by rfl) (fun hc => ?_) (fun hc => ?_)))
    | ((first | (refine aCall.pers (CL) fnOk9 ?_ ?_ ?_ ?_; (focus rfl); (focus rfl); (focus (simp [persT, persL, g1]; done))) | (refine aCall.pers (FM) fnOk10 ?_ ?_ ?_ ?_; (focus rfl); (focus rfl); (focus (simp [persT, persL, g1]; done))) | (with_reducible refine AW.regionK mo (by kernel_rfl) ?_; intro K hK) | (with_reducible refine aSliceO.l ?_) | (with_reducible refine aBuildO.l ?_) | (with_reducible refine aStoreO.l ?_)); simp (maxSteps := 2000000) only [↓askG_tt, ↓askG_ff, ↓askG_tf, ↓askG_ft, ↓AOp, ↓aBin, ↓aUn, ↓aConv, ↓aAlloc, ↓aBox, ↓aBuild, ↓aLoad, ↓aStore, ↓aNil, ↓aFieldAddr, ↓aField, ↓aExtract, ↓aIndexAddr, ↓aIndex, ↓aSlice, ↓aMake, ↓aBuildSlice, ↓aFrz, ↓aLen, ↓aAppend, ↓aCopy, Nat.reduceAdd, Nat.reduceSub, Nat.reduceMul, Nat.reduceLT, Nat.reduceLeDiff, Nat.reduceEqDiff, Int.reduceToNat, Int.reduceBEq, Int.reduceBNe, Int.reduceEq, Int.reduceNe, Int.reduceNeg, Int.reduceLE, Int.reduceLT, reduceIte, reduceCtorEq, go_sem, Nat.add_sub_cancel, Nat.add_one_sub_one, Nat.sub_zero, shiftP, shiftT, shiftC, shiftL, shiftB, newIds, idsOfT, List.zipIdx_cons, List.zipIdx_nil, g1])
    | (with_reducible refine hK _ ?_; clear hK K)
    | (with_reducible refine askG.mk (fun hg => ?_) (fun hg => ?_) <;> (try simp only [hcS] at hg) <;> (try first | contradiction | (exfalso; omega)))
    | ((with_reducible refine And.intro ?_ ?_); focus (first | (with_reducible show pairsOk _ _ = true; kernel_rfl) | omega | (with_reducible assumption) | kernel_rfl | (exact bytesE_len _) | (exact bytesE_allP _) | (exact rowsE_len _) | (exact rowsE_allP _) | (intro r hr; simp only [List.mem_cons] at hr; rcases hr with rfl | hr <;> first | rfl | exact rowsE_len _ _ hr) | ((simp [allP_nil, allP_cons, persL]; done)) | (simp; done) | (simp; omega)))
    | ((with_reducible first | show inBlockS _ _ _ _ | show thenS _ _ _ _); simp only [inBlockS, thenS, reduceIte, Nat.reduceEqDiff]))
      all_goals (refine ⟨_, [], rfl, ⟨rfl, ?_, ?_, ?_⟩⟩ <;> simp [go_sem, Nat.add_sub_cancel, Nat.add_one_sub_one, Nat.sub_zero, finP, finPs, viewP, viewPs, finT, finC, finCs, finL, finLs, finBs, viewOk, viewsOk, persL, inT, inC, inCs, inL, inLs, ndB, allP_nil, allP_cons, allP_append])
theorem walk_NetBlind (W : World) (v0 v1 v2 v3 v4 v5 : Value) (o0 : OpnR W 25 v0) (o1 : OpnR W 3 v1) (o2 : OpnR W 26 v2) (o3 : OpnR W 26 v3) (o4 : OpnR W 3 v4) (o5 : OpnR W 3 v5) :
    Calls Try.prog 8 #[v0, v1, v2, v3, v4, v5] W fun e w' => e = .returned (.bool true) ∧ Below W.heap.size W w' := by
  obtain ⟨n, h0, r0⟩ := o0.nt
  obtain ⟨now, r1⟩ := o1.i64
  obtain ⟨a, _, r2⟩ := o2.byte_s
  obtain ⟨b, _, r3⟩ := o3.byte_s
  obtain ⟨fr, r4⟩ := o4.i64
  obtain ⟨tw, r5⟩ := o5.i64
  refine law_of (netBlind_pc n now a b fr tw h0) rfl (fun i t hi => ?_)
  rcases i with _ | _ | _ | _ | _ | _ | i
  · cases hi; exact r0
  · cases hi; exact r1
  · cases hi; exact r2
  · cases hi; exact r3
  · cases hi; exact r4
  · cases hi; exact r5
  · cases hi
end Go.Proofs.Ytfppilpaaoklaaa
