/- Stores: the example; what comes in; what putting in does. -/
import Derived.Test.YtjmchiofkjkidaaPwSu
namespace Go.Proofs.Ytjmchiofkjkidaa
set_option linter.unusedSimpArgs false
set_option linter.unusedVariables false
open Go Go.RowKit
attribute [local congr] AW_congr AOs_congr aCall_congr aCall1_congr aSem_congr aSliceO_congr aBuildO_congr aStoreO_congr
set_option maxRecDepth 100000
/-! ### What putting in does -/
theorem put_split (s : Sto) (l : Let) (hs : stoOkP s) : (putS s l = s ∧ (putN s l = 0 ∨ putN s l = 1)) ∨
    (putN s l = 1 ∧ propP l ∧ l.fr < (s.last.length : Int) ∧ l.dst < (s.last.length : Int) ∧ ∃ v b, s.last[l.fr.toNat]? = some v ∧ s.boxes[l.dst.toNat]? = some b ∧ l.seq = v + 1 ∧ putS s l = ⟨s.last.set l.fr.toNat l.seq, s.boxes.set l.dst.toNat (b ++ [l])⟩) := by
  simp only [putS, putN, hs, not_true_eq_false, if_false]
  by_cases h1 : ¬ propP l ∨ (s.last.length : Int) ≤ l.fr ∨ (s.last.length : Int) ≤ l.dst
  · simp [h1]
  · simp only [h1, if_false]
    have hp : propP l := Decidable.not_not.1 fun h => h1 (.inl h)
    have hfr := hp.2.1
    have hdst := hp.2.2.1
    have h2 : l.fr < (s.last.length : Int) := by omega
    have h3 : l.dst < (s.last.length : Int) := by omega
    obtain ⟨v, hv⟩ : ∃ v, s.last[l.fr.toNat]? = some v := ⟨_, List.getElem?_eq_getElem (by omega)⟩
    obtain ⟨b, hbx⟩ : ∃ b, s.boxes[l.dst.toNat]? = some b := ⟨_, List.getElem?_eq_getElem (by have := hs.2.2.1; omega)⟩
    simp only [hv, hbx, Option.getD_some]
    by_cases c1 : l.seq ≤ v
    · simp [c1]
    · by_cases c2 : l.seq = v + 1
      · right
        refine ⟨?_, hp, h2, h3, v, b, rfl, rfl, c2, ?_⟩
        · rw [if_neg c1, if_neg (by omega)]
        · rw [if_neg c1, if_neg (by omega)]
      · simp [c1, c2]
theorem put_ok {s : Sto} {l : Let} (hs : stoOkP s) : stoOkP (putS s l) := by
  rcases put_split s l hs with ⟨h, _⟩ | ⟨_, hp, h2, h3, v, b, hv, hb, hq, h⟩
  · rw [h]; exact hs
  · rw [h]
    refine ⟨by simp; exact hs.1, by simp; exact hs.2.1, by simp; exact hs.2.2.1, fun x hx y hy => ?_⟩
    simp only at hx
    rcases List.mem_or_eq_of_mem_set hx with hx | rfl
    · exact hs.2.2.2 x hx y hy
    · rcases List.mem_append.1 hy with hy | hy
      · exact hs.2.2.2 b (List.mem_of_getElem? hb) y hy
      · simp at hy; rw [hy]; exact hp
theorem put_fit {s : Sto} {l : Let} {k : Nat} (hs : stoOkP s) (hf : stoFit k s) (hb : l.bs.length ≤ 140737488351232) (hq : l.seq ≤ 18446744073709551615) : stoFit (k + 1) (putS s l) := by
  rcases put_split s l hs with ⟨h, _⟩ | ⟨_, hp, h2, h3, v, b, hv, hbx, hsq, h⟩
  · rw [h]; exact hf.mono (by omega)
  · rw [h]
    refine ⟨fun n hn => ?_, by simp; exact hf.2.1, by simp; exact hf.2.2.1, fun x hx => ?_⟩
    · rcases List.mem_or_eq_of_mem_set hn with hn | rfl
      · exact hf.1 n hn
      · exact hq
    · rcases List.mem_or_eq_of_mem_set hx with hx | rfl
      · have := hf.2.2.2 x hx; exact ⟨by omega, this.2⟩
      · have hb1 := hf.2.2.2 b (List.mem_of_getElem? hbx)
        refine ⟨by simp; omega, fun y hy => ?_⟩
        rcases List.mem_append.1 hy with hy | hy
        · exact hb1.2 y hy
        · simp at hy; rw [hy]; exact hb
theorem put_again {s : Sto} {l : Let} (hs : stoOkP s) : putS (putS s l) l = putS s l ∧ putN (putS s l) l = putN s l := by
  rcases put_split s l hs with ⟨h, _⟩ | ⟨hn, hp, h2, h3, v, b, hv, hbx, hsq, h⟩
  · rw [h]; exact ⟨h, rfl⟩
  · have hk := put_ok (l := l) hs
    rw [h] at hk ⊢
    have hlt : l.fr.toNat < s.last.length := (List.getElem?_eq_some_iff.1 hv).1
    have h1 : ¬ (¬ propP l ∨ ((s.last.set l.fr.toNat l.seq).length : Int) ≤ l.fr ∨ ((s.last.set l.fr.toNat l.seq).length : Int) ≤ l.dst) := by simp [hp]; omega
    have hg : (s.last.set l.fr.toNat l.seq)[l.fr.toNat]? = some l.seq := by simp [hlt]
    rw [hn]
    simp only [putS, putN, hk, not_true_eq_false, if_false, h1, hg, Option.getD_some, Nat.le_refl, if_true, true_and]
/-! ### The example -/
abbrev l2 : Let := ⟨false, 0, 1, 2, []⟩
abbrev l1 : Let := ⟨false, 0, 1, 1, []⟩
abbrev st0 : Sto := ⟨[0, 0], [[], []]⟩
abbrev st1 : Sto := ⟨[1, 0], [[], [l1]]⟩
theorem okSt0 : stoOkP st0 := by simp [stoOkP]
theorem okSt1 : stoOkP st1 := by simp [stoOkP, propP]
theorem live_pc : PC Try.prog 9 [] [] (boolT true) := by
  have P0 := stoNew_pc 2 1 (by omega)
  have P1 := stoPut_pc st0 l2 0 (by omega) (by simp [stoFit]) (by simp) (by simp)
  have P2 := stoPut_pc st0 l1 0 (by omega) (by simp [stoFit]) (by simp) (by simp)
  have P3 := stoPut_pc st1 l1 0 (by omega) (by simp [stoFit]) (by simp) (by simp)
  rw [show newS 2 1 = st0 by simp [newS, List.replicate_succ], show newE 2 1 = 0 by simp [newE]] at P0
  rw [show putS st0 l2 = st0 by simp [putS, okSt0, propP], show putN st0 l2 = 0 by simp [putN, okSt0, propP], chkSto_ok okSt0] at P1
  rw [show putS st0 l1 = st1 by simp [putS, okSt0, propP], show putN st0 l1 = 1 by simp [putN, okSt0, propP], chkSto_ok okSt0] at P2
  rw [show putS st1 l1 = st1 by simp [putS, okSt1, propP], show putN st1 l1 = 1 by simp [putN, okSt1, propP], chkSto_ok okSt1] at P3
  simp only [stoT, stoC, letT, letC] at P0 P1 P2 P3
  refine PC.of_body Try.func9 rfl ?_
  intro Γ
  simp only [Try.ntmps9, List.length_cons, List.length_nil, Nat.reduceAdd, Nat.reduceSub, List.replicate_succ, List.replicate_zero, List.cons_append, List.nil_append]
  repeat' (first
    | (with_reducible refine AW.seq ?_)
    | (with_reducible refine AW.block ?_)
    | (with_reducible refine AW.regionK mo ?_; intro K hK; simp (maxSteps := 2000000) only [↓askG_tt, ↓askG_ff, ↓askG_tf, ↓askG_ft, ↓AOp, ↓aBin, ↓aUn, ↓aConv, ↓aAlloc, ↓aBox, ↓aBuild, ↓aLoad, ↓aStore, ↓aNil, ↓aFieldAddr, ↓aField, ↓aExtract, ↓aIndexAddr, ↓aIndex, ↓aSlice, ↓aMake, ↓aBuildSlice, ↓aFrz, ↓aLen, ↓aAppend, ↓aCopy, Nat.reduceAdd, Nat.reduceSub, Nat.reduceMul, Nat.reduceLT, Nat.reduceLeDiff, Nat.reduceEqDiff, Int.reduceToNat, Int.reduceBEq, Int.reduceBNe, Int.reduceEq, Int.reduceNe, Int.reduceNeg, Int.reduceLE, Int.reduceLT, reduceIte, reduceCtorEq, go_sem, letsE_length, letsE_get, rowsE_length, rowsE_get, Option.map_map, bytesE_length, bytesE_get, shiftE_bytes, shiftE_lets, shiftE_rows, exBytesE, str_beq, bytesE_take_self, letsE_take_self, Nat.add_sub_cancel, Nat.add_one_sub_one, Nat.sub_zero, rowsE_cons, rowsE_nil, boxC])
    | ((refine AW.cond (by rfl) (fun hc => ?_) (fun hc => ?_)) <;> (try simp only [decide_eq_true_eq, decide_eq_false_iff_not, Bool.and_eq_true, Bool.or_eq_true, Bool.and_eq_false_iff, Bool.or_eq_false_iff, Int.not_lt, Int.not_le, beq_iff_eq, bne_iff_ne, ne_eq, Decidable.not_not, beq_eq_false_iff_ne, bne_eq_false_iff_eq, Bool.not_eq_eq_eq_not, Bool.not_true, Bool.not_false, true_eq_decide_iff, false_eq_decide_iff, Bool.not_eq_true, Bool.not_eq_false] at hc) <;> (try first | contradiction | (exfalso; omega)))
    | ((refine AW.condB (by rfl) (fun hc => ?_) (fun hc => ?_)))
    | (refine aCall.pers (P0) fnOk11 ?_ ?_ ?_ ?_; (focus rfl); (focus rfl); (focus (simp [persT, persL, rowsE_cons, rowsE_nil, boxC]; done)); simp only [↓askG_tt, ↓askG_ff, ↓askG_tf, ↓askG_ft, ↓AOp, ↓aBin, ↓aUn, ↓aConv, ↓aAlloc, ↓aBox, ↓aBuild, ↓aLoad, ↓aStore, ↓aNil, ↓aFieldAddr, ↓aField, ↓aExtract, ↓aIndexAddr, ↓aIndex, ↓aSlice, ↓aMake, ↓aBuildSlice, ↓aFrz, ↓aLen, ↓aAppend, ↓aCopy, Nat.reduceAdd, Nat.reduceSub, Nat.reduceMul, Nat.reduceLT, Nat.reduceLeDiff, Nat.reduceEqDiff, Int.reduceToNat, Int.reduceBEq, Int.reduceBNe, Int.reduceEq, Int.reduceNe, Int.reduceNeg, Int.reduceLE, Int.reduceLT, reduceIte, reduceCtorEq, go_sem, letsE_length, letsE_get, rowsE_length, rowsE_get, Option.map_map, bytesE_length, bytesE_get, shiftE_bytes, shiftE_lets, shiftE_rows, exBytesE, str_beq, bytesE_take_self, letsE_take_self, Nat.add_sub_cancel, Nat.add_one_sub_one, Nat.sub_zero, shiftP, shiftT, shiftC, shiftL, shiftB, newIds, idsOfT, List.zipIdx_cons, List.zipIdx_nil, rowsE_cons, rowsE_nil, boxC])
    | (refine aCall.wk (P1) fnOk13 ?_ ?_ ?_ ?_; (focus rfl); (focus (simp [wkTs, wkT, wkLs, wkL, isNilSl, St.ev, evalT, rowsE_cons, rowsE_nil, boxC]; done)); (focus (simp [persT, persL, St.ev, evalT, rowsE_cons, rowsE_nil, boxC]; done)); simp only [↓askG_tt, ↓askG_ff, ↓askG_tf, ↓askG_ft, ↓AOp, ↓aBin, ↓aUn, ↓aConv, ↓aAlloc, ↓aBox, ↓aBuild, ↓aLoad, ↓aStore, ↓aNil, ↓aFieldAddr, ↓aField, ↓aExtract, ↓aIndexAddr, ↓aIndex, ↓aSlice, ↓aMake, ↓aBuildSlice, ↓aFrz, ↓aLen, ↓aAppend, ↓aCopy, Nat.reduceAdd, Nat.reduceSub, Nat.reduceMul, Nat.reduceLT, Nat.reduceLeDiff, Nat.reduceEqDiff, Int.reduceToNat, Int.reduceBEq, Int.reduceBNe, Int.reduceEq, Int.reduceNe, Int.reduceNeg, Int.reduceLE, Int.reduceLT, reduceIte, reduceCtorEq, go_sem, letsE_length, letsE_get, rowsE_length, rowsE_get, Option.map_map, bytesE_length, bytesE_get, shiftE_bytes, shiftE_lets, shiftE_rows, exBytesE, str_beq, bytesE_take_self, letsE_take_self, Nat.add_sub_cancel, Nat.add_one_sub_one, Nat.sub_zero, shiftP, shiftT, shiftC, shiftL, shiftB, newIds, idsOfT, List.zipIdx_cons, List.zipIdx_nil, rowsE_cons, rowsE_nil, boxC])
    | (refine aCall.wk (P2) fnOk13 ?_ ?_ ?_ ?_; (focus rfl); (focus (simp [wkTs, wkT, wkLs, wkL, isNilSl, St.ev, evalT, rowsE_cons, rowsE_nil, boxC]; done)); (focus (simp [persT, persL, St.ev, evalT, rowsE_cons, rowsE_nil, boxC]; done)); simp only [↓askG_tt, ↓askG_ff, ↓askG_tf, ↓askG_ft, ↓AOp, ↓aBin, ↓aUn, ↓aConv, ↓aAlloc, ↓aBox, ↓aBuild, ↓aLoad, ↓aStore, ↓aNil, ↓aFieldAddr, ↓aField, ↓aExtract, ↓aIndexAddr, ↓aIndex, ↓aSlice, ↓aMake, ↓aBuildSlice, ↓aFrz, ↓aLen, ↓aAppend, ↓aCopy, Nat.reduceAdd, Nat.reduceSub, Nat.reduceMul, Nat.reduceLT, Nat.reduceLeDiff, Nat.reduceEqDiff, Int.reduceToNat, Int.reduceBEq, Int.reduceBNe, Int.reduceEq, Int.reduceNe, Int.reduceNeg, Int.reduceLE, Int.reduceLT, reduceIte, reduceCtorEq, go_sem, letsE_length, letsE_get, rowsE_length, rowsE_get, Option.map_map, bytesE_length, bytesE_get, shiftE_bytes, shiftE_lets, shiftE_rows, exBytesE, str_beq, bytesE_take_self, letsE_take_self, Nat.add_sub_cancel, Nat.add_one_sub_one, Nat.sub_zero, shiftP, shiftT, shiftC, shiftL, shiftB, newIds, idsOfT, List.zipIdx_cons, List.zipIdx_nil, rowsE_cons, rowsE_nil, boxC])
    | (refine aCall.wk (P3) fnOk13 ?_ ?_ ?_ ?_; (focus rfl); (focus (simp [wkTs, wkT, wkLs, wkL, isNilSl, St.ev, evalT, rowsE_cons, rowsE_nil, boxC]; done)); (focus (simp [persT, persL, St.ev, evalT, rowsE_cons, rowsE_nil, boxC]; done)); simp only [↓askG_tt, ↓askG_ff, ↓askG_tf, ↓askG_ft, ↓AOp, ↓aBin, ↓aUn, ↓aConv, ↓aAlloc, ↓aBox, ↓aBuild, ↓aLoad, ↓aStore, ↓aNil, ↓aFieldAddr, ↓aField, ↓aExtract, ↓aIndexAddr, ↓aIndex, ↓aSlice, ↓aMake, ↓aBuildSlice, ↓aFrz, ↓aLen, ↓aAppend, ↓aCopy, Nat.reduceAdd, Nat.reduceSub, Nat.reduceMul, Nat.reduceLT, Nat.reduceLeDiff, Nat.reduceEqDiff, Int.reduceToNat, Int.reduceBEq, Int.reduceBNe, Int.reduceEq, Int.reduceNe, Int.reduceNeg, Int.reduceLE, Int.reduceLT, reduceIte, reduceCtorEq, go_sem, letsE_length, letsE_get, rowsE_length, rowsE_get, Option.map_map, bytesE_length, bytesE_get, shiftE_bytes, shiftE_lets, shiftE_rows, exBytesE, str_beq, bytesE_take_self, letsE_take_self, Nat.add_sub_cancel, Nat.add_one_sub_one, Nat.sub_zero, shiftP, shiftT, shiftC, shiftL, shiftB, newIds, idsOfT, List.zipIdx_cons, List.zipIdx_nil, rowsE_cons, rowsE_nil, boxC])
    | (with_reducible refine aSliceO.l ?_; simp only [↓askG_tt, ↓askG_ff, ↓askG_tf, ↓askG_ft, ↓AOp, ↓aBin, ↓aUn, ↓aConv, ↓aAlloc, ↓aBox, ↓aBuild, ↓aLoad, ↓aStore, ↓aNil, ↓aFieldAddr, ↓aField, ↓aExtract, ↓aIndexAddr, ↓aIndex, ↓aSlice, ↓aMake, ↓aBuildSlice, ↓aFrz, ↓aLen, ↓aAppend, ↓aCopy, Nat.reduceAdd, Nat.reduceSub, Nat.reduceMul, Nat.reduceLT, Nat.reduceLeDiff, Nat.reduceEqDiff, Int.reduceToNat, Int.reduceBEq, Int.reduceBNe, Int.reduceEq, Int.reduceNe, Int.reduceNeg, Int.reduceLE, Int.reduceLT, reduceIte, reduceCtorEq, go_sem, letsE_length, letsE_get, rowsE_length, rowsE_get, Option.map_map, bytesE_length, bytesE_get, shiftE_bytes, shiftE_lets, shiftE_rows, exBytesE, str_beq, bytesE_take_self, letsE_take_self, Nat.add_sub_cancel, Nat.add_one_sub_one, Nat.sub_zero, rowsE_cons, rowsE_nil, boxC])
    | (with_reducible refine aBuildO.l ?_; simp only [↓askG_tt, ↓askG_ff, ↓askG_tf, ↓askG_ft, ↓AOp, ↓aBin, ↓aUn, ↓aConv, ↓aAlloc, ↓aBox, ↓aBuild, ↓aLoad, ↓aStore, ↓aNil, ↓aFieldAddr, ↓aField, ↓aExtract, ↓aIndexAddr, ↓aIndex, ↓aSlice, ↓aMake, ↓aBuildSlice, ↓aFrz, ↓aLen, ↓aAppend, ↓aCopy, Nat.reduceAdd, Nat.reduceSub, Nat.reduceMul, Nat.reduceLT, Nat.reduceLeDiff, Nat.reduceEqDiff, Int.reduceToNat, Int.reduceBEq, Int.reduceBNe, Int.reduceEq, Int.reduceNe, Int.reduceNeg, Int.reduceLE, Int.reduceLT, reduceIte, reduceCtorEq, go_sem, letsE_length, letsE_get, rowsE_length, rowsE_get, Option.map_map, bytesE_length, bytesE_get, shiftE_bytes, shiftE_lets, shiftE_rows, exBytesE, str_beq, bytesE_take_self, letsE_take_self, Nat.add_sub_cancel, Nat.add_one_sub_one, Nat.sub_zero, rowsE_cons, rowsE_nil, boxC])
    | (with_reducible refine aStoreO.l ?_; simp only [↓askG_tt, ↓askG_ff, ↓askG_tf, ↓askG_ft, ↓AOp, ↓aBin, ↓aUn, ↓aConv, ↓aAlloc, ↓aBox, ↓aBuild, ↓aLoad, ↓aStore, ↓aNil, ↓aFieldAddr, ↓aField, ↓aExtract, ↓aIndexAddr, ↓aIndex, ↓aSlice, ↓aMake, ↓aBuildSlice, ↓aFrz, ↓aLen, ↓aAppend, ↓aCopy, Nat.reduceAdd, Nat.reduceSub, Nat.reduceMul, Nat.reduceLT, Nat.reduceLeDiff, Nat.reduceEqDiff, Int.reduceToNat, Int.reduceBEq, Int.reduceBNe, Int.reduceEq, Int.reduceNe, Int.reduceNeg, Int.reduceLE, Int.reduceLT, reduceIte, reduceCtorEq, go_sem, letsE_length, letsE_get, rowsE_length, rowsE_get, Option.map_map, bytesE_length, bytesE_get, shiftE_bytes, shiftE_lets, shiftE_rows, exBytesE, str_beq, bytesE_take_self, letsE_take_self, Nat.add_sub_cancel, Nat.add_one_sub_one, Nat.sub_zero, rowsE_cons, rowsE_nil, boxC])
    | (with_reducible refine hK _ ?_; clear hK K)
    | (with_reducible refine AW.ret ?_)
    | (with_reducible refine AW.skip ?_)
    | (with_reducible refine AW.exit ?_)
    | (with_reducible refine askG.mk (fun hg => ?_) (fun hg => ?_) <;> (try simp only [true_eq_decide_iff, false_eq_decide_iff, Bool.not_eq_eq_eq_not, decide_eq_true_eq, decide_eq_false_iff_not, Bool.not_true, Bool.not_false, beq_iff_eq, bne_iff_ne, ne_eq, beq_eq_false_iff_ne, bne_eq_false_iff_eq, Int.not_lt, Int.not_le, Decidable.not_not] at hg) <;> (try first | contradiction | (exfalso; omega)))
    | ((with_reducible refine And.intro ?_ ?_); focus (first | (with_reducible show pairsOk _ _ = true; kernel_rfl) | omega | (with_reducible assumption) | kernel_rfl | (exact bytesE_len _) | (exact letsE_len _) | (exact letsE_allP _) | (exact bytesE_allP _) | (exact rowsE_len _) | (exact rowsE_allP _) | ((simp [allP_nil, allP_cons, persL]; done)) | (simp; done) | (simp; omega)))
    | ((with_reducible show inBlockS _ _ _ _); simp only [inBlockS, thenS, reduceIte, Nat.reduceEqDiff])
    | ((with_reducible show thenS _ _ _ _); simp only [thenS, inBlockS, reduceIte, Nat.reduceEqDiff]))
  refine ⟨_, [], rfl, ⟨rfl, ?_, ?_, ?_⟩⟩ <;> simp [↓askG_tt, ↓askG_ff, ↓askG_tf, ↓askG_ft, ↓AOp, ↓aBin, ↓aUn, ↓aConv, ↓aAlloc, ↓aBox, ↓aBuild, ↓aLoad, ↓aStore, ↓aNil, ↓aFieldAddr, ↓aField, ↓aExtract, ↓aIndexAddr, ↓aIndex, ↓aSlice, ↓aMake, ↓aBuildSlice, ↓aFrz, ↓aLen, ↓aAppend, ↓aCopy, Nat.reduceAdd, Nat.reduceSub, Nat.reduceMul, Nat.reduceLT, Nat.reduceLeDiff, Nat.reduceEqDiff, Int.reduceToNat, Int.reduceBEq, Int.reduceBNe, Int.reduceEq, Int.reduceNe, Int.reduceNeg, Int.reduceLE, Int.reduceLT, reduceIte, reduceCtorEq, go_sem, letsE_length, letsE_get, rowsE_length, rowsE_get, Option.map_map, bytesE_length, bytesE_get, shiftE_bytes, shiftE_lets, shiftE_rows, exBytesE, str_beq, bytesE_take_self, letsE_take_self, Nat.add_sub_cancel, Nat.add_one_sub_one, Nat.sub_zero, finP, finPs, viewP, viewPs, finT, finC, finCs, finL, finLs, finBs, viewOk, viewsOk, persL, inT, inC, inCs, inL, inLs, ndB, List.any_cons, List.any_nil, List.mem_cons, List.not_mem_nil, List.mem_singleton, exists_eq_left, Sum.inl.injEq, reduceCtorEq, forall_eq, implies_true, Option.some.injEq, L.own.injEq, L.sc.injEq, L.sl.injEq, T.leaf.injEq, T.agg.injEq, exists_eq_left', exists_and_left, exists_const, L.row.injEq, L.ptr.injEq, T.tup.injEq, allP_nil, allP_cons, allP_append]
end Go.Proofs.Ytjmchiofkjkidaa
