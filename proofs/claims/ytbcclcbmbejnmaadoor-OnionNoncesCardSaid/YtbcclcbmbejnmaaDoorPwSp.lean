/- stamps: what may be, how it is written (the program). -/
import Derived.Test.YtbcclcbmbejnmaaDoorPwMa
import Derived.Test.YtbcclcbmbejnmaaDoorPwM2
import Derived.Test.YtbcclcbmbejnmaaDoorPwNj
namespace Go.Proofs.YtbcclcbmbejnmaaDoor
set_option linter.unusedSimpArgs false
set_option linter.unusedVariables false
open Go Go.RowKit
attribute [local congr] AW_congr AOs_congr aCall_congr aCall1_congr aSem_congr aSliceO_congr aBuildO_congr aStoreO_congr
attribute [local go_sem] uC_own uC_ids uC_shift uC_frz uC_length tabK_uC ub_v bytes_set bytesE_one1 bytesE_consr bytesE_append bytesE_drop bytesE_take rowsE_length rowsE_get Option.map_map bytesE_length bytesE_get shiftE_bytes shiftE_rows exBytesE str_beq bytesE_take_self List.take_length
set_option maxRecDepth 100000

attribute [local simp] leEs_bytes
/-- A stamp: epoch, round, chain. -/
structure Stm where
  ep : Nat
  ro : Nat
  ch : List Int
def iE (ns : List Int) : List (List L) := ns.map fun n => [.sc (.int .i64 n)]
@[simp] theorem iE_len (ns : List Int) : (iE ns).length = ns.length := by simp [iE]
theorem iE_get {ns : List Int} {i : Nat} (h : i < ns.length) : (iE ns)[i]? = some [.sc (.int .i64 (ns.getD i 0))] := by simp [iE, h]
theorem iE_take (ns : List Int) (i : Nat) : (iE ns).take i = iE (ns.take i) := by simp [iE]
theorem iE_allP (ns : List Int) : allP (iE ns) := by
  intro e he l hl
  obtain ⟨n, _, rfl⟩ := List.mem_map.1 he
  simp at hl; subst hl; rfl
def stmC (s : Stm) : List L := [.sc (.int .u64 (s.ep : Int)), .sc (.int .u64 (s.ro : Int)), .sl (iE s.ch)]
abbrev stmT (s : Stm) : T := .agg (stmC s)
def okI (ch : List Int) (i : Nat) : Prop := ∀ j, j < i → 1 ≤ ch.getD j 0 ∧ ch.getD j 0 ≤ 16 ∧ ch.getD j 0 ∉ ch.take j
def okC (ch : List Int) : Prop := 1 ≤ ch.length ∧ ch.length ≤ 8 ∧ okI ch ch.length
/-- Which ones were met. -/
def metC (d : List Int) : List L := (List.range 17).map fun v : Nat => L.sc (.bool (decide ((v : Int) ∈ d)))
theorem metC_len (d : List Int) : (metC d).length = 17 := by simp [metC]
theorem metC_nil : metC [] = List.replicate 17 (L.sc (.bool false)) := by rfl
theorem metC_get (d : List Int) {n : Nat} (h : n < 17) : (metC d)[n]? = some (.sc (.bool (decide ((n : Int) ∈ d)))) := by simp [metC, h]
theorem metC_drop (d : List Int) {n : Nat} (h : n < 17) : (metC d).drop n = .sc (.bool (decide ((n : Int) ∈ d))) :: (metC d).drop (n + 1) := by
  rw [List.drop_eq_getElem_cons (by rw [metC_len]; exact h)]
  congr 1
  have := metC_get d h
  rw [List.getElem?_eq_getElem (by rw [metC_len]; exact h)] at this
  injection this
theorem metC_set (d : List Int) {n : Nat} (h : n < 17) : (metC d).set n (.sc (.bool true)) = metC (d ++ [(n : Int)]) := by
  apply List.ext_getElem?
  intro i
  rw [List.getElem?_set]
  rcases Nat.lt_or_ge i 17 with hi | hi
  · by_cases hn : n = i
    · subst hn
      rw [if_pos rfl, if_pos (by rw [metC_len]; exact h), metC_get _ hi]; simp
    · rw [if_neg hn, metC_get _ hi, metC_get _ hi]
      have : ¬ ((i : Int) = (n : Int)) := by omega
      simp [this]
  · rw [if_neg (by omega), List.getElem?_eq_none (by rw [metC_len]; exact hi), List.getElem?_eq_none (by rw [metC_len]; exact hi)]
theorem metC_put (d : List Int) {n : Nat} (h : n < 17) : (metC d).take n ++ L.sc (.bool true) :: (metC d).drop (n + 1) = metC (d ++ [(n : Int)]) := by
  rw [← metC_set d h, List.set_eq_take_append_cons_drop, if_pos (by rw [metC_len]; exact h)]
theorem metC_lit : [L.sc (Value.bool false), L.sc (Value.bool false), L.sc (Value.bool false), L.sc (Value.bool false), L.sc (Value.bool false), L.sc (Value.bool false), L.sc (Value.bool false), L.sc (Value.bool false), L.sc (Value.bool false), L.sc (Value.bool false), L.sc (Value.bool false), L.sc (Value.bool false), L.sc (Value.bool false), L.sc (Value.bool false), L.sc (Value.bool false), L.sc (Value.bool false), L.sc (Value.bool false)] = metC [] := by rfl
theorem metC_pers (d : List Int) : ∀ x ∈ metC d, persL x = true := by
  intro x hx
  obtain ⟨v, _, rfl⟩ := List.mem_map.1 hx; rfl
@[simp] theorem leEs_met {ρ : List Nat} (d : List Int) : leEs ρ [metC d] [metC d] := leEs_self (by intro e he; simp at he; subst he; exact metC_pers d)
@[simp] theorem allP_met (d : List Int) : allP [metC d] := by
  intro e he; simp at he; subst he; exact metC_pers d
theorem take_snoc {ch : List Int} {i : Nat} (h : i < ch.length) : ch.take (i + 1) = ch.take i ++ [ch.getD i 0] := by
  rw [List.take_add_one, List.getElem?_eq_getElem h]
  simp [List.getD_eq_getElem?_getD, h]
theorem check_cases (ch : List Int) : (∃ e : Int, e = if 1 ≤ ch.length ∧ ch.length ≤ 8 then 0 else 1) := ⟨_, rfl⟩
set_option maxHeartbeats 4000000 in
theorem stCheck_pc (s : Stm) (e : Int) (he : (e = 0 ∧ okC s.ch) ∨ (e = 1 ∧ ¬ okC s.ch)) : PC Tryd.prog 37 [stmT s] [] (intT e) := by
  obtain ⟨ep, ro, ch⟩ := s
  simp only at he
  simp only [stmT, stmC]
  by_cases h1 : ch.length < 1
  · have g0 : decide ((ch.length : Int) < 1) = true := by simp; omega
    obtain rfl : e = 1 := by
      rcases he with ⟨_, h⟩ | ⟨h, _⟩
      · exact absurd h.1 (by omega)
      · exact h
    refine PC.of_body Tryd.func37 rfl ?_
    intro Γ _ _
    simp only [Tryd.ntmps37, List.length_cons, List.length_nil, Nat.reduceAdd, Nat.reduceSub, List.replicate_succ, List.replicate_zero, List.cons_append, List.nil_append]
    repeat' (first
    | (with_reducible first | refine AW.seq ?_ | refine AW.block ?_ | refine AW.ret ?_ | refine AW.skip ?_ | refine AW.exit ?_)
    | ((refine AW.cond (by rfl) (fun hc => ?_) (fun hc => ?_)) <;> (try simp only [hcS] at hc) <;> (try first | contradiction | (exfalso; omega)))
    | ((refine AW.condB (by rfl) (fun hc => ?_) (fun hc => ?_)))
    | ((first | (with_reducible refine AW.regionK mo (by kernel_rfl) ?_; intro K hK) | (with_reducible refine aSliceO.l ?_) | (with_reducible refine aBuildO.l ?_) | (with_reducible refine aStoreO.l ?_)); simp (maxSteps := 2000000) only [↓askG_tt, ↓askG_ff, ↓askG_tf, ↓askG_ft, ↓AOp, ↓aBin, ↓aUn, ↓aConv, ↓aAlloc, ↓aBox, ↓aBuild, ↓aLoad, ↓aStore, ↓aNil, ↓aFieldAddr, ↓aField, ↓aExtract, ↓aIndexAddr, ↓aIndex, ↓aSlice, ↓aMake, ↓aBuildSlice, ↓aFrz, ↓aLen, ↓aAppend, ↓aCopy, Nat.reduceAdd, Nat.reduceSub, Nat.reduceMul, Nat.reduceLT, Nat.reduceLeDiff, Nat.reduceEqDiff, Int.reduceToNat, Int.reduceBEq, Int.reduceBNe, Int.reduceEq, Int.reduceNe, Int.reduceNeg, Int.reduceLE, Int.reduceLT, reduceIte, reduceCtorEq, go_sem, Nat.add_sub_cancel, Nat.add_one_sub_one, Nat.sub_zero, Nat.mul_one, shiftP, shiftT, shiftC, shiftL, shiftB, newIds, idsOfT, List.zipIdx_cons, List.zipIdx_nil, g0, iE_len])
    | (with_reducible refine hK _ ?_; clear hK K)
    | (with_reducible refine askG.mk (fun hg => ?_) (fun hg => ?_) <;> (try simp only [hcS] at hg) <;> (try first | contradiction | (exfalso; omega)))
    | ((with_reducible refine And.intro ?_ ?_); focus (first | (with_reducible show pairsOk _ _ = true; kernel_rfl) | omega | (with_reducible assumption) | kernel_rfl | (exact bytesE_len _) | (exact bytesE_allP _) | (exact rowsE_len _) | (exact rowsE_allP _) | ((simp [allP_nil, allP_cons, persL]; done)) | ((simp [byV]; done)) | (simp; done) | (simp; omega)))
    | ((with_reducible first | show inBlockS _ _ _ _ | show thenS _ _ _ _); simp only [inBlockS, thenS, reduceIte, Nat.reduceEqDiff]))
    all_goals (refine ⟨_, [], rfl, ⟨rfl, ?_, ?_, ?_⟩⟩ <;> simp [go_sem, Nat.add_sub_cancel, Nat.add_one_sub_one, Nat.sub_zero, Nat.mul_one, finP, finPs, viewP, viewPs, finT, finC, finCs, finL, finLs, finBs, viewOk, viewsOk, persL, inT, inC, inCs, inL, inLs, ndB, allP_nil, allP_cons, allP_append])
  · have g0 : decide ((ch.length : Int) < 1) = false := by simp; omega
    by_cases h2 : 8 < ch.length
    · have g1 : decide (8 < (ch.length : Int)) = true := by simp; omega
      obtain rfl : e = 1 := by
        rcases he with ⟨_, h⟩ | ⟨h, _⟩
        · exact absurd h.2.1 (by omega)
        · exact h
      refine PC.of_body Tryd.func37 rfl ?_
      intro Γ _ _
      simp only [Tryd.ntmps37, List.length_cons, List.length_nil, Nat.reduceAdd, Nat.reduceSub, List.replicate_succ, List.replicate_zero, List.cons_append, List.nil_append]
      repeat' (first
    | (with_reducible first | refine AW.seq ?_ | refine AW.block ?_ | refine AW.ret ?_ | refine AW.skip ?_ | refine AW.exit ?_)
    | ((refine AW.cond (by rfl) (fun hc => ?_) (fun hc => ?_)) <;> (try simp only [hcS] at hc) <;> (try first | contradiction | (exfalso; omega)))
    | ((refine AW.condB (by rfl) (fun hc => ?_) (fun hc => ?_)))
    | ((first | (with_reducible refine AW.regionK mo (by kernel_rfl) ?_; intro K hK) | (with_reducible refine aSliceO.l ?_) | (with_reducible refine aBuildO.l ?_) | (with_reducible refine aStoreO.l ?_)); simp (maxSteps := 2000000) only [↓askG_tt, ↓askG_ff, ↓askG_tf, ↓askG_ft, ↓AOp, ↓aBin, ↓aUn, ↓aConv, ↓aAlloc, ↓aBox, ↓aBuild, ↓aLoad, ↓aStore, ↓aNil, ↓aFieldAddr, ↓aField, ↓aExtract, ↓aIndexAddr, ↓aIndex, ↓aSlice, ↓aMake, ↓aBuildSlice, ↓aFrz, ↓aLen, ↓aAppend, ↓aCopy, Nat.reduceAdd, Nat.reduceSub, Nat.reduceMul, Nat.reduceLT, Nat.reduceLeDiff, Nat.reduceEqDiff, Int.reduceToNat, Int.reduceBEq, Int.reduceBNe, Int.reduceEq, Int.reduceNe, Int.reduceNeg, Int.reduceLE, Int.reduceLT, reduceIte, reduceCtorEq, go_sem, Nat.add_sub_cancel, Nat.add_one_sub_one, Nat.sub_zero, Nat.mul_one, shiftP, shiftT, shiftC, shiftL, shiftB, newIds, idsOfT, List.zipIdx_cons, List.zipIdx_nil, g0, g1, iE_len])
    | (with_reducible refine hK _ ?_; clear hK K)
    | (with_reducible refine askG.mk (fun hg => ?_) (fun hg => ?_) <;> (try simp only [hcS] at hg) <;> (try first | contradiction | (exfalso; omega)))
    | ((with_reducible refine And.intro ?_ ?_); focus (first | (with_reducible show pairsOk _ _ = true; kernel_rfl) | omega | (with_reducible assumption) | kernel_rfl | (exact bytesE_len _) | (exact bytesE_allP _) | (exact rowsE_len _) | (exact rowsE_allP _) | ((simp [allP_nil, allP_cons, persL]; done)) | ((simp [byV]; done)) | (simp; done) | (simp; omega)))
    | ((with_reducible first | show inBlockS _ _ _ _ | show thenS _ _ _ _); simp only [inBlockS, thenS, reduceIte, Nat.reduceEqDiff]))
      all_goals (refine ⟨_, [], rfl, ⟨rfl, ?_, ?_, ?_⟩⟩ <;> simp [go_sem, Nat.add_sub_cancel, Nat.add_one_sub_one, Nat.sub_zero, Nat.mul_one, finP, finPs, viewP, viewPs, finT, finC, finCs, finL, finLs, finBs, viewOk, viewsOk, persL, inT, inC, inCs, inL, inLs, ndB, allP_nil, allP_cons, allP_append])
    · have g1 : decide (8 < (ch.length : Int)) = false := by simp; omega
      refine PC.of_body Tryd.func37 rfl ?_
      intro Γ _ _
      simp only [Tryd.ntmps37, List.length_cons, List.length_nil, Nat.reduceAdd, Nat.reduceSub, List.replicate_succ, List.replicate_zero, List.cons_append, List.nil_append]
      repeat' (first
    | (with_reducible first | refine AW.seq ?_ | refine AW.block ?_ | refine AW.ret ?_ | refine AW.skip ?_ | refine AW.exit ?_)
    | ((refine AW.cond (by rfl) (fun hc => ?_) (fun hc => ?_)) <;> (try simp only [hcS] at hc) <;> (try first | contradiction | (exfalso; omega)))
    | ((refine AW.condB (by rfl) (fun hc => ?_) (fun hc => ?_)))
    | ((first | (with_reducible refine AW.regionK mo (by kernel_rfl) ?_; intro K hK) | (with_reducible refine aSliceO.l ?_) | (with_reducible refine aBuildO.l ?_) | (with_reducible refine aStoreO.l ?_)); simp (maxSteps := 2000000) only [↓askG_tt, ↓askG_ff, ↓askG_tf, ↓askG_ft, ↓AOp, ↓aBin, ↓aUn, ↓aConv, ↓aAlloc, ↓aBox, ↓aBuild, ↓aLoad, ↓aStore, ↓aNil, ↓aFieldAddr, ↓aField, ↓aExtract, ↓aIndexAddr, ↓aIndex, ↓aSlice, ↓aMake, ↓aBuildSlice, ↓aFrz, ↓aLen, ↓aAppend, ↓aCopy, Nat.reduceAdd, Nat.reduceSub, Nat.reduceMul, Nat.reduceLT, Nat.reduceLeDiff, Nat.reduceEqDiff, Int.reduceToNat, Int.reduceBEq, Int.reduceBNe, Int.reduceEq, Int.reduceNe, Int.reduceNeg, Int.reduceLE, Int.reduceLT, reduceIte, reduceCtorEq, go_sem, Nat.add_sub_cancel, Nat.add_one_sub_one, Nat.sub_zero, Nat.mul_one, shiftP, shiftT, shiftC, shiftL, shiftB, newIds, idsOfT, List.zipIdx_cons, List.zipIdx_nil, g0, g1, iE_len])
    | (with_reducible refine hK _ ?_; clear hK K)
    | (with_reducible refine askG.mk (fun hg => ?_) (fun hg => ?_) <;> (try simp only [hcS] at hg) <;> (try first | contradiction | (exfalso; omega)))
    | ((with_reducible refine And.intro ?_ ?_); focus (first | (with_reducible show pairsOk _ _ = true; kernel_rfl) | omega | (with_reducible assumption) | kernel_rfl | (exact bytesE_len _) | (exact bytesE_allP _) | (exact rowsE_len _) | (exact rowsE_allP _) | ((simp [allP_nil, allP_cons, persL]; done)) | ((simp [byV]; done)) | (simp; done) | (simp; omega)))
    | ((with_reducible first | show inBlockS _ _ _ _ | show thenS _ _ _ _); simp only [inBlockS, thenS, reduceIte, Nat.reduceEqDiff]))
      refine AW.loopG (fun i : Nat => (19, intT i) :: (anys 2 1 (anys 5 1 (anys 20 17 [])))) (fun i => [some ⟨27, 3, [[.sc (.int .u64 (ep : Int)), .sc (.int .u64 (ro : Int)), .sl (iE ch)]]⟩, some ⟨66, 17, [metC (ch.take i)]⟩]) (fun i => ch.length - i) (fun i => i ≤ ch.length ∧ okI ch i) 0 [0, 1] ⟨by omega, fun j hj => by omega⟩ ⟨by simp, by simp [leEs_one, leP, lePs, inP, inPs, inEs, leTs, leT, leC, leCs, leL, leLs, leBs, overT, anys, inTs, inT, inCs, inC, inLs, inL, inBs, hOf, undefT], by (simp [leEs_one, leP, lePs, inP, inPs, inEs, leTs, leT, leC, leCs, leL, leLs, leBs, overT, anys, inTs, inT, inCs, inC, inLs, inL, inBs, hOf, undefT, iE_allP]; exact .inl ⟨metC_lit, by rw [metC_lit]; exact allP_met _⟩)⟩ (fun i _ => ⟨by simp [leEs_one, leP, lePs, inP, inPs, inEs, leTs, leT, leC, leCs, leL, leLs, leBs, overT, anys, inTs, inT, inCs, inC, inLs, inL, inBs, hOf, undefT], by simp [leEs_one, leP, lePs, inP, inPs, inEs, leTs, leT, leC, leCs, leL, leLs, leBs, overT, anys, inTs, inT, inCs, inC, inLs, inL, inBs, hOf, undefT]⟩) ?_
      intro i hinv
      obtain ⟨hi, hok⟩ := hinv
      simp only [overT, anys, ↓askG_tt, ↓askG_ff, ↓askG_tf, ↓askG_ft, ↓AOp, ↓aBin, ↓aUn, ↓aConv, ↓aAlloc, ↓aBox, ↓aBuild, ↓aLoad, ↓aStore, ↓aNil, ↓aFieldAddr, ↓aField, ↓aExtract, ↓aIndexAddr, ↓aIndex, ↓aSlice, ↓aMake, ↓aBuildSlice, ↓aFrz, ↓aLen, ↓aAppend, ↓aCopy, Nat.reduceAdd, Nat.reduceSub, Nat.reduceMul, Nat.reduceLT, Nat.reduceLeDiff, Nat.reduceEqDiff, Int.reduceToNat, Int.reduceBEq, Int.reduceBNe, Int.reduceEq, Int.reduceNe, Int.reduceNeg, Int.reduceLE, Int.reduceLT, reduceIte, reduceCtorEq, go_sem, Nat.add_sub_cancel, Nat.add_one_sub_one, Nat.sub_zero, Nat.mul_one]
      by_cases hlt : i < ch.length
      · have g2 : decide ((i : Int) < (ch.length : Int)) = true := by simp; omega
        have hg := iE_get hlt
        have htk := take_snoc hlt
        have bad : ¬ (1 ≤ ch.getD i 0 ∧ ch.getD i 0 ≤ 16 ∧ ch.getD i 0 ∉ ch.take i) → e = 1 := fun h => by
          rcases he with ⟨_, q⟩ | ⟨q, _⟩
          · exact absurd (q.2.2 i hlt) h
          · exact q
        have okn : (1 ≤ ch.getD i 0 ∧ ch.getD i 0 ≤ 16 ∧ ch.getD i 0 ∉ ch.take i) → okI ch (i + 1) := fun h j hj => by
          rcases Nat.lt_or_ge j i with q | q
          · exact hok j q
          · have : j = i := by omega
            subst this; exact h
        generalize ch.getD i 0 = x at *
        generalize ch.take i = d at *
        by_cases hx1 : x < 1
        · have g3 : decide (x < 1) = true := by simp; omega
          obtain rfl := bad (fun h => by omega)
          repeat' (first
    | (with_reducible first | refine AW.seq ?_ | refine AW.block ?_ | refine AW.ret ?_ | refine AW.skip ?_ | refine AW.exit ?_)
    | ((refine AW.cond (by rfl) (fun hc => ?_) (fun hc => ?_)) <;> (try simp only [hcS] at hc) <;> (try first | contradiction | (exfalso; omega)))
    | ((refine AW.condB (by rfl) (fun hc => ?_) (fun hc => ?_)))
    | ((first | (with_reducible refine AW.regionK mo (by kernel_rfl) ?_; intro K hK) | (with_reducible refine aSliceO.l ?_) | (with_reducible refine aBuildO.l ?_) | (with_reducible refine aStoreO.l ?_)); simp (maxSteps := 2000000) only [↓askG_tt, ↓askG_ff, ↓askG_tf, ↓askG_ft, ↓AOp, ↓aBin, ↓aUn, ↓aConv, ↓aAlloc, ↓aBox, ↓aBuild, ↓aLoad, ↓aStore, ↓aNil, ↓aFieldAddr, ↓aField, ↓aExtract, ↓aIndexAddr, ↓aIndex, ↓aSlice, ↓aMake, ↓aBuildSlice, ↓aFrz, ↓aLen, ↓aAppend, ↓aCopy, Nat.reduceAdd, Nat.reduceSub, Nat.reduceMul, Nat.reduceLT, Nat.reduceLeDiff, Nat.reduceEqDiff, Int.reduceToNat, Int.reduceBEq, Int.reduceBNe, Int.reduceEq, Int.reduceNe, Int.reduceNeg, Int.reduceLE, Int.reduceLT, reduceIte, reduceCtorEq, go_sem, Nat.add_sub_cancel, Nat.add_one_sub_one, Nat.sub_zero, Nat.mul_one, shiftP, shiftT, shiftC, shiftL, shiftB, newIds, idsOfT, List.zipIdx_cons, List.zipIdx_nil, g2, g3, hg, iE_len])
    | (with_reducible refine hK _ ?_; clear hK K)
    | (with_reducible refine askG.mk (fun hg => ?_) (fun hg => ?_) <;> (try simp only [hcS] at hg) <;> (try first | contradiction | (exfalso; omega)))
    | ((with_reducible refine And.intro ?_ ?_); focus (first | (with_reducible show pairsOk _ _ = true; kernel_rfl) | omega | (with_reducible assumption) | kernel_rfl | (exact bytesE_len _) | (exact bytesE_allP _) | (exact rowsE_len _) | (exact rowsE_allP _) | ((simp [allP_nil, allP_cons, persL]; done)) | ((simp [byV]; done)) | (simp; done) | (simp; omega)))
    | ((with_reducible first | show inBlockS _ _ _ _ | show thenS _ _ _ _); simp only [inBlockS, thenS, reduceIte, Nat.reduceEqDiff]))
          all_goals (refine ⟨_, [], rfl, ⟨rfl, ?_, ?_, ?_⟩⟩ <;> simp [go_sem, Nat.add_sub_cancel, Nat.add_one_sub_one, Nat.sub_zero, Nat.mul_one, finP, finPs, viewP, viewPs, finT, finC, finCs, finL, finLs, finBs, viewOk, viewsOk, persL, inT, inC, inCs, inL, inLs, ndB, allP_nil, allP_cons, allP_append])
        · have g3 : decide (x < 1) = false := by simp; omega
          by_cases hx2 : 16 < x
          · have g4 : decide (16 < x) = true := by simp; omega
            obtain rfl := bad (fun h => by omega)
            repeat' (first
    | (with_reducible first | refine AW.seq ?_ | refine AW.block ?_ | refine AW.ret ?_ | refine AW.skip ?_ | refine AW.exit ?_)
    | ((refine AW.cond (by rfl) (fun hc => ?_) (fun hc => ?_)) <;> (try simp only [hcS] at hc) <;> (try first | contradiction | (exfalso; omega)))
    | ((refine AW.condB (by rfl) (fun hc => ?_) (fun hc => ?_)))
    | ((first | (with_reducible refine AW.regionK mo (by kernel_rfl) ?_; intro K hK) | (with_reducible refine aSliceO.l ?_) | (with_reducible refine aBuildO.l ?_) | (with_reducible refine aStoreO.l ?_)); simp (maxSteps := 2000000) only [↓askG_tt, ↓askG_ff, ↓askG_tf, ↓askG_ft, ↓AOp, ↓aBin, ↓aUn, ↓aConv, ↓aAlloc, ↓aBox, ↓aBuild, ↓aLoad, ↓aStore, ↓aNil, ↓aFieldAddr, ↓aField, ↓aExtract, ↓aIndexAddr, ↓aIndex, ↓aSlice, ↓aMake, ↓aBuildSlice, ↓aFrz, ↓aLen, ↓aAppend, ↓aCopy, Nat.reduceAdd, Nat.reduceSub, Nat.reduceMul, Nat.reduceLT, Nat.reduceLeDiff, Nat.reduceEqDiff, Int.reduceToNat, Int.reduceBEq, Int.reduceBNe, Int.reduceEq, Int.reduceNe, Int.reduceNeg, Int.reduceLE, Int.reduceLT, reduceIte, reduceCtorEq, go_sem, Nat.add_sub_cancel, Nat.add_one_sub_one, Nat.sub_zero, Nat.mul_one, shiftP, shiftT, shiftC, shiftL, shiftB, newIds, idsOfT, List.zipIdx_cons, List.zipIdx_nil, g2, g3, g4, hg, iE_len])
    | (with_reducible refine hK _ ?_; clear hK K)
    | (with_reducible refine askG.mk (fun hg => ?_) (fun hg => ?_) <;> (try simp only [hcS] at hg) <;> (try first | contradiction | (exfalso; omega)))
    | ((with_reducible refine And.intro ?_ ?_); focus (first | (with_reducible show pairsOk _ _ = true; kernel_rfl) | omega | (with_reducible assumption) | kernel_rfl | (exact bytesE_len _) | (exact bytesE_allP _) | (exact rowsE_len _) | (exact rowsE_allP _) | ((simp [allP_nil, allP_cons, persL]; done)) | ((simp [byV]; done)) | (simp; done) | (simp; omega)))
    | ((with_reducible first | show inBlockS _ _ _ _ | show thenS _ _ _ _); simp only [inBlockS, thenS, reduceIte, Nat.reduceEqDiff]))
            all_goals (refine ⟨_, [], rfl, ⟨rfl, ?_, ?_, ?_⟩⟩ <;> simp [go_sem, Nat.add_sub_cancel, Nat.add_one_sub_one, Nat.sub_zero, Nat.mul_one, finP, finPs, viewP, viewPs, finT, finC, finCs, finL, finLs, finBs, viewOk, viewsOk, persL, inT, inC, inCs, inL, inLs, ndB, allP_nil, allP_cons, allP_append])
          · have g4 : decide (16 < x) = false := by simp; omega
            obtain ⟨n, rfl⟩ : ∃ n : Nat, x = (n : Int) := ⟨x.toNat, by omega⟩
            have hn17 : n < 17 := by omega
            have m1 := metC_get d hn17
            have m2 := metC_drop d hn17
            have m3 := metC_put d hn17
            have m4 := metC_len d
            by_cases hx3 : (n : Int) ∈ d
            · obtain rfl := bad (fun h => h.2.2 hx3)
              have g5 : decide ((n : Int) ∈ d) = true := by simp [hx3]
              rw [g5] at m1 m2
              repeat' (first
    | (with_reducible first | refine AW.seq ?_ | refine AW.block ?_ | refine AW.ret ?_ | refine AW.skip ?_ | refine AW.exit ?_)
    | ((refine AW.cond (by rfl) (fun hc => ?_) (fun hc => ?_)) <;> (try simp only [hcS] at hc) <;> (try first | contradiction | (exfalso; omega)))
    | ((refine AW.condB (by rfl) (fun hc => ?_) (fun hc => ?_)))
    | ((first | (with_reducible refine AW.regionK mo (by kernel_rfl) ?_; intro K hK) | (with_reducible refine aSliceO.l ?_) | (with_reducible refine aBuildO.l ?_) | (with_reducible refine aStoreO.l ?_)); simp (maxSteps := 2000000) only [↓askG_tt, ↓askG_ff, ↓askG_tf, ↓askG_ft, ↓AOp, ↓aBin, ↓aUn, ↓aConv, ↓aAlloc, ↓aBox, ↓aBuild, ↓aLoad, ↓aStore, ↓aNil, ↓aFieldAddr, ↓aField, ↓aExtract, ↓aIndexAddr, ↓aIndex, ↓aSlice, ↓aMake, ↓aBuildSlice, ↓aFrz, ↓aLen, ↓aAppend, ↓aCopy, Nat.reduceAdd, Nat.reduceSub, Nat.reduceMul, Nat.reduceLT, Nat.reduceLeDiff, Nat.reduceEqDiff, Int.reduceToNat, Int.reduceBEq, Int.reduceBNe, Int.reduceEq, Int.reduceNe, Int.reduceNeg, Int.reduceLE, Int.reduceLT, reduceIte, reduceCtorEq, go_sem, Nat.add_sub_cancel, Nat.add_one_sub_one, Nat.sub_zero, Nat.mul_one, shiftP, shiftT, shiftC, shiftL, shiftB, newIds, idsOfT, List.zipIdx_cons, List.zipIdx_nil, g2, g3, g4, hg, iE_len, m1, m2, m4])
    | (with_reducible refine hK _ ?_; clear hK K)
    | (with_reducible refine askG.mk (fun hg => ?_) (fun hg => ?_) <;> (try simp only [hcS] at hg) <;> (try first | contradiction | (exfalso; omega)))
    | ((with_reducible refine And.intro ?_ ?_); focus (first | (with_reducible show pairsOk _ _ = true; kernel_rfl) | omega | (with_reducible assumption) | kernel_rfl | (exact bytesE_len _) | (exact bytesE_allP _) | (exact rowsE_len _) | (exact rowsE_allP _) | ((simp [allP_nil, allP_cons, persL]; done)) | ((simp [byV]; done)) | (simp; done) | (simp; omega)))
    | ((with_reducible first | show inBlockS _ _ _ _ | show thenS _ _ _ _); simp only [inBlockS, thenS, reduceIte, Nat.reduceEqDiff]))
              all_goals (refine ⟨_, [], rfl, ⟨rfl, ?_, ?_, ?_⟩⟩ <;> simp [go_sem, Nat.add_sub_cancel, Nat.add_one_sub_one, Nat.sub_zero, Nat.mul_one, finP, finPs, viewP, viewPs, finT, finC, finCs, finL, finLs, finBs, viewOk, viewsOk, persL, inT, inC, inCs, inL, inLs, ndB, allP_nil, allP_cons, allP_append])
            · have g5 : decide ((n : Int) ∈ d) = false := by simp [hx3]
              rw [g5] at m1 m2
              have hok2 := okn ⟨by omega, by omega, hx3⟩
              repeat' (first
    | (with_reducible first | refine AW.seq ?_ | refine AW.block ?_ | refine AW.ret ?_ | refine AW.skip ?_ | refine AW.exit ?_)
    | ((refine AW.cond (by rfl) (fun hc => ?_) (fun hc => ?_)) <;> (try simp only [hcS] at hc) <;> (try first | contradiction | (exfalso; omega)))
    | ((refine AW.condB (by rfl) (fun hc => ?_) (fun hc => ?_)))
    | ((first | (with_reducible refine AW.regionK mo (by kernel_rfl) ?_; intro K hK) | (with_reducible refine aSliceO.l ?_) | (with_reducible refine aBuildO.l ?_) | (with_reducible refine aStoreO.l ?_)); simp (maxSteps := 2000000) only [↓askG_tt, ↓askG_ff, ↓askG_tf, ↓askG_ft, ↓AOp, ↓aBin, ↓aUn, ↓aConv, ↓aAlloc, ↓aBox, ↓aBuild, ↓aLoad, ↓aStore, ↓aNil, ↓aFieldAddr, ↓aField, ↓aExtract, ↓aIndexAddr, ↓aIndex, ↓aSlice, ↓aMake, ↓aBuildSlice, ↓aFrz, ↓aLen, ↓aAppend, ↓aCopy, Nat.reduceAdd, Nat.reduceSub, Nat.reduceMul, Nat.reduceLT, Nat.reduceLeDiff, Nat.reduceEqDiff, Int.reduceToNat, Int.reduceBEq, Int.reduceBNe, Int.reduceEq, Int.reduceNe, Int.reduceNeg, Int.reduceLE, Int.reduceLT, reduceIte, reduceCtorEq, go_sem, Nat.add_sub_cancel, Nat.add_one_sub_one, Nat.sub_zero, Nat.mul_one, shiftP, shiftT, shiftC, shiftL, shiftB, newIds, idsOfT, List.zipIdx_cons, List.zipIdx_nil, g2, g3, g4, hg, iE_len, m1, m2, m3, m4])
    | (with_reducible refine hK _ ?_; clear hK K)
    | (with_reducible refine askG.mk (fun hg => ?_) (fun hg => ?_) <;> (try simp only [hcS] at hg) <;> (try first | contradiction | (exfalso; omega)))
    | ((with_reducible refine And.intro ?_ ?_); focus (first | (with_reducible show pairsOk _ _ = true; kernel_rfl) | omega | (with_reducible assumption) | kernel_rfl | (exact bytesE_len _) | (exact bytesE_allP _) | (exact rowsE_len _) | (exact rowsE_allP _) | ((simp [allP_nil, allP_cons, persL]; done)) | ((simp [byV]; done)) | (simp; done) | (simp; omega)))
    | ((with_reducible first | show inBlockS _ _ _ _ | show thenS _ _ _ _); simp only [inBlockS, thenS, reduceIte, Nat.reduceEqDiff]))
              rw [wrap_i64 _ (by omega)]
              exact ⟨[0, 1], i + 1, by omega, ⟨by omega, hok2⟩, ⟨by simp, by (simp [leEs_one, leP, lePs, inP, inPs, inEs, leTs, leT, leC, leCs, leL, leLs, leBs, overT, anys, inTs, inT, inCs, inC, inLs, inL, inBs, hOf, undefT]; try omega), by simp [leEs_one, leP, lePs, inP, inPs, inEs, leTs, leT, leC, leCs, leL, leLs, leBs, overT, anys, inTs, inT, inCs, inC, inLs, inL, inBs, hOf, undefT, iE_allP, htk, m3]⟩⟩
      · obtain rfl : i = ch.length := by omega
        have g2 : decide ((ch.length : Int) < (ch.length : Int)) = false := by simp
        obtain rfl : e = 0 := by
          rcases he with ⟨q, _⟩ | ⟨_, q⟩
          · exact q
          · exact absurd ⟨by omega, by omega, hok⟩ q
        repeat' (first
    | (with_reducible first | refine AW.seq ?_ | refine AW.block ?_ | refine AW.ret ?_ | refine AW.skip ?_ | refine AW.exit ?_)
    | ((refine AW.cond (by rfl) (fun hc => ?_) (fun hc => ?_)) <;> (try simp only [hcS] at hc) <;> (try first | contradiction | (exfalso; omega)))
    | ((refine AW.condB (by rfl) (fun hc => ?_) (fun hc => ?_)))
    | ((first | (with_reducible refine AW.regionK mo (by kernel_rfl) ?_; intro K hK) | (with_reducible refine aSliceO.l ?_) | (with_reducible refine aBuildO.l ?_) | (with_reducible refine aStoreO.l ?_)); simp (maxSteps := 2000000) only [↓askG_tt, ↓askG_ff, ↓askG_tf, ↓askG_ft, ↓AOp, ↓aBin, ↓aUn, ↓aConv, ↓aAlloc, ↓aBox, ↓aBuild, ↓aLoad, ↓aStore, ↓aNil, ↓aFieldAddr, ↓aField, ↓aExtract, ↓aIndexAddr, ↓aIndex, ↓aSlice, ↓aMake, ↓aBuildSlice, ↓aFrz, ↓aLen, ↓aAppend, ↓aCopy, Nat.reduceAdd, Nat.reduceSub, Nat.reduceMul, Nat.reduceLT, Nat.reduceLeDiff, Nat.reduceEqDiff, Int.reduceToNat, Int.reduceBEq, Int.reduceBNe, Int.reduceEq, Int.reduceNe, Int.reduceNeg, Int.reduceLE, Int.reduceLT, reduceIte, reduceCtorEq, go_sem, Nat.add_sub_cancel, Nat.add_one_sub_one, Nat.sub_zero, Nat.mul_one, shiftP, shiftT, shiftC, shiftL, shiftB, newIds, idsOfT, List.zipIdx_cons, List.zipIdx_nil, g2])
    | (with_reducible refine hK _ ?_; clear hK K)
    | (with_reducible refine askG.mk (fun hg => ?_) (fun hg => ?_) <;> (try simp only [hcS] at hg) <;> (try first | contradiction | (exfalso; omega)))
    | ((with_reducible refine And.intro ?_ ?_); focus (first | (with_reducible show pairsOk _ _ = true; kernel_rfl) | omega | (with_reducible assumption) | kernel_rfl | (exact bytesE_len _) | (exact bytesE_allP _) | (exact rowsE_len _) | (exact rowsE_allP _) | ((simp [allP_nil, allP_cons, persL]; done)) | ((simp [byV]; done)) | (simp; done) | (simp; omega)))
    | ((with_reducible first | show inBlockS _ _ _ _ | show thenS _ _ _ _); simp only [inBlockS, thenS, reduceIte, Nat.reduceEqDiff]))
        all_goals (refine ⟨_, [], rfl, ⟨rfl, ?_, ?_, ?_⟩⟩ <;> simp [go_sem, Nat.add_sub_cancel, Nat.add_one_sub_one, Nat.sub_zero, Nat.mul_one, finP, finPs, viewP, viewPs, finT, finC, finCs, finL, finLs, finBs, viewOk, viewsOk, persL, inT, inC, inCs, inL, inLs, ndB, allP_nil, allP_cons, allP_append])
end Go.Proofs.YtbcclcbmbejnmaaDoor
