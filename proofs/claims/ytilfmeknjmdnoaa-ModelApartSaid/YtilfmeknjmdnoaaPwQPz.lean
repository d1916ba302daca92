/- Queues as plain values: letters put in. -/
import Derived.Test.YtilfmeknjmdnoaaPwQz
namespace Go.Proofs.Ytilfmeknjmdnoaa
set_option linter.unusedSimpArgs false
set_option linter.unusedVariables false
open Go Go.RowKit
attribute [local congr] AW_congr AOs_congr aCall_congr aCall1_congr aSem_congr aSliceO_congr aBuildO_congr aStoreO_congr
attribute [local go_sem] bytesE_length letsE_length bytesE_get letsE_get Option.map_map exBytesE str_beq shiftE_bytes shiftE_lets bytesE_take_self letsE_take_self
set_option maxRecDepth 100000
def knownP (c : Cf) (fr dst : Int) (text : List UInt8) : Prop := 0 ≤ fr ∧ fr < c.clients ∧ 0 ≤ dst ∧ dst < c.clients ∧ text.length ≤ 64
instance (c : Cf) (fr dst : Int) (text : List UInt8) : Decidable (knownP c fr dst text) := by unfold knownP; infer_instance
def putQ (c : Cf) (q : Que) (fr dst : Int) (text : List UInt8) : Que :=
  if ¬ knownP c fr dst text ∨ q.next = 18446744073709551615 ∨ c.queue ≤ (q.items.length : Int) then q else ⟨q.next + 1, q.items ++ [⟨false, fr, dst, q.next, text⟩]⟩
def putK (c : Cf) (q : Que) (fr dst : Int) (text : List UInt8) : Int :=
  if ¬ knownP c fr dst text then 3 else if q.next = 18446744073709551615 then 4 else if c.queue ≤ (q.items.length : Int) then 2 else 1
theorem put_pc (c : Cf) (q : Que) (fr dst : Int) (text : List UInt8) (hn : q.next ≤ 18446744073709551615) (hq : q.items.length * 56 ≤ 140737488351232) (ht : text.length ≤ 9223372036854775807) :
    PC Try.prog 33 [cfT c, queT q, intT fr, intT dst, bytesT text] [] (.tup [queT (putQ c q fr dst text), intT (putK c q fr dst text)]) := by
  obtain ⟨next, items⟩ := q
  refine PC.of_body Try.func33 rfl ?_
  intro Γ _ _
  simp only [Try.ntmps33, List.length_cons, List.length_nil, Nat.reduceAdd, Nat.reduceSub, List.replicate_succ, List.replicate_zero, List.cons_append, List.nil_append]
  simp only at hn hq
  simp only [cfT, cfC]
  repeat' (first
    | (with_reducible first | refine AW.seq ?_ | refine AW.block ?_ | refine AW.ret ?_ | refine AW.skip ?_ | refine AW.exit ?_)
    | ((refine AW.cond (by rfl) (fun hc => ?_) (fun hc => ?_)) <;> (try simp only [hcS] at hc) <;> (try first | contradiction | (exfalso; omega)))
    | ((refine AW.condB (by rfl) (fun hc => ?_) (fun hc => ?_)))
    | ((first | (refine aCall.pers (client_pc c fr) fnOk48 ?_ ?_ ?_ ?_; (focus rfl); (focus rfl); (focus (simp [persT, persL, cfC]; done))) | (refine aCall.pers (client_pc c dst) fnOk48 ?_ ?_ ?_ ?_; (focus rfl); (focus rfl); (focus (simp [persT, persL, cfC]; done))) | (refine aCall.pers (cloneB_pc text (by omega)) fnOk49 ?_ ?_ ?_ ?_; (focus rfl); (focus rfl); (focus (simp [persT, persL, cfC]; done))) | (refine aCall.pers (cloneL_pc items (by omega)) fnOk41 ?_ ?_ ?_ ?_; (focus rfl); (focus rfl); (focus (simp [persT, persL, cfC]; done))) | (with_reducible refine AW.regionK mo (by kernel_rfl) ?_; intro K hK) | (with_reducible refine aSliceO.l ?_) | (with_reducible refine aBuildO.l ?_) | (with_reducible refine aStoreO.l ?_)); simp (maxSteps := 2000000) only [↓askG_tt, ↓askG_ff, ↓askG_tf, ↓askG_ft, ↓AOp, ↓aBin, ↓aUn, ↓aConv, ↓aAlloc, ↓aBox, ↓aBuild, ↓aLoad, ↓aStore, ↓aNil, ↓aFieldAddr, ↓aField, ↓aExtract, ↓aIndexAddr, ↓aIndex, ↓aSlice, ↓aMake, ↓aBuildSlice, ↓aFrz, ↓aLen, ↓aAppend, ↓aCopy, Nat.reduceAdd, Nat.reduceSub, Nat.reduceMul, Nat.reduceLT, Nat.reduceLeDiff, Nat.reduceEqDiff, Int.reduceToNat, Int.reduceBEq, Int.reduceBNe, Int.reduceEq, Int.reduceNe, Int.reduceNeg, Int.reduceLE, Int.reduceLT, reduceIte, reduceCtorEq, go_sem, Nat.add_sub_cancel, Nat.add_one_sub_one, Nat.sub_zero, shiftP, shiftT, shiftC, shiftL, shiftB, newIds, idsOfT, List.zipIdx_cons, List.zipIdx_nil, cfC])
    | (with_reducible refine hK _ ?_; clear hK K)
    | (with_reducible refine askG.mk (fun hg => ?_) (fun hg => ?_) <;> (try simp only [hcS] at hg) <;> (try first | contradiction | (exfalso; omega)))
    | ((with_reducible refine And.intro ?_ ?_); focus (first | (with_reducible show pairsOk _ _ = true; kernel_rfl) | omega | (with_reducible assumption) | kernel_rfl | (exact bytesE_len _) | (exact letsE_len _) | (intro r hr; simp only [List.mem_cons] at hr; rcases hr with rfl | hr <;> first | rfl | exact letsE_len _ _ hr) | (simp; done) | (simp; omega)))
    | ((with_reducible first | show inBlockS _ _ _ _ | show thenS _ _ _ _); simp only [inBlockS, thenS, reduceIte, Nat.reduceEqDiff]))
  all_goals first
    | (have hk : ¬ knownP c fr dst text := by unfold knownP; omega
       have e1 : putQ c ⟨next, items⟩ fr dst text = ⟨next, items⟩ := by simp [putQ, hk]
       have e2 : putK c ⟨next, items⟩ fr dst text = 3 := by simp [putK, hk]
       rw [e1, e2]; refine ⟨_, [], rfl, ⟨rfl, ?_, ?_, ?_⟩⟩ <;> simp [go_sem, Nat.add_sub_cancel, Nat.add_one_sub_one, Nat.sub_zero, finP, finPs, viewP, viewPs, finT, finC, finCs, finL, finLs, finBs, viewOk, viewsOk, persL, inT, inC, inCs, inL, inLs, ndB, allP_nil, allP_cons, allP_append]; done)
    | (have hk : knownP c fr dst text := by unfold knownP; omega
       first
       | (have h1 : next = 18446744073709551615 := by omega
          have e1 : putQ c ⟨next, items⟩ fr dst text = ⟨next, items⟩ := by simp [putQ, hk, h1]
          have e2 : putK c ⟨next, items⟩ fr dst text = 4 := by simp [putK, hk, h1]
          rw [e1, e2]; refine ⟨_, [], rfl, ⟨rfl, ?_, ?_, ?_⟩⟩ <;> simp [go_sem, Nat.add_sub_cancel, Nat.add_one_sub_one, Nat.sub_zero, finP, finPs, viewP, viewPs, finT, finC, finCs, finL, finLs, finBs, viewOk, viewsOk, persL, inT, inC, inCs, inL, inLs, ndB, allP_nil, allP_cons, allP_append]; done)
       | (have h1 : ¬ next = 18446744073709551615 := by omega
          have h2 : c.queue ≤ (items.length : Int) := by omega
          have e1 : putQ c ⟨next, items⟩ fr dst text = ⟨next, items⟩ := by simp [putQ, hk, h1, h2]
          have e2 : putK c ⟨next, items⟩ fr dst text = 2 := by simp [putK, hk, h1, h2]
          rw [e1, e2]; refine ⟨_, [], rfl, ⟨rfl, ?_, ?_, ?_⟩⟩ <;> simp [go_sem, Nat.add_sub_cancel, Nat.add_one_sub_one, Nat.sub_zero, finP, finPs, viewP, viewPs, finT, finC, finCs, finL, finLs, finBs, viewOk, viewsOk, persL, inT, inC, inCs, inL, inLs, ndB, allP_nil, allP_cons, allP_append]; done)
       | (have h1 : ¬ next = 18446744073709551615 := by omega
          have h2 : ¬ c.queue ≤ (items.length : Int) := by omega
          have e1 : putQ c ⟨next, items⟩ fr dst text = ⟨next + 1, items ++ [⟨false, fr, dst, next, text⟩]⟩ := by simp [putQ, hk, h1, h2]
          have e2 : putK c ⟨next, items⟩ fr dst text = 1 := by simp [putK, hk, h1, h2]
          rw [e1, e2, wrap_u64 _ (by omega)]
          refine ⟨_, [], rfl, ⟨rfl, ?_, ?_, ?_⟩⟩ <;> simp [go_sem, Nat.add_sub_cancel, Nat.add_one_sub_one, Nat.sub_zero, finP, finPs, viewP, viewPs, finT, finC, finCs, finL, finLs, finBs, viewOk, viewsOk, persL, inT, inC, inCs, inL, inLs, ndB, allP_nil, allP_cons, allP_append, letC, letsE_snoc]
          all_goals exact fun e he l hl => letsE_allP (items ++ [⟨false, fr, dst, next, text⟩]) e (by simpa [letsE_snoc, letC] using he) l hl))
theorem refPut_pc (c : Cf) (q : Que) (fr dst : Int) (text : List UInt8) (hn : q.next ≤ 18446744073709551615) (hq : q.items.length * 56 ≤ 140737488351232) (ht : text.length ≤ 9223372036854775807) :
    PC Try.prog 37 [cfT c, queT q, intT fr, intT dst, bytesT text] [] (.tup [queT (putQ c q fr dst text), intT (putK c q fr dst text)]) := by
  obtain ⟨next, items⟩ := q
  refine PC.of_body Try.func37 rfl ?_
  intro Γ _ _
  simp only [Try.ntmps37, List.length_cons, List.length_nil, Nat.reduceAdd, Nat.reduceSub, List.replicate_succ, List.replicate_zero, List.cons_append, List.nil_append]
  simp only at hn hq
  simp only [cfT, cfC]
  repeat' (first
    | (with_reducible first | refine AW.seq ?_ | refine AW.block ?_ | refine AW.ret ?_ | refine AW.skip ?_ | refine AW.exit ?_)
    | ((refine AW.cond (by rfl) (fun hc => ?_) (fun hc => ?_)) <;> (try simp only [hcS] at hc) <;> (try first | contradiction | (exfalso; omega)))
    | ((refine AW.condB (by rfl) (fun hc => ?_) (fun hc => ?_)))
    | ((first | (with_reducible refine AW.regionK mo (by kernel_rfl) ?_; intro K hK) | (with_reducible refine aSliceO.l ?_) | (with_reducible refine aBuildO.l ?_) | (with_reducible refine aStoreO.l ?_)); simp (maxSteps := 2000000) only [↓askG_tt, ↓askG_ff, ↓askG_tf, ↓askG_ft, ↓AOp, ↓aBin, ↓aUn, ↓aConv, ↓aAlloc, ↓aBox, ↓aBuild, ↓aLoad, ↓aStore, ↓aNil, ↓aFieldAddr, ↓aField, ↓aExtract, ↓aIndexAddr, ↓aIndex, ↓aSlice, ↓aMake, ↓aBuildSlice, ↓aFrz, ↓aLen, ↓aAppend, ↓aCopy, Nat.reduceAdd, Nat.reduceSub, Nat.reduceMul, Nat.reduceLT, Nat.reduceLeDiff, Nat.reduceEqDiff, Int.reduceToNat, Int.reduceBEq, Int.reduceBNe, Int.reduceEq, Int.reduceNe, Int.reduceNeg, Int.reduceLE, Int.reduceLT, reduceIte, reduceCtorEq, go_sem, Nat.add_sub_cancel, Nat.add_one_sub_one, Nat.sub_zero, shiftP, shiftT, shiftC, shiftL, shiftB, newIds, idsOfT, List.zipIdx_cons, List.zipIdx_nil, cfC])
    | (with_reducible refine hK _ ?_; clear hK K)
    | (with_reducible refine askG.mk (fun hg => ?_) (fun hg => ?_) <;> (try simp only [hcS] at hg) <;> (try first | contradiction | (exfalso; omega)))
    | ((with_reducible refine And.intro ?_ ?_); focus (first | (with_reducible show pairsOk _ _ = true; kernel_rfl) | omega | (with_reducible assumption) | kernel_rfl | (exact bytesE_len _) | (exact letsE_len _) | (intro r hr; simp only [List.mem_cons] at hr; rcases hr with rfl | hr <;> first | rfl | exact letsE_len _ _ hr) | (simp; done) | (simp; omega)))
    | ((with_reducible first | show inBlockS _ _ _ _ | show thenS _ _ _ _); simp only [inBlockS, thenS, reduceIte, Nat.reduceEqDiff]))
  all_goals first
    | (have hk : ¬ knownP c fr dst text := by unfold knownP; omega
       have e1 : putQ c ⟨next, items⟩ fr dst text = ⟨next, items⟩ := by simp [putQ, hk]
       have e2 : putK c ⟨next, items⟩ fr dst text = 3 := by simp [putK, hk]
       rw [e1, e2]; refine ⟨_, [], rfl, ⟨rfl, ?_, ?_, ?_⟩⟩ <;> simp [go_sem, Nat.add_sub_cancel, Nat.add_one_sub_one, Nat.sub_zero, finP, finPs, viewP, viewPs, finT, finC, finCs, finL, finLs, finBs, viewOk, viewsOk, persL, inT, inC, inCs, inL, inLs, ndB, allP_nil, allP_cons, allP_append]; done)
    | (have hk : knownP c fr dst text := by unfold knownP; omega
       first
       | (have h1 : next = 18446744073709551615 := by omega
          have e1 : putQ c ⟨next, items⟩ fr dst text = ⟨next, items⟩ := by simp [putQ, hk, h1]
          have e2 : putK c ⟨next, items⟩ fr dst text = 4 := by simp [putK, hk, h1]
          rw [e1, e2]; refine ⟨_, [], rfl, ⟨rfl, ?_, ?_, ?_⟩⟩ <;> simp [go_sem, Nat.add_sub_cancel, Nat.add_one_sub_one, Nat.sub_zero, finP, finPs, viewP, viewPs, finT, finC, finCs, finL, finLs, finBs, viewOk, viewsOk, persL, inT, inC, inCs, inL, inLs, ndB, allP_nil, allP_cons, allP_append]; done)
       | (have h1 : ¬ next = 18446744073709551615 := by omega
          have h2 : c.queue ≤ (items.length : Int) := by omega
          have e1 : putQ c ⟨next, items⟩ fr dst text = ⟨next, items⟩ := by simp [putQ, hk, h1, h2]
          have e2 : putK c ⟨next, items⟩ fr dst text = 2 := by simp [putK, hk, h1, h2]
          rw [e1, e2]; refine ⟨_, [], rfl, ⟨rfl, ?_, ?_, ?_⟩⟩ <;> simp [go_sem, Nat.add_sub_cancel, Nat.add_one_sub_one, Nat.sub_zero, finP, finPs, viewP, viewPs, finT, finC, finCs, finL, finLs, finBs, viewOk, viewsOk, persL, inT, inC, inCs, inL, inLs, ndB, allP_nil, allP_cons, allP_append]; done)
       | (have h1 : ¬ next = 18446744073709551615 := by omega
          have h2 : ¬ c.queue ≤ (items.length : Int) := by omega
          have e1 : putQ c ⟨next, items⟩ fr dst text = ⟨next + 1, items ++ [⟨false, fr, dst, next, text⟩]⟩ := by simp [putQ, hk, h1, h2]
          have e2 : putK c ⟨next, items⟩ fr dst text = 1 := by simp [putK, hk, h1, h2]
          rw [e1, e2, wrap_u64 _ (by omega)]
          refine ⟨_, [], rfl, ⟨rfl, ?_, ?_, ?_⟩⟩ <;> simp [go_sem, Nat.add_sub_cancel, Nat.add_one_sub_one, Nat.sub_zero, finP, finPs, viewP, viewPs, finT, finC, finCs, finL, finLs, finBs, viewOk, viewsOk, persL, inT, inC, inCs, inL, inLs, ndB, allP_nil, allP_cons, allP_append, letC, letsE_snoc]
          all_goals exact fun e he l hl => letsE_allP (items ++ [⟨false, fr, dst, next, text⟩]) e (by simpa [letsE_snoc, letC] using he) l hl))
end Go.Proofs.Ytilfmeknjmdnoaa
