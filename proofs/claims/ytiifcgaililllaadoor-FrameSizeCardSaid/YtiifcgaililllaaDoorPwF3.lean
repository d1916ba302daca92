/- PwFa, PwFb, PwFc, PwFd. -/
import Derived.Test.YtiifcgaililllaaDoorPwF2
import Derived.Test.YtiifcgaililllaaDoorPwF1
/- frames: what may be. -/
namespace Go.Proofs.YtiifcgaililllaaDoor
set_option linter.unusedSimpArgs false
set_option linter.unusedVariables false
open Go Go.RowKit
attribute [local congr] AW_congr AOs_congr aCall_congr aCall1_congr aSem_congr aSliceO_congr aBuildO_congr aStoreO_congr
attribute [local go_sem] uC_own uC_ids uC_shift uC_frz uC_length tabK_uC ub_v bytes_set bytesE_one1 bytesE_consr bytesE_append bytesE_drop bytesE_take rowsE_length rowsE_get Option.map_map bytesE_length bytesE_get shiftE_bytes shiftE_rows exBytesE str_beq bytesE_take_self List.take_length
set_option maxRecDepth 100000

attribute [local simp] leEs_bytes leEs_iE iE_allP
/-- A frame: from whom, to whom, stamp, kind, number, body. -/
structure Frm where
  fm : Int
  tw : Int
  st : Stm
  kd : Int
  sq : Int
  bd : List UInt8
def frmC (f : Frm) : List L := [.sc (.int .i64 f.fm), .sc (.int .i64 f.tw), .sc (.int .u64 (f.st.ep : Int)), .sc (.int .u64 (f.st.ro : Int)), .sl (iE f.st.ch), .sc (.int .i64 f.kd), .sc (.int .i64 f.sq), bytesL f.bd]
abbrev frmT (f : Frm) : T := .agg (frmC f)
def okN (n : Int) : Prop := 0 ≤ n ∧ n ≤ 24
def okF (f : Frm) : Prop := okN f.fm ∧ okN f.tw ∧ ¬ f.fm = f.tw ∧ okC f.st.ch ∧ (f.kd = 1 ∨ f.kd = 2) ∧ 0 ≤ f.sq ∧ f.sq ≤ 2147483647 ∧ (f.kd = 2 → f.bd.length = 0)
def ChkF (f : Frm) (e : Int) : Prop := (okF f ∧ f.bd.length ≤ 65536 ∧ e = 0) ∨ (okF f ∧ 65536 < f.bd.length ∧ e = 2) ∨ (¬ okF f ∧ e = 1)
theorem chkF_ex (f : Frm) : ∃ e, ChkF f e := by
  by_cases h : okF f
  · by_cases h2 : f.bd.length ≤ 65536
    · exact ⟨0, .inl ⟨h, h2, rfl⟩⟩
    · exact ⟨2, .inr (.inl ⟨h, by omega, rfl⟩)⟩
  · exact ⟨1, .inr (.inr ⟨h, rfl⟩)⟩
theorem ChkF.bad {f : Frm} {e : Int} (h : ChkF f e) : ¬ okF f → e = 1 := fun q => by
  rcases h with ⟨p, _⟩ | ⟨p, _⟩ | ⟨_, p⟩
  · exact absurd p q
  · exact absurd p q
  · exact p
theorem ChkF.long {f : Frm} {e : Int} (h : ChkF f e) : okF f → 65536 < f.bd.length → e = 2 := fun q r => by
  rcases h with ⟨_, p, _⟩ | ⟨_, _, p⟩ | ⟨p, _⟩
  · omega
  · exact p
  · exact absurd q p
theorem ChkF.good {f : Frm} {e : Int} (h : ChkF f e) : okF f → f.bd.length ≤ 65536 → e = 0 := fun q r => by
  rcases h with ⟨_, _, p⟩ | ⟨_, p, _⟩ | ⟨p, _⟩
  · exact p
  · omega
  · exact absurd q p
theorem node_pc (n : Int) (b : Bool) (hb : b = true ↔ okN n) : PC Tryd.prog 26 [.leaf (.sc (.int .i64 n))] [] (boolT b) := by
  by_cases h1 : 0 ≤ n
  · have g1 : decide (0 ≤ n) = true := by simp; omega
    by_cases h2 : n ≤ 24
    · have g2 : decide (n ≤ 24) = true := by simp; omega
      obtain rfl : b = true := hb.2 ⟨h1, h2⟩
      clear hb
      refine PC.of_body Tryd.func26 rfl ?_
      intro Γ _ _
      simp only [Tryd.ntmps26, List.length_cons, List.length_nil, Nat.reduceAdd, Nat.reduceSub, List.replicate_succ, List.replicate_zero, List.cons_append, List.nil_append]
      repeat' (first
    | (with_reducible first | refine AW.seq ?_ | refine AW.block ?_ | refine AW.ret ?_ | refine AW.skip ?_ | refine AW.exit ?_)
    | ((refine AW.cond (by rfl) (fun hc => ?_) (fun hc => ?_)) <;> (try simp only [hcS] at hc) <;> (try first | contradiction | (exfalso; omega)))
    | ((refine AW.condB (by rfl) (fun hc => ?_) (fun hc => ?_)))
    | ((first | (with_reducible refine AW.regionK mo (by kernel_rfl) ?_; intro K hK) | (with_reducible refine aSliceO.l ?_) | (with_reducible refine aBuildO.l ?_) | (with_reducible refine aStoreO.l ?_)); simp (maxSteps := 2000000) only [↓askG_tt, ↓askG_ff, ↓askG_tf, ↓askG_ft, ↓AOp, ↓aBin, ↓aUn, ↓aConv, ↓aAlloc, ↓aBox, ↓aBuild, ↓aLoad, ↓aStore, ↓aNil, ↓aFieldAddr, ↓aField, ↓aExtract, ↓aIndexAddr, ↓aIndex, ↓aSlice, ↓aMake, ↓aBuildSlice, ↓aFrz, ↓aLen, ↓aAppend, ↓aCopy, Nat.reduceAdd, Nat.reduceSub, Nat.reduceMul, Nat.reduceLT, Nat.reduceLeDiff, Nat.reduceEqDiff, Int.reduceToNat, Int.reduceBEq, Int.reduceBNe, Int.reduceEq, Int.reduceNe, Int.reduceNeg, Int.reduceLE, Int.reduceLT, reduceIte, reduceCtorEq, go_sem, Nat.add_sub_cancel, Nat.add_one_sub_one, Nat.sub_zero, Nat.mul_one, shiftP, shiftT, shiftC, shiftL, shiftB, newIds, idsOfT, List.zipIdx_cons, List.zipIdx_nil, g1, g2])
    | (with_reducible refine hK _ ?_; clear hK K)
    | (with_reducible refine askG.mk (fun hg => ?_) (fun hg => ?_) <;> (try simp only [hcS] at hg) <;> (try first | contradiction | (exfalso; omega)))
    | ((with_reducible refine And.intro ?_ ?_); focus (first | (with_reducible show pairsOk _ _ = true; kernel_rfl) | omega | (with_reducible assumption) | kernel_rfl | (exact bytesE_len _) | (exact iE_one _) | (exact iE_allP _) | (exact bytesE_allP _) | (exact rowsE_len _) | (exact rowsE_allP _) | ((simp [allP_nil, allP_cons, persL]; done)) | ((simp [byV]; done)) | (simp; done) | (simp; omega)))
    | ((with_reducible first | show inBlockS _ _ _ _ | show thenS _ _ _ _); simp only [inBlockS, thenS, reduceIte, Nat.reduceEqDiff]))
      all_goals (refine ⟨_, [], rfl, ⟨rfl, ?_, ?_, ?_⟩⟩ <;> simp [go_sem, Nat.add_sub_cancel, Nat.add_one_sub_one, Nat.sub_zero, Nat.mul_one, finP, finPs, viewP, viewPs, finT, finC, finCs, finL, finLs, finBs, viewOk, viewsOk, persL, inT, inC, inCs, inL, inLs, ndB, allP_nil, allP_cons, allP_append])
    · have g2 : decide (n ≤ 24) = false := by simp; omega
      obtain rfl : b = false := by
        rcases b with _ | _
        · rfl
        · exact absurd (hb.1 rfl).2 h2
      clear hb
      refine PC.of_body Tryd.func26 rfl ?_
      intro Γ _ _
      simp only [Tryd.ntmps26, List.length_cons, List.length_nil, Nat.reduceAdd, Nat.reduceSub, List.replicate_succ, List.replicate_zero, List.cons_append, List.nil_append]
      repeat' (first
    | (with_reducible first | refine AW.seq ?_ | refine AW.block ?_ | refine AW.ret ?_ | refine AW.skip ?_ | refine AW.exit ?_)
    | ((refine AW.cond (by rfl) (fun hc => ?_) (fun hc => ?_)) <;> (try simp only [hcS] at hc) <;> (try first | contradiction | (exfalso; omega)))
    | ((refine AW.condB (by rfl) (fun hc => ?_) (fun hc => ?_)))
    | ((first | (with_reducible refine AW.regionK mo (by kernel_rfl) ?_; intro K hK) | (with_reducible refine aSliceO.l ?_) | (with_reducible refine aBuildO.l ?_) | (with_reducible refine aStoreO.l ?_)); simp (maxSteps := 2000000) only [↓askG_tt, ↓askG_ff, ↓askG_tf, ↓askG_ft, ↓AOp, ↓aBin, ↓aUn, ↓aConv, ↓aAlloc, ↓aBox, ↓aBuild, ↓aLoad, ↓aStore, ↓aNil, ↓aFieldAddr, ↓aField, ↓aExtract, ↓aIndexAddr, ↓aIndex, ↓aSlice, ↓aMake, ↓aBuildSlice, ↓aFrz, ↓aLen, ↓aAppend, ↓aCopy, Nat.reduceAdd, Nat.reduceSub, Nat.reduceMul, Nat.reduceLT, Nat.reduceLeDiff, Nat.reduceEqDiff, Int.reduceToNat, Int.reduceBEq, Int.reduceBNe, Int.reduceEq, Int.reduceNe, Int.reduceNeg, Int.reduceLE, Int.reduceLT, reduceIte, reduceCtorEq, go_sem, Nat.add_sub_cancel, Nat.add_one_sub_one, Nat.sub_zero, Nat.mul_one, shiftP, shiftT, shiftC, shiftL, shiftB, newIds, idsOfT, List.zipIdx_cons, List.zipIdx_nil, g1, g2])
    | (with_reducible refine hK _ ?_; clear hK K)
    | (with_reducible refine askG.mk (fun hg => ?_) (fun hg => ?_) <;> (try simp only [hcS] at hg) <;> (try first | contradiction | (exfalso; omega)))
    | ((with_reducible refine And.intro ?_ ?_); focus (first | (with_reducible show pairsOk _ _ = true; kernel_rfl) | omega | (with_reducible assumption) | kernel_rfl | (exact bytesE_len _) | (exact iE_one _) | (exact iE_allP _) | (exact bytesE_allP _) | (exact rowsE_len _) | (exact rowsE_allP _) | ((simp [allP_nil, allP_cons, persL]; done)) | ((simp [byV]; done)) | (simp; done) | (simp; omega)))
    | ((with_reducible first | show inBlockS _ _ _ _ | show thenS _ _ _ _); simp only [inBlockS, thenS, reduceIte, Nat.reduceEqDiff]))
      all_goals (refine ⟨_, [], rfl, ⟨rfl, ?_, ?_, ?_⟩⟩ <;> simp [go_sem, Nat.add_sub_cancel, Nat.add_one_sub_one, Nat.sub_zero, Nat.mul_one, finP, finPs, viewP, viewPs, finT, finC, finCs, finL, finLs, finBs, viewOk, viewsOk, persL, inT, inC, inCs, inL, inLs, ndB, allP_nil, allP_cons, allP_append])
  · have g1 : decide (0 ≤ n) = false := by simp; omega
    obtain rfl : b = false := by
      rcases b with _ | _
      · rfl
      · exact absurd (hb.1 rfl).1 h1
    clear hb
    refine PC.of_body Tryd.func26 rfl ?_
    intro Γ _ _
    simp only [Tryd.ntmps26, List.length_cons, List.length_nil, Nat.reduceAdd, Nat.reduceSub, List.replicate_succ, List.replicate_zero, List.cons_append, List.nil_append]
    repeat' (first
    | (with_reducible first | refine AW.seq ?_ | refine AW.block ?_ | refine AW.ret ?_ | refine AW.skip ?_ | refine AW.exit ?_)
    | ((refine AW.cond (by rfl) (fun hc => ?_) (fun hc => ?_)) <;> (try simp only [hcS] at hc) <;> (try first | contradiction | (exfalso; omega)))
    | ((refine AW.condB (by rfl) (fun hc => ?_) (fun hc => ?_)))
    | ((first | (with_reducible refine AW.regionK mo (by kernel_rfl) ?_; intro K hK) | (with_reducible refine aSliceO.l ?_) | (with_reducible refine aBuildO.l ?_) | (with_reducible refine aStoreO.l ?_)); simp (maxSteps := 2000000) only [↓askG_tt, ↓askG_ff, ↓askG_tf, ↓askG_ft, ↓AOp, ↓aBin, ↓aUn, ↓aConv, ↓aAlloc, ↓aBox, ↓aBuild, ↓aLoad, ↓aStore, ↓aNil, ↓aFieldAddr, ↓aField, ↓aExtract, ↓aIndexAddr, ↓aIndex, ↓aSlice, ↓aMake, ↓aBuildSlice, ↓aFrz, ↓aLen, ↓aAppend, ↓aCopy, Nat.reduceAdd, Nat.reduceSub, Nat.reduceMul, Nat.reduceLT, Nat.reduceLeDiff, Nat.reduceEqDiff, Int.reduceToNat, Int.reduceBEq, Int.reduceBNe, Int.reduceEq, Int.reduceNe, Int.reduceNeg, Int.reduceLE, Int.reduceLT, reduceIte, reduceCtorEq, go_sem, Nat.add_sub_cancel, Nat.add_one_sub_one, Nat.sub_zero, Nat.mul_one, shiftP, shiftT, shiftC, shiftL, shiftB, newIds, idsOfT, List.zipIdx_cons, List.zipIdx_nil, g1])
    | (with_reducible refine hK _ ?_; clear hK K)
    | (with_reducible refine askG.mk (fun hg => ?_) (fun hg => ?_) <;> (try simp only [hcS] at hg) <;> (try first | contradiction | (exfalso; omega)))
    | ((with_reducible refine And.intro ?_ ?_); focus (first | (with_reducible show pairsOk _ _ = true; kernel_rfl) | omega | (with_reducible assumption) | kernel_rfl | (exact bytesE_len _) | (exact iE_one _) | (exact iE_allP _) | (exact bytesE_allP _) | (exact rowsE_len _) | (exact rowsE_allP _) | ((simp [allP_nil, allP_cons, persL]; done)) | ((simp [byV]; done)) | (simp; done) | (simp; omega)))
    | ((with_reducible first | show inBlockS _ _ _ _ | show thenS _ _ _ _); simp only [inBlockS, thenS, reduceIte, Nat.reduceEqDiff]))
    all_goals (refine ⟨_, [], rfl, ⟨rfl, ?_, ?_, ?_⟩⟩ <;> simp [go_sem, Nat.add_sub_cancel, Nat.add_one_sub_one, Nat.sub_zero, Nat.mul_one, finP, finPs, viewP, viewPs, finT, finC, finCs, finL, finLs, finBs, viewOk, viewsOk, persL, inT, inC, inCs, inL, inLs, ndB, allP_nil, allP_cons, allP_append])
set_option maxHeartbeats 4000000 in
theorem frCheck_pc (f : Frm) (e : Int) (he : ChkF f e) : PC Tryd.prog 13 [frmT f] [] (.leaf (.sc (.int .i64 e))) := by
  have bad := he.bad
  have long := he.long
  have good := he.good
  clear he
  obtain ⟨fm, tw, ⟨ep, ro, ch⟩, kd, sq, bd⟩ := f
  simp only [okF, okN, frmT, frmC] at *
  rcases (show kd = 1 ∨ kd = 2 ∨ (¬ kd = 1 ∧ ¬ kd = 2) by omega) with k | k | k
  · subst k
    by_cases a1 : 0 ≤ fm
    rotate_left 1
    have N1 := node_pc fm false (by simp [okN]; omega)
    obtain rfl := bad (fun q => by first | (exact absurd q.2.2.2.1 a6) | (exact absurd (q.2.2.2.2.2.2.2 rfl) b3) | omega)
    have g5 : True := trivial
    have g8 : True := trivial
    have g9 : True := trivial
    have g9b : True := trivial
    have g10 : True := trivial
    have g11 : True := trivial
    have N2 : True := trivial
    have S : True := trivial
    rotate_right 1
    by_cases a2 : fm ≤ 24
    rotate_left 1
    have N1 := node_pc fm false (by simp [okN]; omega)
    obtain rfl := bad (fun q => by first | (exact absurd q.2.2.2.1 a6) | (exact absurd (q.2.2.2.2.2.2.2 rfl) b3) | omega)
    have g5 : True := trivial
    have g8 : True := trivial
    have g9 : True := trivial
    have g9b : True := trivial
    have g10 : True := trivial
    have g11 : True := trivial
    have N2 : True := trivial
    have S : True := trivial
    rotate_right 1
    have N1 := node_pc fm true (by simp [okN]; omega)
    by_cases a3 : 0 ≤ tw
    rotate_left 1
    have N2 := node_pc tw false (by simp [okN]; omega)
    obtain rfl := bad (fun q => by first | (exact absurd q.2.2.2.1 a6) | (exact absurd (q.2.2.2.2.2.2.2 rfl) b3) | omega)
    have g5 : True := trivial
    have g8 : True := trivial
    have g9 : True := trivial
    have g9b : True := trivial
    have g10 : True := trivial
    have g11 : True := trivial
    have S : True := trivial
    rotate_right 1
    by_cases a4 : tw ≤ 24
    rotate_left 1
    have N2 := node_pc tw false (by simp [okN]; omega)
    obtain rfl := bad (fun q => by first | (exact absurd q.2.2.2.1 a6) | (exact absurd (q.2.2.2.2.2.2.2 rfl) b3) | omega)
    have g5 : True := trivial
    have g8 : True := trivial
    have g9 : True := trivial
    have g9b : True := trivial
    have g10 : True := trivial
    have g11 : True := trivial
    have S : True := trivial
    rotate_right 1
    have N2 := node_pc tw true (by simp [okN]; omega)
    by_cases a5 : fm = tw
    have g5 : (fm == tw) = true := by simp [a5]
    obtain rfl := bad (fun q => by first | (exact absurd q.2.2.2.1 a6) | (exact absurd (q.2.2.2.2.2.2.2 rfl) b3) | omega)
    have g8 : True := trivial
    have g9 : True := trivial
    have g9b : True := trivial
    have g10 : True := trivial
    have g11 : True := trivial
    have S : True := trivial
    rotate_left 1
    have g5 : (fm == tw) = false := by simp [a5]
    by_cases a6 : okC ch
    rotate_left 1
    have S := stCheck_pc ⟨ep, ro, ch⟩ 1 (.inr ⟨rfl, a6⟩)
    simp only [stmT, stmC] at S
    obtain rfl := bad (fun q => by first | (exact absurd q.2.2.2.1 a6) | (exact absurd (q.2.2.2.2.2.2.2 rfl) b3) | omega)
    have g8 : True := trivial
    have g9 : True := trivial
    have g9b : True := trivial
    have g10 : True := trivial
    have g11 : True := trivial
    rotate_right 1
    have S := stCheck_pc ⟨ep, ro, ch⟩ 0 (.inl ⟨rfl, a6⟩)
    simp only [stmT, stmC] at S
    by_cases b1 : sq < 0
    have g8 : decide (sq < 0) = true := decide_eq_true (by omega)
    obtain rfl := bad (fun q => by first | (exact absurd q.2.2.2.1 a6) | (exact absurd (q.2.2.2.2.2.2.2 rfl) b3) | omega)
    have g9 : True := trivial
    have g9b : True := trivial
    have g10 : True := trivial
    have g11 : True := trivial
    rotate_left 1
    have g8 : decide (sq < 0) = false := decide_eq_false (by omega)
    by_cases b2 : sq ≤ 2147483647
    rotate_left 1
    have g9 : decide (2147483647 < sq) = true := decide_eq_true (by omega)
    have g9b : decide (2147483648 ≤ sq) = true := decide_eq_true (by omega)
    obtain rfl := bad (fun q => by first | (exact absurd q.2.2.2.1 a6) | (exact absurd (q.2.2.2.2.2.2.2 rfl) b3) | omega)
    have g10 : True := trivial
    have g11 : True := trivial
    rotate_right 1
    have g9 : decide (2147483647 < sq) = false := decide_eq_false (by omega)
    have g9b : decide (2147483648 ≤ sq) = false := decide_eq_false (by omega)
    by_cases b4 : bd.length ≤ 65536
    rotate_left 1
    have g11 : decide (65536 < (bd.length : Int)) = true := decide_eq_true (by omega)
    obtain rfl : e = 2 := long ⟨⟨a1, a2⟩, ⟨a3, a4⟩, a5, a6, by omega, by omega, by omega, by omega⟩ (by omega)
    have g10 : True := trivial
    rotate_right 1
    have g11 : decide (65536 < (bd.length : Int)) = false := decide_eq_false (by omega)
    obtain rfl : e = 0 := good ⟨⟨a1, a2⟩, ⟨a3, a4⟩, a5, a6, by omega, by omega, by omega, by omega⟩ b4
    have g10 : True := trivial
    all_goals (
      refine PC.of_body Tryd.func13 rfl ?_
      intro Γ _ _
      simp only [Tryd.ntmps13, List.length_cons, List.length_nil, Nat.reduceAdd, Nat.reduceSub, List.replicate_succ, List.replicate_zero, List.cons_append, List.nil_append]
      repeat' (first
    | (with_reducible first | refine AW.seq ?_ | refine AW.block ?_ | refine AW.ret ?_ | refine AW.skip ?_ | refine AW.exit ?_)
    | ((refine AW.cond (by rfl) (fun hc => ?_) (fun hc => ?_)) <;> (try simp only [hcS] at hc) <;> (try first | contradiction | (exfalso; omega)))
    | ((refine AW.condB (by rfl) (fun hc => ?_) (fun hc => ?_)))
    | ((first | (refine aCall.pers (N1) fnOk26 ?_ ?_ ?_ ?_; (focus rfl); (focus rfl); (focus (simp [persT, persL, g5, g8, g9, g9b, g10, g11]; done))) | (refine aCall.pers (N2) fnOk26 ?_ ?_ ?_ ?_; (focus rfl); (focus rfl); (focus (simp [persT, persL, g5, g8, g9, g9b, g10, g11]; done))) | (refine aCall.pers (S) fnOk27 ?_ ?_ ?_ ?_; (focus rfl); (focus rfl); (focus (simp [persT, persL, g5, g8, g9, g9b, g10, g11]; done))) | (with_reducible refine AW.regionK mo (by kernel_rfl) ?_; intro K hK) | (with_reducible refine aSliceO.l ?_) | (with_reducible refine aBuildO.l ?_) | (with_reducible refine aStoreO.l ?_)); simp (maxSteps := 2000000) only [↓askG_tt, ↓askG_ff, ↓askG_tf, ↓askG_ft, ↓AOp, ↓aBin, ↓aUn, ↓aConv, ↓aAlloc, ↓aBox, ↓aBuild, ↓aLoad, ↓aStore, ↓aNil, ↓aFieldAddr, ↓aField, ↓aExtract, ↓aIndexAddr, ↓aIndex, ↓aSlice, ↓aMake, ↓aBuildSlice, ↓aFrz, ↓aLen, ↓aAppend, ↓aCopy, Nat.reduceAdd, Nat.reduceSub, Nat.reduceMul, Nat.reduceLT, Nat.reduceLeDiff, Nat.reduceEqDiff, Int.reduceToNat, Int.reduceBEq, Int.reduceBNe, Int.reduceEq, Int.reduceNe, Int.reduceNeg, Int.reduceLE, Int.reduceLT, reduceIte, reduceCtorEq, go_sem, Nat.add_sub_cancel, Nat.add_one_sub_one, Nat.sub_zero, Nat.mul_one, shiftP, shiftT, shiftC, shiftL, shiftB, newIds, idsOfT, List.zipIdx_cons, List.zipIdx_nil, g5, g8, g9, g9b, g10, g11])
    | (with_reducible refine hK _ ?_; clear hK K)
    | (with_reducible refine askG.mk (fun hg => ?_) (fun hg => ?_) <;> (try simp only [hcS] at hg) <;> (try first | contradiction | (exfalso; omega)))
    | ((with_reducible refine And.intro ?_ ?_); focus (first | (with_reducible show pairsOk _ _ = true; kernel_rfl) | omega | (with_reducible assumption) | kernel_rfl | (exact bytesE_len _) | (exact iE_one _) | (exact iE_allP _) | (exact bytesE_allP _) | (exact rowsE_len _) | (exact rowsE_allP _) | ((simp [allP_nil, allP_cons, persL]; done)) | ((simp [byV]; done)) | (simp; done) | (simp; omega)))
    | ((with_reducible first | show inBlockS _ _ _ _ | show thenS _ _ _ _); simp only [inBlockS, thenS, reduceIte, Nat.reduceEqDiff]))
      all_goals (refine ⟨_, [], rfl, ⟨rfl, ?_, ?_, ?_⟩⟩ <;> simp [go_sem, Nat.add_sub_cancel, Nat.add_one_sub_one, Nat.sub_zero, Nat.mul_one, finP, finPs, viewP, viewPs, finT, finC, finCs, finL, finLs, finBs, viewOk, viewsOk, persL, inT, inC, inCs, inL, inLs, ndB, allP_nil, allP_cons, allP_append]))
  · subst k
    by_cases a1 : 0 ≤ fm
    rotate_left 1
    have N1 := node_pc fm false (by simp [okN]; omega)
    obtain rfl := bad (fun q => by first | (exact absurd q.2.2.2.1 a6) | (exact absurd (q.2.2.2.2.2.2.2 rfl) b3) | omega)
    have g5 : True := trivial
    have g8 : True := trivial
    have g9 : True := trivial
    have g9b : True := trivial
    have g10 : True := trivial
    have g11 : True := trivial
    have N2 : True := trivial
    have S : True := trivial
    rotate_right 1
    by_cases a2 : fm ≤ 24
    rotate_left 1
    have N1 := node_pc fm false (by simp [okN]; omega)
    obtain rfl := bad (fun q => by first | (exact absurd q.2.2.2.1 a6) | (exact absurd (q.2.2.2.2.2.2.2 rfl) b3) | omega)
    have g5 : True := trivial
    have g8 : True := trivial
    have g9 : True := trivial
    have g9b : True := trivial
    have g10 : True := trivial
    have g11 : True := trivial
    have N2 : True := trivial
    have S : True := trivial
    rotate_right 1
    have N1 := node_pc fm true (by simp [okN]; omega)
    by_cases a3 : 0 ≤ tw
    rotate_left 1
    have N2 := node_pc tw false (by simp [okN]; omega)
    obtain rfl := bad (fun q => by first | (exact absurd q.2.2.2.1 a6) | (exact absurd (q.2.2.2.2.2.2.2 rfl) b3) | omega)
    have g5 : True := trivial
    have g8 : True := trivial
    have g9 : True := trivial
    have g9b : True := trivial
    have g10 : True := trivial
    have g11 : True := trivial
    have S : True := trivial
    rotate_right 1
    by_cases a4 : tw ≤ 24
    rotate_left 1
    have N2 := node_pc tw false (by simp [okN]; omega)
    obtain rfl := bad (fun q => by first | (exact absurd q.2.2.2.1 a6) | (exact absurd (q.2.2.2.2.2.2.2 rfl) b3) | omega)
    have g5 : True := trivial
    have g8 : True := trivial
    have g9 : True := trivial
    have g9b : True := trivial
    have g10 : True := trivial
    have g11 : True := trivial
    have S : True := trivial
    rotate_right 1
    have N2 := node_pc tw true (by simp [okN]; omega)
    by_cases a5 : fm = tw
    have g5 : (fm == tw) = true := by simp [a5]
    obtain rfl := bad (fun q => by first | (exact absurd q.2.2.2.1 a6) | (exact absurd (q.2.2.2.2.2.2.2 rfl) b3) | omega)
    have g8 : True := trivial
    have g9 : True := trivial
    have g9b : True := trivial
    have g10 : True := trivial
    have g11 : True := trivial
    have S : True := trivial
    rotate_left 1
    have g5 : (fm == tw) = false := by simp [a5]
    by_cases a6 : okC ch
    rotate_left 1
    have S := stCheck_pc ⟨ep, ro, ch⟩ 1 (.inr ⟨rfl, a6⟩)
    simp only [stmT, stmC] at S
    obtain rfl := bad (fun q => by first | (exact absurd q.2.2.2.1 a6) | (exact absurd (q.2.2.2.2.2.2.2 rfl) b3) | omega)
    have g8 : True := trivial
    have g9 : True := trivial
    have g9b : True := trivial
    have g10 : True := trivial
    have g11 : True := trivial
    rotate_right 1
    have S := stCheck_pc ⟨ep, ro, ch⟩ 0 (.inl ⟨rfl, a6⟩)
    simp only [stmT, stmC] at S
    by_cases b1 : sq < 0
    have g8 : decide (sq < 0) = true := decide_eq_true (by omega)
    obtain rfl := bad (fun q => by first | (exact absurd q.2.2.2.1 a6) | (exact absurd (q.2.2.2.2.2.2.2 rfl) b3) | omega)
    have g9 : True := trivial
    have g9b : True := trivial
    have g10 : True := trivial
    have g11 : True := trivial
    rotate_left 1
    have g8 : decide (sq < 0) = false := decide_eq_false (by omega)
    by_cases b2 : sq ≤ 2147483647
    rotate_left 1
    have g9 : decide (2147483647 < sq) = true := decide_eq_true (by omega)
    have g9b : decide (2147483648 ≤ sq) = true := decide_eq_true (by omega)
    obtain rfl := bad (fun q => by first | (exact absurd q.2.2.2.1 a6) | (exact absurd (q.2.2.2.2.2.2.2 rfl) b3) | omega)
    have g10 : True := trivial
    have g11 : True := trivial
    rotate_right 1
    have g9 : decide (2147483647 < sq) = false := decide_eq_false (by omega)
    have g9b : decide (2147483648 ≤ sq) = false := decide_eq_false (by omega)
    by_cases b3 : bd.length = 0
    rotate_left 1
    have g10 : decide (0 < (bd.length : Int)) = true := decide_eq_true (by omega)
    obtain rfl := bad (fun q => by first | (exact absurd q.2.2.2.1 a6) | (exact absurd (q.2.2.2.2.2.2.2 rfl) b3) | omega)
    have g11 : True := trivial
    rotate_right 1
    have g10 : decide (0 < (bd.length : Int)) = false := decide_eq_false (by omega)
    by_cases b4 : bd.length ≤ 65536
    rotate_left 1
    have g11 : decide (65536 < (bd.length : Int)) = true := decide_eq_true (by omega)
    obtain rfl : e = 2 := long ⟨⟨a1, a2⟩, ⟨a3, a4⟩, a5, a6, by omega, by omega, by omega, by omega⟩ (by omega)
    rotate_right 1
    have g11 : decide (65536 < (bd.length : Int)) = false := decide_eq_false (by omega)
    obtain rfl : e = 0 := good ⟨⟨a1, a2⟩, ⟨a3, a4⟩, a5, a6, by omega, by omega, by omega, by omega⟩ b4
    all_goals (
      refine PC.of_body Tryd.func13 rfl ?_
      intro Γ _ _
      simp only [Tryd.ntmps13, List.length_cons, List.length_nil, Nat.reduceAdd, Nat.reduceSub, List.replicate_succ, List.replicate_zero, List.cons_append, List.nil_append]
      repeat' (first
    | (with_reducible first | refine AW.seq ?_ | refine AW.block ?_ | refine AW.ret ?_ | refine AW.skip ?_ | refine AW.exit ?_)
    | ((refine AW.cond (by rfl) (fun hc => ?_) (fun hc => ?_)) <;> (try simp only [hcS] at hc) <;> (try first | contradiction | (exfalso; omega)))
    | ((refine AW.condB (by rfl) (fun hc => ?_) (fun hc => ?_)))
    | ((first | (refine aCall.pers (N1) fnOk26 ?_ ?_ ?_ ?_; (focus rfl); (focus rfl); (focus (simp [persT, persL, g5, g8, g9, g9b, g10, g11]; done))) | (refine aCall.pers (N2) fnOk26 ?_ ?_ ?_ ?_; (focus rfl); (focus rfl); (focus (simp [persT, persL, g5, g8, g9, g9b, g10, g11]; done))) | (refine aCall.pers (S) fnOk27 ?_ ?_ ?_ ?_; (focus rfl); (focus rfl); (focus (simp [persT, persL, g5, g8, g9, g9b, g10, g11]; done))) | (with_reducible refine AW.regionK mo (by kernel_rfl) ?_; intro K hK) | (with_reducible refine aSliceO.l ?_) | (with_reducible refine aBuildO.l ?_) | (with_reducible refine aStoreO.l ?_)); simp (maxSteps := 2000000) only [↓askG_tt, ↓askG_ff, ↓askG_tf, ↓askG_ft, ↓AOp, ↓aBin, ↓aUn, ↓aConv, ↓aAlloc, ↓aBox, ↓aBuild, ↓aLoad, ↓aStore, ↓aNil, ↓aFieldAddr, ↓aField, ↓aExtract, ↓aIndexAddr, ↓aIndex, ↓aSlice, ↓aMake, ↓aBuildSlice, ↓aFrz, ↓aLen, ↓aAppend, ↓aCopy, Nat.reduceAdd, Nat.reduceSub, Nat.reduceMul, Nat.reduceLT, Nat.reduceLeDiff, Nat.reduceEqDiff, Int.reduceToNat, Int.reduceBEq, Int.reduceBNe, Int.reduceEq, Int.reduceNe, Int.reduceNeg, Int.reduceLE, Int.reduceLT, reduceIte, reduceCtorEq, go_sem, Nat.add_sub_cancel, Nat.add_one_sub_one, Nat.sub_zero, Nat.mul_one, shiftP, shiftT, shiftC, shiftL, shiftB, newIds, idsOfT, List.zipIdx_cons, List.zipIdx_nil, g5, g8, g9, g9b, g10, g11])
    | (with_reducible refine hK _ ?_; clear hK K)
    | (with_reducible refine askG.mk (fun hg => ?_) (fun hg => ?_) <;> (try simp only [hcS] at hg) <;> (try first | contradiction | (exfalso; omega)))
    | ((with_reducible refine And.intro ?_ ?_); focus (first | (with_reducible show pairsOk _ _ = true; kernel_rfl) | omega | (with_reducible assumption) | kernel_rfl | (exact bytesE_len _) | (exact iE_one _) | (exact iE_allP _) | (exact bytesE_allP _) | (exact rowsE_len _) | (exact rowsE_allP _) | ((simp [allP_nil, allP_cons, persL]; done)) | ((simp [byV]; done)) | (simp; done) | (simp; omega)))
    | ((with_reducible first | show inBlockS _ _ _ _ | show thenS _ _ _ _); simp only [inBlockS, thenS, reduceIte, Nat.reduceEqDiff]))
      all_goals (refine ⟨_, [], rfl, ⟨rfl, ?_, ?_, ?_⟩⟩ <;> simp [go_sem, Nat.add_sub_cancel, Nat.add_one_sub_one, Nat.sub_zero, Nat.mul_one, finP, finPs, viewP, viewPs, finT, finC, finCs, finL, finLs, finBs, viewOk, viewsOk, persL, inT, inC, inCs, inL, inLs, ndB, allP_nil, allP_cons, allP_append]))
  · have g7 : (kd != 1) = true := by simp; omega
    have g7b : (kd != 2) = true := by simp; omega
    by_cases a1 : 0 ≤ fm
    rotate_left 1
    have N1 := node_pc fm false (by simp [okN]; omega)
    obtain rfl := bad (fun q => by first | (exact absurd q.2.2.2.1 a6) | (exact absurd (q.2.2.2.2.2.2.2 rfl) b3) | omega)
    have g5 : True := trivial
    have g8 : True := trivial
    have g9 : True := trivial
    have g9b : True := trivial
    have g10 : True := trivial
    have g11 : True := trivial
    have N2 : True := trivial
    have S : True := trivial
    rotate_right 1
    by_cases a2 : fm ≤ 24
    rotate_left 1
    have N1 := node_pc fm false (by simp [okN]; omega)
    obtain rfl := bad (fun q => by first | (exact absurd q.2.2.2.1 a6) | (exact absurd (q.2.2.2.2.2.2.2 rfl) b3) | omega)
    have g5 : True := trivial
    have g8 : True := trivial
    have g9 : True := trivial
    have g9b : True := trivial
    have g10 : True := trivial
    have g11 : True := trivial
    have N2 : True := trivial
    have S : True := trivial
    rotate_right 1
    have N1 := node_pc fm true (by simp [okN]; omega)
    by_cases a3 : 0 ≤ tw
    rotate_left 1
    have N2 := node_pc tw false (by simp [okN]; omega)
    obtain rfl := bad (fun q => by first | (exact absurd q.2.2.2.1 a6) | (exact absurd (q.2.2.2.2.2.2.2 rfl) b3) | omega)
    have g5 : True := trivial
    have g8 : True := trivial
    have g9 : True := trivial
    have g9b : True := trivial
    have g10 : True := trivial
    have g11 : True := trivial
    have S : True := trivial
    rotate_right 1
    by_cases a4 : tw ≤ 24
    rotate_left 1
    have N2 := node_pc tw false (by simp [okN]; omega)
    obtain rfl := bad (fun q => by first | (exact absurd q.2.2.2.1 a6) | (exact absurd (q.2.2.2.2.2.2.2 rfl) b3) | omega)
    have g5 : True := trivial
    have g8 : True := trivial
    have g9 : True := trivial
    have g9b : True := trivial
    have g10 : True := trivial
    have g11 : True := trivial
    have S : True := trivial
    rotate_right 1
    have N2 := node_pc tw true (by simp [okN]; omega)
    by_cases a5 : fm = tw
    have g5 : (fm == tw) = true := by simp [a5]
    obtain rfl := bad (fun q => by first | (exact absurd q.2.2.2.1 a6) | (exact absurd (q.2.2.2.2.2.2.2 rfl) b3) | omega)
    have g8 : True := trivial
    have g9 : True := trivial
    have g9b : True := trivial
    have g10 : True := trivial
    have g11 : True := trivial
    have S : True := trivial
    rotate_left 1
    have g5 : (fm == tw) = false := by simp [a5]
    by_cases a6 : okC ch
    rotate_left 1
    have S := stCheck_pc ⟨ep, ro, ch⟩ 1 (.inr ⟨rfl, a6⟩)
    simp only [stmT, stmC] at S
    obtain rfl := bad (fun q => by first | (exact absurd q.2.2.2.1 a6) | (exact absurd (q.2.2.2.2.2.2.2 rfl) b3) | omega)
    have g8 : True := trivial
    have g9 : True := trivial
    have g9b : True := trivial
    have g10 : True := trivial
    have g11 : True := trivial
    rotate_right 1
    have S := stCheck_pc ⟨ep, ro, ch⟩ 0 (.inl ⟨rfl, a6⟩)
    simp only [stmT, stmC] at S
    obtain rfl := bad (fun q => by first | (exact absurd q.2.2.2.1 a6) | (exact absurd (q.2.2.2.2.2.2.2 rfl) b3) | omega)
    have g8 : True := trivial
    have g9 : True := trivial
    have g9b : True := trivial
    have g10 : True := trivial
    have g11 : True := trivial
    all_goals (
      refine PC.of_body Tryd.func13 rfl ?_
      intro Γ _ _
      simp only [Tryd.ntmps13, List.length_cons, List.length_nil, Nat.reduceAdd, Nat.reduceSub, List.replicate_succ, List.replicate_zero, List.cons_append, List.nil_append]
      repeat' (first
    | (with_reducible first | refine AW.seq ?_ | refine AW.block ?_ | refine AW.ret ?_ | refine AW.skip ?_ | refine AW.exit ?_)
    | ((refine AW.cond (by rfl) (fun hc => ?_) (fun hc => ?_)) <;> (try simp only [hcS] at hc) <;> (try first | contradiction | (exfalso; omega)))
    | ((refine AW.condB (by rfl) (fun hc => ?_) (fun hc => ?_)))
    | ((first | (refine aCall.pers (N1) fnOk26 ?_ ?_ ?_ ?_; (focus rfl); (focus rfl); (focus (simp [persT, persL, g7, g7b, g5, g8, g9, g9b, g10, g11]; done))) | (refine aCall.pers (N2) fnOk26 ?_ ?_ ?_ ?_; (focus rfl); (focus rfl); (focus (simp [persT, persL, g7, g7b, g5, g8, g9, g9b, g10, g11]; done))) | (refine aCall.pers (S) fnOk27 ?_ ?_ ?_ ?_; (focus rfl); (focus rfl); (focus (simp [persT, persL, g7, g7b, g5, g8, g9, g9b, g10, g11]; done))) | (with_reducible refine AW.regionK mo (by kernel_rfl) ?_; intro K hK) | (with_reducible refine aSliceO.l ?_) | (with_reducible refine aBuildO.l ?_) | (with_reducible refine aStoreO.l ?_)); simp (maxSteps := 2000000) only [↓askG_tt, ↓askG_ff, ↓askG_tf, ↓askG_ft, ↓AOp, ↓aBin, ↓aUn, ↓aConv, ↓aAlloc, ↓aBox, ↓aBuild, ↓aLoad, ↓aStore, ↓aNil, ↓aFieldAddr, ↓aField, ↓aExtract, ↓aIndexAddr, ↓aIndex, ↓aSlice, ↓aMake, ↓aBuildSlice, ↓aFrz, ↓aLen, ↓aAppend, ↓aCopy, Nat.reduceAdd, Nat.reduceSub, Nat.reduceMul, Nat.reduceLT, Nat.reduceLeDiff, Nat.reduceEqDiff, Int.reduceToNat, Int.reduceBEq, Int.reduceBNe, Int.reduceEq, Int.reduceNe, Int.reduceNeg, Int.reduceLE, Int.reduceLT, reduceIte, reduceCtorEq, go_sem, Nat.add_sub_cancel, Nat.add_one_sub_one, Nat.sub_zero, Nat.mul_one, shiftP, shiftT, shiftC, shiftL, shiftB, newIds, idsOfT, List.zipIdx_cons, List.zipIdx_nil, g7, g7b, g5, g8, g9, g9b, g10, g11])
    | (with_reducible refine hK _ ?_; clear hK K)
    | (with_reducible refine askG.mk (fun hg => ?_) (fun hg => ?_) <;> (try simp only [hcS] at hg) <;> (try first | contradiction | (exfalso; omega)))
    | ((with_reducible refine And.intro ?_ ?_); focus (first | (with_reducible show pairsOk _ _ = true; kernel_rfl) | omega | (with_reducible assumption) | kernel_rfl | (exact bytesE_len _) | (exact iE_one _) | (exact iE_allP _) | (exact bytesE_allP _) | (exact rowsE_len _) | (exact rowsE_allP _) | ((simp [allP_nil, allP_cons, persL]; done)) | ((simp [byV]; done)) | (simp; done) | (simp; omega)))
    | ((with_reducible first | show inBlockS _ _ _ _ | show thenS _ _ _ _); simp only [inBlockS, thenS, reduceIte, Nat.reduceEqDiff]))
      all_goals (refine ⟨_, [], rfl, ⟨rfl, ?_, ?_, ?_⟩⟩ <;> simp [go_sem, Nat.add_sub_cancel, Nat.add_one_sub_one, Nat.sub_zero, Nat.mul_one, finP, finPs, viewP, viewPs, finT, finC, finCs, finL, finLs, finBs, viewOk, viewsOk, persL, inT, inC, inCs, inL, inLs, ndB, allP_nil, allP_cons, allP_append]))
set_option maxHeartbeats 4000000 in
theorem refFrCheck_pc (f : Frm) (e : Int) (he : ChkF f e) : PC Tryd.prog 14 [frmT f] [] (.leaf (.sc (.int .i64 e))) := by
  have bad := he.bad
  have long := he.long
  have good := he.good
  clear he
  obtain ⟨fm, tw, ⟨ep, ro, ch⟩, kd, sq, bd⟩ := f
  simp only [okF, okN, frmT, frmC] at *
  rcases (show kd = 1 ∨ kd = 2 ∨ (¬ kd = 1 ∧ ¬ kd = 2) by omega) with k | k | k
  · subst k
    by_cases a1 : 0 ≤ fm
    rotate_left 1
    have g1 : decide (fm < 0) = true := decide_eq_true (by omega)
    obtain rfl := bad (fun q => by first | (exact absurd q.2.2.2.1 a6) | (exact absurd (q.2.2.2.2.2.2.2 rfl) b3) | omega)
    have g2 : True := trivial
    have g3 : True := trivial
    have g4 : True := trivial
    have g5 : True := trivial
    have g8 : True := trivial
    have g9 : True := trivial
    have g9b : True := trivial
    have g10 : True := trivial
    have g11 : True := trivial
    have S : True := trivial
    rotate_right 1
    have g1 : decide (fm < 0) = false := decide_eq_false (by omega)
    by_cases a2 : fm ≤ 24
    rotate_left 1
    have g2 : decide (24 < fm) = true := decide_eq_true (by omega)
    obtain rfl := bad (fun q => by first | (exact absurd q.2.2.2.1 a6) | (exact absurd (q.2.2.2.2.2.2.2 rfl) b3) | omega)
    have g3 : True := trivial
    have g4 : True := trivial
    have g5 : True := trivial
    have g8 : True := trivial
    have g9 : True := trivial
    have g9b : True := trivial
    have g10 : True := trivial
    have g11 : True := trivial
    have S : True := trivial
    rotate_right 1
    have g2 : decide (24 < fm) = false := decide_eq_false (by omega)
    by_cases a3 : 0 ≤ tw
    rotate_left 1
    have g3 : decide (tw < 0) = true := decide_eq_true (by omega)
    obtain rfl := bad (fun q => by first | (exact absurd q.2.2.2.1 a6) | (exact absurd (q.2.2.2.2.2.2.2 rfl) b3) | omega)
    have g4 : True := trivial
    have g5 : True := trivial
    have g8 : True := trivial
    have g9 : True := trivial
    have g9b : True := trivial
    have g10 : True := trivial
    have g11 : True := trivial
    have S : True := trivial
    rotate_right 1
    have g3 : decide (tw < 0) = false := decide_eq_false (by omega)
    by_cases a4 : tw ≤ 24
    rotate_left 1
    have g4 : decide (24 < tw) = true := decide_eq_true (by omega)
    obtain rfl := bad (fun q => by first | (exact absurd q.2.2.2.1 a6) | (exact absurd (q.2.2.2.2.2.2.2 rfl) b3) | omega)
    have g5 : True := trivial
    have g8 : True := trivial
    have g9 : True := trivial
    have g9b : True := trivial
    have g10 : True := trivial
    have g11 : True := trivial
    have S : True := trivial
    rotate_right 1
    have g4 : decide (24 < tw) = false := decide_eq_false (by omega)
    by_cases a5 : fm = tw
    have g5 : (fm == tw) = true := by simp [a5]
    obtain rfl := bad (fun q => by first | (exact absurd q.2.2.2.1 a6) | (exact absurd (q.2.2.2.2.2.2.2 rfl) b3) | omega)
    have g8 : True := trivial
    have g9 : True := trivial
    have g9b : True := trivial
    have g10 : True := trivial
    have g11 : True := trivial
    have S : True := trivial
    rotate_left 1
    have g5 : (fm == tw) = false := by simp [a5]
    by_cases a6 : okC ch
    rotate_left 1
    have S := refStCheck_pc ⟨ep, ro, ch⟩ 1 (.inr ⟨rfl, a6⟩)
    simp only [stmT, stmC] at S
    obtain rfl := bad (fun q => by first | (exact absurd q.2.2.2.1 a6) | (exact absurd (q.2.2.2.2.2.2.2 rfl) b3) | omega)
    have g8 : True := trivial
    have g9 : True := trivial
    have g9b : True := trivial
    have g10 : True := trivial
    have g11 : True := trivial
    rotate_right 1
    have S := refStCheck_pc ⟨ep, ro, ch⟩ 0 (.inl ⟨rfl, a6⟩)
    simp only [stmT, stmC] at S
    by_cases b1 : sq < 0
    have g8 : decide (sq < 0) = true := decide_eq_true (by omega)
    obtain rfl := bad (fun q => by first | (exact absurd q.2.2.2.1 a6) | (exact absurd (q.2.2.2.2.2.2.2 rfl) b3) | omega)
    have g9 : True := trivial
    have g9b : True := trivial
    have g10 : True := trivial
    have g11 : True := trivial
    rotate_left 1
    have g8 : decide (sq < 0) = false := decide_eq_false (by omega)
    by_cases b2 : sq ≤ 2147483647
    rotate_left 1
    have g9 : decide (2147483647 < sq) = true := decide_eq_true (by omega)
    have g9b : decide (2147483648 ≤ sq) = true := decide_eq_true (by omega)
    obtain rfl := bad (fun q => by first | (exact absurd q.2.2.2.1 a6) | (exact absurd (q.2.2.2.2.2.2.2 rfl) b3) | omega)
    have g10 : True := trivial
    have g11 : True := trivial
    rotate_right 1
    have g9 : decide (2147483647 < sq) = false := decide_eq_false (by omega)
    have g9b : decide (2147483648 ≤ sq) = false := decide_eq_false (by omega)
    by_cases b4 : bd.length ≤ 65536
    rotate_left 1
    have g11 : decide (65536 < (bd.length : Int)) = true := decide_eq_true (by omega)
    obtain rfl : e = 2 := long ⟨⟨a1, a2⟩, ⟨a3, a4⟩, a5, a6, by omega, by omega, by omega, by omega⟩ (by omega)
    have g10 : True := trivial
    rotate_right 1
    have g11 : decide (65536 < (bd.length : Int)) = false := decide_eq_false (by omega)
    obtain rfl : e = 0 := good ⟨⟨a1, a2⟩, ⟨a3, a4⟩, a5, a6, by omega, by omega, by omega, by omega⟩ b4
    have g10 : True := trivial
    all_goals (
      refine PC.of_body Tryd.func14 rfl ?_
      intro Γ _ _
      simp only [Tryd.ntmps14, List.length_cons, List.length_nil, Nat.reduceAdd, Nat.reduceSub, List.replicate_succ, List.replicate_zero, List.cons_append, List.nil_append]
      repeat' (first
    | (with_reducible first | refine AW.seq ?_ | refine AW.block ?_ | refine AW.ret ?_ | refine AW.skip ?_ | refine AW.exit ?_)
    | ((refine AW.cond (by rfl) (fun hc => ?_) (fun hc => ?_)) <;> (try simp only [hcS] at hc) <;> (try first | contradiction | (exfalso; omega)))
    | ((refine AW.condB (by rfl) (fun hc => ?_) (fun hc => ?_)))
    | ((first | (refine aCall.view S fnOk28 ?_ ?_ ?_ ?_ ?_; (focus rfl); (focus (simp [plainT, plainC, plainL]; done)); (focus (first | exact plainBs_bytes _ | (simp [plainBs]; done))); (focus (simp [argsOk, viewTOk, viewP, viewPs, ↓askG_tt, ↓askG_ff, ↓askG_tf, ↓askG_ft, ↓AOp, ↓aBin, ↓aUn, ↓aConv, ↓aAlloc, ↓aBox, ↓aBuild, ↓aLoad, ↓aStore, ↓aNil, ↓aFieldAddr, ↓aField, ↓aExtract, ↓aIndexAddr, ↓aIndex, ↓aSlice, ↓aMake, ↓aBuildSlice, ↓aFrz, ↓aLen, ↓aAppend, ↓aCopy, Nat.reduceAdd, Nat.reduceSub, Nat.reduceMul, Nat.reduceLT, Nat.reduceLeDiff, Nat.reduceEqDiff, Int.reduceToNat, Int.reduceBEq, Int.reduceBNe, Int.reduceEq, Int.reduceNe, Int.reduceNeg, Int.reduceLE, Int.reduceLT, reduceIte, reduceCtorEq, go_sem, Nat.add_sub_cancel, Nat.add_one_sub_one, Nat.sub_zero, Nat.mul_one, finP, finPs, viewP, viewPs, finT, finC, finCs, finL, finLs, finBs, viewOk, viewsOk, persL, inT, inC, inCs, inL, inLs, ndB, allP_nil, allP_cons, allP_append, iE_len, iE_allP]; done))) | (with_reducible refine AW.regionK mo (by kernel_rfl) ?_; intro K hK) | (with_reducible refine aSliceO.l ?_) | (with_reducible refine aBuildO.l ?_) | (with_reducible refine aStoreO.l ?_)); simp (maxSteps := 2000000) only [↓askG_tt, ↓askG_ff, ↓askG_tf, ↓askG_ft, ↓AOp, ↓aBin, ↓aUn, ↓aConv, ↓aAlloc, ↓aBox, ↓aBuild, ↓aLoad, ↓aStore, ↓aNil, ↓aFieldAddr, ↓aField, ↓aExtract, ↓aIndexAddr, ↓aIndex, ↓aSlice, ↓aMake, ↓aBuildSlice, ↓aFrz, ↓aLen, ↓aAppend, ↓aCopy, Nat.reduceAdd, Nat.reduceSub, Nat.reduceMul, Nat.reduceLT, Nat.reduceLeDiff, Nat.reduceEqDiff, Int.reduceToNat, Int.reduceBEq, Int.reduceBNe, Int.reduceEq, Int.reduceNe, Int.reduceNeg, Int.reduceLE, Int.reduceLT, reduceIte, reduceCtorEq, go_sem, Nat.add_sub_cancel, Nat.add_one_sub_one, Nat.sub_zero, Nat.mul_one, shiftP, shiftT, shiftC, shiftL, shiftB, newIds, idsOfT, List.zipIdx_cons, List.zipIdx_nil, g1, g2, g3, g4, g5, g8, g9, g9b, g10, g11])
    | (with_reducible refine hK _ ?_; clear hK K)
    | (with_reducible refine askG.mk (fun hg => ?_) (fun hg => ?_) <;> (try simp only [hcS] at hg) <;> (try first | contradiction | (exfalso; omega)))
    | ((with_reducible refine And.intro ?_ ?_); focus (first | (with_reducible show pairsOk _ _ = true; kernel_rfl) | omega | (with_reducible assumption) | kernel_rfl | (exact bytesE_len _) | (exact iE_one _) | (exact iE_allP _) | (exact bytesE_allP _) | (exact rowsE_len _) | (exact rowsE_allP _) | ((simp [allP_nil, allP_cons, persL]; done)) | ((simp [byV]; done)) | (simp; done) | (simp; omega)))
    | ((with_reducible first | show inBlockS _ _ _ _ | show thenS _ _ _ _); simp only [inBlockS, thenS, reduceIte, Nat.reduceEqDiff]))
      all_goals (refine ⟨_, [], rfl, ⟨rfl, ?_, ?_, ?_⟩⟩ <;> simp [go_sem, Nat.add_sub_cancel, Nat.add_one_sub_one, Nat.sub_zero, Nat.mul_one, finP, finPs, viewP, viewPs, finT, finC, finCs, finL, finLs, finBs, viewOk, viewsOk, persL, inT, inC, inCs, inL, inLs, ndB, allP_nil, allP_cons, allP_append]))
  · subst k
    by_cases a1 : 0 ≤ fm
    rotate_left 1
    have g1 : decide (fm < 0) = true := decide_eq_true (by omega)
    obtain rfl := bad (fun q => by first | (exact absurd q.2.2.2.1 a6) | (exact absurd (q.2.2.2.2.2.2.2 rfl) b3) | omega)
    have g2 : True := trivial
    have g3 : True := trivial
    have g4 : True := trivial
    have g5 : True := trivial
    have g8 : True := trivial
    have g9 : True := trivial
    have g9b : True := trivial
    have g10 : True := trivial
    have g11 : True := trivial
    have S : True := trivial
    rotate_right 1
    have g1 : decide (fm < 0) = false := decide_eq_false (by omega)
    by_cases a2 : fm ≤ 24
    rotate_left 1
    have g2 : decide (24 < fm) = true := decide_eq_true (by omega)
    obtain rfl := bad (fun q => by first | (exact absurd q.2.2.2.1 a6) | (exact absurd (q.2.2.2.2.2.2.2 rfl) b3) | omega)
    have g3 : True := trivial
    have g4 : True := trivial
    have g5 : True := trivial
    have g8 : True := trivial
    have g9 : True := trivial
    have g9b : True := trivial
    have g10 : True := trivial
    have g11 : True := trivial
    have S : True := trivial
    rotate_right 1
    have g2 : decide (24 < fm) = false := decide_eq_false (by omega)
    by_cases a3 : 0 ≤ tw
    rotate_left 1
    have g3 : decide (tw < 0) = true := decide_eq_true (by omega)
    obtain rfl := bad (fun q => by first | (exact absurd q.2.2.2.1 a6) | (exact absurd (q.2.2.2.2.2.2.2 rfl) b3) | omega)
    have g4 : True := trivial
    have g5 : True := trivial
    have g8 : True := trivial
    have g9 : True := trivial
    have g9b : True := trivial
    have g10 : True := trivial
    have g11 : True := trivial
    have S : True := trivial
    rotate_right 1
    have g3 : decide (tw < 0) = false := decide_eq_false (by omega)
    by_cases a4 : tw ≤ 24
    rotate_left 1
    have g4 : decide (24 < tw) = true := decide_eq_true (by omega)
    obtain rfl := bad (fun q => by first | (exact absurd q.2.2.2.1 a6) | (exact absurd (q.2.2.2.2.2.2.2 rfl) b3) | omega)
    have g5 : True := trivial
    have g8 : True := trivial
    have g9 : True := trivial
    have g9b : True := trivial
    have g10 : True := trivial
    have g11 : True := trivial
    have S : True := trivial
    rotate_right 1
    have g4 : decide (24 < tw) = false := decide_eq_false (by omega)
    by_cases a5 : fm = tw
    have g5 : (fm == tw) = true := by simp [a5]
    obtain rfl := bad (fun q => by first | (exact absurd q.2.2.2.1 a6) | (exact absurd (q.2.2.2.2.2.2.2 rfl) b3) | omega)
    have g8 : True := trivial
    have g9 : True := trivial
    have g9b : True := trivial
    have g10 : True := trivial
    have g11 : True := trivial
    have S : True := trivial
    rotate_left 1
    have g5 : (fm == tw) = false := by simp [a5]
    by_cases a6 : okC ch
    rotate_left 1
    have S := refStCheck_pc ⟨ep, ro, ch⟩ 1 (.inr ⟨rfl, a6⟩)
    simp only [stmT, stmC] at S
    obtain rfl := bad (fun q => by first | (exact absurd q.2.2.2.1 a6) | (exact absurd (q.2.2.2.2.2.2.2 rfl) b3) | omega)
    have g8 : True := trivial
    have g9 : True := trivial
    have g9b : True := trivial
    have g10 : True := trivial
    have g11 : True := trivial
    rotate_right 1
    have S := refStCheck_pc ⟨ep, ro, ch⟩ 0 (.inl ⟨rfl, a6⟩)
    simp only [stmT, stmC] at S
    by_cases b1 : sq < 0
    have g8 : decide (sq < 0) = true := decide_eq_true (by omega)
    obtain rfl := bad (fun q => by first | (exact absurd q.2.2.2.1 a6) | (exact absurd (q.2.2.2.2.2.2.2 rfl) b3) | omega)
    have g9 : True := trivial
    have g9b : True := trivial
    have g10 : True := trivial
    have g11 : True := trivial
    rotate_left 1
    have g8 : decide (sq < 0) = false := decide_eq_false (by omega)
    by_cases b2 : sq ≤ 2147483647
    rotate_left 1
    have g9 : decide (2147483647 < sq) = true := decide_eq_true (by omega)
    have g9b : decide (2147483648 ≤ sq) = true := decide_eq_true (by omega)
    obtain rfl := bad (fun q => by first | (exact absurd q.2.2.2.1 a6) | (exact absurd (q.2.2.2.2.2.2.2 rfl) b3) | omega)
    have g10 : True := trivial
    have g11 : True := trivial
    rotate_right 1
    have g9 : decide (2147483647 < sq) = false := decide_eq_false (by omega)
    have g9b : decide (2147483648 ≤ sq) = false := decide_eq_false (by omega)
    by_cases b3 : bd.length = 0
    rotate_left 1
    have g10 : decide (0 < (bd.length : Int)) = true := decide_eq_true (by omega)
    obtain rfl := bad (fun q => by first | (exact absurd q.2.2.2.1 a6) | (exact absurd (q.2.2.2.2.2.2.2 rfl) b3) | omega)
    have g11 : True := trivial
    rotate_right 1
    have g10 : decide (0 < (bd.length : Int)) = false := decide_eq_false (by omega)
    by_cases b4 : bd.length ≤ 65536
    rotate_left 1
    have g11 : decide (65536 < (bd.length : Int)) = true := decide_eq_true (by omega)
    obtain rfl : e = 2 := long ⟨⟨a1, a2⟩, ⟨a3, a4⟩, a5, a6, by omega, by omega, by omega, by omega⟩ (by omega)
    rotate_right 1
    have g11 : decide (65536 < (bd.length : Int)) = false := decide_eq_false (by omega)
    obtain rfl : e = 0 := good ⟨⟨a1, a2⟩, ⟨a3, a4⟩, a5, a6, by omega, by omega, by omega, by omega⟩ b4
    all_goals (
      refine PC.of_body Tryd.func14 rfl ?_
      intro Γ _ _
      simp only [Tryd.ntmps14, List.length_cons, List.length_nil, Nat.reduceAdd, Nat.reduceSub, List.replicate_succ, List.replicate_zero, List.cons_append, List.nil_append]
      repeat' (first
    | (with_reducible first | refine AW.seq ?_ | refine AW.block ?_ | refine AW.ret ?_ | refine AW.skip ?_ | refine AW.exit ?_)
    | ((refine AW.cond (by rfl) (fun hc => ?_) (fun hc => ?_)) <;> (try simp only [hcS] at hc) <;> (try first | contradiction | (exfalso; omega)))
    | ((refine AW.condB (by rfl) (fun hc => ?_) (fun hc => ?_)))
    | ((first | (refine aCall.view S fnOk28 ?_ ?_ ?_ ?_ ?_; (focus rfl); (focus (simp [plainT, plainC, plainL]; done)); (focus (first | exact plainBs_bytes _ | (simp [plainBs]; done))); (focus (simp [argsOk, viewTOk, viewP, viewPs, ↓askG_tt, ↓askG_ff, ↓askG_tf, ↓askG_ft, ↓AOp, ↓aBin, ↓aUn, ↓aConv, ↓aAlloc, ↓aBox, ↓aBuild, ↓aLoad, ↓aStore, ↓aNil, ↓aFieldAddr, ↓aField, ↓aExtract, ↓aIndexAddr, ↓aIndex, ↓aSlice, ↓aMake, ↓aBuildSlice, ↓aFrz, ↓aLen, ↓aAppend, ↓aCopy, Nat.reduceAdd, Nat.reduceSub, Nat.reduceMul, Nat.reduceLT, Nat.reduceLeDiff, Nat.reduceEqDiff, Int.reduceToNat, Int.reduceBEq, Int.reduceBNe, Int.reduceEq, Int.reduceNe, Int.reduceNeg, Int.reduceLE, Int.reduceLT, reduceIte, reduceCtorEq, go_sem, Nat.add_sub_cancel, Nat.add_one_sub_one, Nat.sub_zero, Nat.mul_one, finP, finPs, viewP, viewPs, finT, finC, finCs, finL, finLs, finBs, viewOk, viewsOk, persL, inT, inC, inCs, inL, inLs, ndB, allP_nil, allP_cons, allP_append, iE_len, iE_allP]; done))) | (with_reducible refine AW.regionK mo (by kernel_rfl) ?_; intro K hK) | (with_reducible refine aSliceO.l ?_) | (with_reducible refine aBuildO.l ?_) | (with_reducible refine aStoreO.l ?_)); simp (maxSteps := 2000000) only [↓askG_tt, ↓askG_ff, ↓askG_tf, ↓askG_ft, ↓AOp, ↓aBin, ↓aUn, ↓aConv, ↓aAlloc, ↓aBox, ↓aBuild, ↓aLoad, ↓aStore, ↓aNil, ↓aFieldAddr, ↓aField, ↓aExtract, ↓aIndexAddr, ↓aIndex, ↓aSlice, ↓aMake, ↓aBuildSlice, ↓aFrz, ↓aLen, ↓aAppend, ↓aCopy, Nat.reduceAdd, Nat.reduceSub, Nat.reduceMul, Nat.reduceLT, Nat.reduceLeDiff, Nat.reduceEqDiff, Int.reduceToNat, Int.reduceBEq, Int.reduceBNe, Int.reduceEq, Int.reduceNe, Int.reduceNeg, Int.reduceLE, Int.reduceLT, reduceIte, reduceCtorEq, go_sem, Nat.add_sub_cancel, Nat.add_one_sub_one, Nat.sub_zero, Nat.mul_one, shiftP, shiftT, shiftC, shiftL, shiftB, newIds, idsOfT, List.zipIdx_cons, List.zipIdx_nil, g1, g2, g3, g4, g5, g8, g9, g9b, g10, g11])
    | (with_reducible refine hK _ ?_; clear hK K)
    | (with_reducible refine askG.mk (fun hg => ?_) (fun hg => ?_) <;> (try simp only [hcS] at hg) <;> (try first | contradiction | (exfalso; omega)))
    | ((with_reducible refine And.intro ?_ ?_); focus (first | (with_reducible show pairsOk _ _ = true; kernel_rfl) | omega | (with_reducible assumption) | kernel_rfl | (exact bytesE_len _) | (exact iE_one _) | (exact iE_allP _) | (exact bytesE_allP _) | (exact rowsE_len _) | (exact rowsE_allP _) | ((simp [allP_nil, allP_cons, persL]; done)) | ((simp [byV]; done)) | (simp; done) | (simp; omega)))
    | ((with_reducible first | show inBlockS _ _ _ _ | show thenS _ _ _ _); simp only [inBlockS, thenS, reduceIte, Nat.reduceEqDiff]))
      all_goals (refine ⟨_, [], rfl, ⟨rfl, ?_, ?_, ?_⟩⟩ <;> simp [go_sem, Nat.add_sub_cancel, Nat.add_one_sub_one, Nat.sub_zero, Nat.mul_one, finP, finPs, viewP, viewPs, finT, finC, finCs, finL, finLs, finBs, viewOk, viewsOk, persL, inT, inC, inCs, inL, inLs, ndB, allP_nil, allP_cons, allP_append]))
  · have g7 : (kd != 1) = true := by simp; omega
    have g7b : (kd != 2) = true := by simp; omega
    by_cases a1 : 0 ≤ fm
    rotate_left 1
    have g1 : decide (fm < 0) = true := decide_eq_true (by omega)
    obtain rfl := bad (fun q => by first | (exact absurd q.2.2.2.1 a6) | (exact absurd (q.2.2.2.2.2.2.2 rfl) b3) | omega)
    have g2 : True := trivial
    have g3 : True := trivial
    have g4 : True := trivial
    have g5 : True := trivial
    have g8 : True := trivial
    have g9 : True := trivial
    have g9b : True := trivial
    have g10 : True := trivial
    have g11 : True := trivial
    have S : True := trivial
    rotate_right 1
    have g1 : decide (fm < 0) = false := decide_eq_false (by omega)
    by_cases a2 : fm ≤ 24
    rotate_left 1
    have g2 : decide (24 < fm) = true := decide_eq_true (by omega)
    obtain rfl := bad (fun q => by first | (exact absurd q.2.2.2.1 a6) | (exact absurd (q.2.2.2.2.2.2.2 rfl) b3) | omega)
    have g3 : True := trivial
    have g4 : True := trivial
    have g5 : True := trivial
    have g8 : True := trivial
    have g9 : True := trivial
    have g9b : True := trivial
    have g10 : True := trivial
    have g11 : True := trivial
    have S : True := trivial
    rotate_right 1
    have g2 : decide (24 < fm) = false := decide_eq_false (by omega)
    by_cases a3 : 0 ≤ tw
    rotate_left 1
    have g3 : decide (tw < 0) = true := decide_eq_true (by omega)
    obtain rfl := bad (fun q => by first | (exact absurd q.2.2.2.1 a6) | (exact absurd (q.2.2.2.2.2.2.2 rfl) b3) | omega)
    have g4 : True := trivial
    have g5 : True := trivial
    have g8 : True := trivial
    have g9 : True := trivial
    have g9b : True := trivial
    have g10 : True := trivial
    have g11 : True := trivial
    have S : True := trivial
    rotate_right 1
    have g3 : decide (tw < 0) = false := decide_eq_false (by omega)
    by_cases a4 : tw ≤ 24
    rotate_left 1
    have g4 : decide (24 < tw) = true := decide_eq_true (by omega)
    obtain rfl := bad (fun q => by first | (exact absurd q.2.2.2.1 a6) | (exact absurd (q.2.2.2.2.2.2.2 rfl) b3) | omega)
    have g5 : True := trivial
    have g8 : True := trivial
    have g9 : True := trivial
    have g9b : True := trivial
    have g10 : True := trivial
    have g11 : True := trivial
    have S : True := trivial
    rotate_right 1
    have g4 : decide (24 < tw) = false := decide_eq_false (by omega)
    by_cases a5 : fm = tw
    have g5 : (fm == tw) = true := by simp [a5]
    obtain rfl := bad (fun q => by first | (exact absurd q.2.2.2.1 a6) | (exact absurd (q.2.2.2.2.2.2.2 rfl) b3) | omega)
    have g8 : True := trivial
    have g9 : True := trivial
    have g9b : True := trivial
    have g10 : True := trivial
    have g11 : True := trivial
    have S : True := trivial
    rotate_left 1
    have g5 : (fm == tw) = false := by simp [a5]
    by_cases a6 : okC ch
    rotate_left 1
    have S := refStCheck_pc ⟨ep, ro, ch⟩ 1 (.inr ⟨rfl, a6⟩)
    simp only [stmT, stmC] at S
    obtain rfl := bad (fun q => by first | (exact absurd q.2.2.2.1 a6) | (exact absurd (q.2.2.2.2.2.2.2 rfl) b3) | omega)
    have g8 : True := trivial
    have g9 : True := trivial
    have g9b : True := trivial
    have g10 : True := trivial
    have g11 : True := trivial
    rotate_right 1
    have S := refStCheck_pc ⟨ep, ro, ch⟩ 0 (.inl ⟨rfl, a6⟩)
    simp only [stmT, stmC] at S
    by_cases b1 : sq < 0
    have g8 : decide (sq < 0) = true := decide_eq_true (by omega)
    obtain rfl := bad (fun q => by first | (exact absurd q.2.2.2.1 a6) | (exact absurd (q.2.2.2.2.2.2.2 rfl) b3) | omega)
    have g9 : True := trivial
    have g9b : True := trivial
    have g10 : True := trivial
    have g11 : True := trivial
    rotate_left 1
    have g8 : decide (sq < 0) = false := decide_eq_false (by omega)
    by_cases b2 : sq ≤ 2147483647
    rotate_left 1
    have g9 : decide (2147483647 < sq) = true := decide_eq_true (by omega)
    have g9b : decide (2147483648 ≤ sq) = true := decide_eq_true (by omega)
    obtain rfl := bad (fun q => by first | (exact absurd q.2.2.2.1 a6) | (exact absurd (q.2.2.2.2.2.2.2 rfl) b3) | omega)
    have g10 : True := trivial
    have g11 : True := trivial
    rotate_right 1
    have g9 : decide (2147483647 < sq) = false := decide_eq_false (by omega)
    have g9b : decide (2147483648 ≤ sq) = false := decide_eq_false (by omega)
    obtain rfl := bad (fun q => by first | (exact absurd q.2.2.2.1 a6) | (exact absurd (q.2.2.2.2.2.2.2 rfl) b3) | omega)
    have g10 : True := trivial
    have g11 : True := trivial
    all_goals (
      refine PC.of_body Tryd.func14 rfl ?_
      intro Γ _ _
      simp only [Tryd.ntmps14, List.length_cons, List.length_nil, Nat.reduceAdd, Nat.reduceSub, List.replicate_succ, List.replicate_zero, List.cons_append, List.nil_append]
      repeat' (first
    | (with_reducible first | refine AW.seq ?_ | refine AW.block ?_ | refine AW.ret ?_ | refine AW.skip ?_ | refine AW.exit ?_)
    | ((refine AW.cond (by rfl) (fun hc => ?_) (fun hc => ?_)) <;> (try simp only [hcS] at hc) <;> (try first | contradiction | (exfalso; omega)))
    | ((refine AW.condB (by rfl) (fun hc => ?_) (fun hc => ?_)))
    | ((first | (refine aCall.view S fnOk28 ?_ ?_ ?_ ?_ ?_; (focus rfl); (focus (simp [plainT, plainC, plainL]; done)); (focus (first | exact plainBs_bytes _ | (simp [plainBs]; done))); (focus (simp [argsOk, viewTOk, viewP, viewPs, ↓askG_tt, ↓askG_ff, ↓askG_tf, ↓askG_ft, ↓AOp, ↓aBin, ↓aUn, ↓aConv, ↓aAlloc, ↓aBox, ↓aBuild, ↓aLoad, ↓aStore, ↓aNil, ↓aFieldAddr, ↓aField, ↓aExtract, ↓aIndexAddr, ↓aIndex, ↓aSlice, ↓aMake, ↓aBuildSlice, ↓aFrz, ↓aLen, ↓aAppend, ↓aCopy, Nat.reduceAdd, Nat.reduceSub, Nat.reduceMul, Nat.reduceLT, Nat.reduceLeDiff, Nat.reduceEqDiff, Int.reduceToNat, Int.reduceBEq, Int.reduceBNe, Int.reduceEq, Int.reduceNe, Int.reduceNeg, Int.reduceLE, Int.reduceLT, reduceIte, reduceCtorEq, go_sem, Nat.add_sub_cancel, Nat.add_one_sub_one, Nat.sub_zero, Nat.mul_one, finP, finPs, viewP, viewPs, finT, finC, finCs, finL, finLs, finBs, viewOk, viewsOk, persL, inT, inC, inCs, inL, inLs, ndB, allP_nil, allP_cons, allP_append, iE_len, iE_allP]; done))) | (with_reducible refine AW.regionK mo (by kernel_rfl) ?_; intro K hK) | (with_reducible refine aSliceO.l ?_) | (with_reducible refine aBuildO.l ?_) | (with_reducible refine aStoreO.l ?_)); simp (maxSteps := 2000000) only [↓askG_tt, ↓askG_ff, ↓askG_tf, ↓askG_ft, ↓AOp, ↓aBin, ↓aUn, ↓aConv, ↓aAlloc, ↓aBox, ↓aBuild, ↓aLoad, ↓aStore, ↓aNil, ↓aFieldAddr, ↓aField, ↓aExtract, ↓aIndexAddr, ↓aIndex, ↓aSlice, ↓aMake, ↓aBuildSlice, ↓aFrz, ↓aLen, ↓aAppend, ↓aCopy, Nat.reduceAdd, Nat.reduceSub, Nat.reduceMul, Nat.reduceLT, Nat.reduceLeDiff, Nat.reduceEqDiff, Int.reduceToNat, Int.reduceBEq, Int.reduceBNe, Int.reduceEq, Int.reduceNe, Int.reduceNeg, Int.reduceLE, Int.reduceLT, reduceIte, reduceCtorEq, go_sem, Nat.add_sub_cancel, Nat.add_one_sub_one, Nat.sub_zero, Nat.mul_one, shiftP, shiftT, shiftC, shiftL, shiftB, newIds, idsOfT, List.zipIdx_cons, List.zipIdx_nil, g7, g7b, g1, g2, g3, g4, g5, g8, g9, g9b, g10, g11])
    | (with_reducible refine hK _ ?_; clear hK K)
    | (with_reducible refine askG.mk (fun hg => ?_) (fun hg => ?_) <;> (try simp only [hcS] at hg) <;> (try first | contradiction | (exfalso; omega)))
    | ((with_reducible refine And.intro ?_ ?_); focus (first | (with_reducible show pairsOk _ _ = true; kernel_rfl) | omega | (with_reducible assumption) | kernel_rfl | (exact bytesE_len _) | (exact iE_one _) | (exact iE_allP _) | (exact bytesE_allP _) | (exact rowsE_len _) | (exact rowsE_allP _) | ((simp [allP_nil, allP_cons, persL]; done)) | ((simp [byV]; done)) | (simp; done) | (simp; omega)))
    | ((with_reducible first | show inBlockS _ _ _ _ | show thenS _ _ _ _); simp only [inBlockS, thenS, reduceIte, Nat.reduceEqDiff]))
      all_goals (refine ⟨_, [], rfl, ⟨rfl, ?_, ?_, ?_⟩⟩ <;> simp [go_sem, Nat.add_sub_cancel, Nat.add_one_sub_one, Nat.sub_zero, Nat.mul_one, finP, finPs, viewP, viewPs, finT, finC, finCs, finL, finLs, finBs, viewOk, viewsOk, persL, inT, inC, inCs, inL, inLs, ndB, allP_nil, allP_cons, allP_append]))
end Go.Proofs.YtiifcgaililllaaDoor

/- words: four bytes. -/
namespace Go.Proofs.YtiifcgaililllaaDoor
set_option linter.unusedSimpArgs false
set_option linter.unusedVariables false
open Go Go.RowKit
attribute [local congr] AW_congr AOs_congr aCall_congr aCall1_congr aSem_congr aSliceO_congr aBuildO_congr aStoreO_congr
attribute [local go_sem] uC_own uC_ids uC_shift uC_frz uC_length tabK_uC ub_v bytes_set bytesE_one1 bytesE_consr bytesE_append bytesE_drop bytesE_take rowsE_length rowsE_get Option.map_map bytesE_length bytesE_get shiftE_bytes shiftE_rows exBytesE str_beq bytesE_take_self List.take_length
set_option maxRecDepth 100000

attribute [local simp] leEs_bytes
def be4 (n : Nat) : List UInt8 := (cntB n).drop 4
theorem be4_len (n : Nat) : (be4 n).length = 4 := by simp [be4, cntB_len]
def cntQ (n i : Nat) : List UInt8 := List.replicate (4 - i) 0 ++ (cntB n).drop (8 - i)
theorem cntQ_len (n : Nat) {i : Nat} (h : i ≤ 4) : (cntQ n i).length = 4 := by (simp [cntQ, cntB_len]; try omega)
theorem cntQ_zero (n : Nat) : cntQ n 0 = List.replicate 4 0 := by
  unfold cntQ
  rw [Nat.sub_zero, List.drop_of_length_le (by rw [cntB_len]; exact Nat.le_refl _), List.append_nil]
theorem cntQ_last (n : Nat) : cntQ n 4 = be4 n := by simp [cntQ, be4]
theorem cntQ_next (n : Nat) {i : Nat} (h : i < 4) : (cntQ n i).set (3 - i) (ub (shrI .u64 (n : Int) (8 * i))) = cntQ n (i + 1) := by
  unfold cntQ
  rw [show 4 - i = (3 - i) + 1 by omega, show 4 - (i + 1) = 3 - i by omega, List.replicate_succ', List.append_assoc, List.set_append_right _ _ (by simp), List.length_replicate, Nat.sub_self]
  have hd : (cntB n).drop (8 - (i + 1)) = ub (shrI .u64 (n : Int) (8 * i)) :: (cntB n).drop (8 - i) := by
    have hl := cntB_len n
    rw [show 8 - (i + 1) = 7 - i by omega, List.drop_eq_getElem_cons (by omega), show 7 - i + 1 = 8 - i by omega]
    have := cntB_get n (7 - i) (by omega)
    rw [List.getElem?_eq_getElem (by omega)] at this
    injection this with this
    rw [this, show 56 - 8 * (7 - i) = 8 * i by omega]
  rw [hd]; simp
theorem shr_32 (n : Nat) (h : n < 4294967296) : shrI .u64 (n : Int) 32 = 0 := by
  simp [shrI, IntKind.bits, Int.fdiv_eq_ediv_of_nonneg]; omega
theorem wordPut4_pc (n : Nat) (hn : n < 4294967296) : PC Tryd.prog 41 [numT n, intT 4] [⟨5, 1, bytesE (be4 n)⟩] (.tup [.leaf (.own 0 1 4), intT 0]) := by
  have hz : bytesE (cntQ n 0) = [[L.sc (.int .u8 0)], [L.sc (.int .u8 0)], [L.sc (.int .u8 0)], [L.sc (.int .u8 0)]] := by rw [cntQ_zero]; rfl
  have w32 : IntKind.i64.wrap 32 = 32 := wrap_i64 32 (by omega)
  have e32 := shr_32 n hn
  refine PC.of_body Tryd.func41 rfl ?_
  intro Γ _ _
  simp only [Tryd.ntmps41, List.length_cons, List.length_nil, Nat.reduceAdd, Nat.reduceSub, List.replicate_succ, List.replicate_zero, List.cons_append, List.nil_append]
  repeat' (first
    | (with_reducible first | refine AW.seq ?_ | refine AW.block ?_ | refine AW.ret ?_ | refine AW.skip ?_ | refine AW.exit ?_)
    | ((refine AW.cond (by rfl) (fun hc => ?_) (fun hc => ?_)) <;> (try simp only [hcS] at hc) <;> (try first | contradiction | (exfalso; omega)))
    | ((refine AW.condB (by rfl) (fun hc => ?_) (fun hc => ?_)))
    | ((first | (with_reducible refine AW.regionK mo (by kernel_rfl) ?_; intro K hK) | (with_reducible refine aSliceO.l ?_) | (with_reducible refine aBuildO.l ?_) | (with_reducible refine aStoreO.l ?_)); simp (maxSteps := 2000000) only [↓askG_tt, ↓askG_ff, ↓askG_tf, ↓askG_ft, ↓AOp, ↓aBin, ↓aUn, ↓aConv, ↓aAlloc, ↓aBox, ↓aBuild, ↓aLoad, ↓aStore, ↓aNil, ↓aFieldAddr, ↓aField, ↓aExtract, ↓aIndexAddr, ↓aIndex, ↓aSlice, ↓aMake, ↓aBuildSlice, ↓aFrz, ↓aLen, ↓aAppend, ↓aCopy, Nat.reduceAdd, Nat.reduceSub, Nat.reduceMul, Nat.reduceLT, Nat.reduceLeDiff, Nat.reduceEqDiff, Int.reduceToNat, Int.reduceBEq, Int.reduceBNe, Int.reduceEq, Int.reduceNe, Int.reduceNeg, Int.reduceLE, Int.reduceLT, reduceIte, reduceCtorEq, go_sem, Nat.add_sub_cancel, Nat.add_one_sub_one, Nat.sub_zero, Nat.mul_one, shiftP, shiftT, shiftC, shiftL, shiftB, newIds, idsOfT, List.zipIdx_cons, List.zipIdx_nil, bytes_zero, w32, e32, Int.reduceMul])
    | (with_reducible refine hK _ ?_; clear hK K)
    | (with_reducible refine askG.mk (fun hg => ?_) (fun hg => ?_) <;> (try simp only [hcS] at hg) <;> (try first | contradiction | (exfalso; omega)))
    | ((with_reducible refine And.intro ?_ ?_); focus (first | (with_reducible show pairsOk _ _ = true; kernel_rfl) | omega | (with_reducible assumption) | kernel_rfl | (exact bytesE_len _) | (exact iE_one _) | (exact iE_allP _) | (exact bytesE_allP _) | (exact rowsE_len _) | (exact rowsE_allP _) | ((simp [allP_nil, allP_cons, persL]; done)) | ((simp [byV]; done)) | (simp; done) | (simp; omega)))
    | ((with_reducible first | show inBlockS _ _ _ _ | show thenS _ _ _ _); simp only [inBlockS, thenS, reduceIte, Nat.reduceEqDiff]))
  refine AW.loopG (fun i : Nat => (27, intT i) :: (anys 7 1 (anys 28 14 []))) (fun i => [some ⟨5, 1, bytesE (cntQ n i)⟩]) (fun i => 4 - i) (fun i => i ≤ 4) 0 [0] (by omega) ⟨by simp, by simp [leEs_one, leP, lePs, inP, inPs, inEs, leTs, leT, leC, leCs, leL, leLs, leBs, overT, anys, inTs, inT, inCs, inC, inLs, inL, inBs, hOf, undefT], by simp [leEs_one, leP, lePs, inP, inPs, inEs, leTs, leT, leC, leCs, leL, leLs, leBs, overT, anys, inTs, inT, inCs, inC, inLs, inL, inBs, hOf, undefT, leEs_bytes, cntQ_zero]⟩ (fun i _ => ⟨by simp [leEs_one, leP, lePs, inP, inPs, inEs, leTs, leT, leC, leCs, leL, leLs, leBs, overT, anys, inTs, inT, inCs, inC, inLs, inL, inBs, hOf, undefT], by simp [leEs_one, leP, lePs, inP, inPs, inEs, leTs, leT, leC, leCs, leL, leLs, leBs, overT, anys, inTs, inT, inCs, inC, inLs, inL, inBs, hOf, undefT]⟩) ?_
  intro i hi
  simp only [overT, anys, ↓askG_tt, ↓askG_ff, ↓askG_tf, ↓askG_ft, ↓AOp, ↓aBin, ↓aUn, ↓aConv, ↓aAlloc, ↓aBox, ↓aBuild, ↓aLoad, ↓aStore, ↓aNil, ↓aFieldAddr, ↓aField, ↓aExtract, ↓aIndexAddr, ↓aIndex, ↓aSlice, ↓aMake, ↓aBuildSlice, ↓aFrz, ↓aLen, ↓aAppend, ↓aCopy, Nat.reduceAdd, Nat.reduceSub, Nat.reduceMul, Nat.reduceLT, Nat.reduceLeDiff, Nat.reduceEqDiff, Int.reduceToNat, Int.reduceBEq, Int.reduceBNe, Int.reduceEq, Int.reduceNe, Int.reduceNeg, Int.reduceLE, Int.reduceLT, reduceIte, reduceCtorEq, go_sem, Nat.add_sub_cancel, Nat.add_one_sub_one, Nat.sub_zero, Nat.mul_one]
  have hl := cntQ_len n hi
  by_cases hlt : i < 4
  · have g0 : decide ((i : Int) < 4) = true := by simp; omega
    have f0 : IntKind.i64.wrap (4 - 1) = 3 := wrap_i64 3 (by omega)
    have f1 : IntKind.i64.wrap 3 = 3 := wrap_i64 3 (by omega)
    have f2 : IntKind.i64.wrap (3 - (i : Int)) = ((3 - i : Nat) : Int) := by rw [wrap_i64 _ (by omega)]; omega
    have f3 : IntKind.i64.wrap (8 * (i : Int)) = ((8 * i : Nat) : Int) := by rw [wrap_i64 _ (by omega)]; omega
    have m4 := byte_get (b := cntQ n i) (k := 3 - i) (by omega)
    have m5 := cntQ_next n hlt
    repeat' (first
    | (with_reducible first | refine AW.seq ?_ | refine AW.block ?_ | refine AW.ret ?_ | refine AW.skip ?_ | refine AW.exit ?_)
    | ((refine AW.cond (by rfl) (fun hc => ?_) (fun hc => ?_)) <;> (try simp only [hcS] at hc) <;> (try first | contradiction | (exfalso; omega)))
    | ((refine AW.condB (by rfl) (fun hc => ?_) (fun hc => ?_)))
    | ((first | (with_reducible refine AW.regionK mo (by kernel_rfl) ?_; intro K hK) | (with_reducible refine aSliceO.l ?_) | (with_reducible refine aBuildO.l ?_) | (with_reducible refine aStoreO.l ?_)); simp (maxSteps := 2000000) only [↓askG_tt, ↓askG_ff, ↓askG_tf, ↓askG_ft, ↓AOp, ↓aBin, ↓aUn, ↓aConv, ↓aAlloc, ↓aBox, ↓aBuild, ↓aLoad, ↓aStore, ↓aNil, ↓aFieldAddr, ↓aField, ↓aExtract, ↓aIndexAddr, ↓aIndex, ↓aSlice, ↓aMake, ↓aBuildSlice, ↓aFrz, ↓aLen, ↓aAppend, ↓aCopy, Nat.reduceAdd, Nat.reduceSub, Nat.reduceMul, Nat.reduceLT, Nat.reduceLeDiff, Nat.reduceEqDiff, Int.reduceToNat, Int.reduceBEq, Int.reduceBNe, Int.reduceEq, Int.reduceNe, Int.reduceNeg, Int.reduceLE, Int.reduceLT, reduceIte, reduceCtorEq, go_sem, Nat.add_sub_cancel, Nat.add_one_sub_one, Nat.sub_zero, Nat.mul_one, shiftP, shiftT, shiftC, shiftL, shiftB, newIds, idsOfT, List.zipIdx_cons, List.zipIdx_nil, g0, f0, f1, f2, f3, hl, m4, m5])
    | (with_reducible refine hK _ ?_; clear hK K)
    | (with_reducible refine askG.mk (fun hg => ?_) (fun hg => ?_) <;> (try simp only [hcS] at hg) <;> (try first | contradiction | (exfalso; omega)))
    | ((with_reducible refine And.intro ?_ ?_); focus (first | (with_reducible show pairsOk _ _ = true; kernel_rfl) | omega | (with_reducible assumption) | kernel_rfl | (exact bytesE_len _) | (exact iE_one _) | (exact iE_allP _) | (exact bytesE_allP _) | (exact rowsE_len _) | (exact rowsE_allP _) | ((simp [allP_nil, allP_cons, persL]; done)) | ((simp [byV]; done)) | (simp; done) | (simp; omega)))
    | ((with_reducible first | show inBlockS _ _ _ _ | show thenS _ _ _ _); simp only [inBlockS, thenS, reduceIte, Nat.reduceEqDiff]))
    rw [wrap_i64 _ (by omega)]
    exact ⟨[0], i + 1, by omega, by omega, ⟨by simp, by simp [leEs_one, leP, lePs, inP, inPs, inEs, leTs, leT, leC, leCs, leL, leLs, leBs, overT, anys, inTs, inT, inCs, inC, inLs, inL, inBs, hOf, undefT], by simp [leEs_one, leP, lePs, inP, inPs, inEs, leTs, leT, leC, leCs, leL, leLs, leBs, overT, anys, inTs, inT, inCs, inC, inLs, inL, inBs, hOf, undefT, leEs_bytes]⟩⟩
  · obtain rfl : i = 4 := by omega
    have g0 : decide (((4 : Nat) : Int) < 4) = false := by decide
    rw [cntQ_last]
    repeat' (first
    | (with_reducible first | refine AW.seq ?_ | refine AW.block ?_ | refine AW.ret ?_ | refine AW.skip ?_ | refine AW.exit ?_)
    | ((refine AW.cond (by rfl) (fun hc => ?_) (fun hc => ?_)) <;> (try simp only [hcS] at hc) <;> (try first | contradiction | (exfalso; omega)))
    | ((refine AW.condB (by rfl) (fun hc => ?_) (fun hc => ?_)))
    | ((first | (with_reducible refine AW.regionK mo (by kernel_rfl) ?_; intro K hK) | (with_reducible refine aSliceO.l ?_) | (with_reducible refine aBuildO.l ?_) | (with_reducible refine aStoreO.l ?_)); simp (maxSteps := 2000000) only [↓askG_tt, ↓askG_ff, ↓askG_tf, ↓askG_ft, ↓AOp, ↓aBin, ↓aUn, ↓aConv, ↓aAlloc, ↓aBox, ↓aBuild, ↓aLoad, ↓aStore, ↓aNil, ↓aFieldAddr, ↓aField, ↓aExtract, ↓aIndexAddr, ↓aIndex, ↓aSlice, ↓aMake, ↓aBuildSlice, ↓aFrz, ↓aLen, ↓aAppend, ↓aCopy, Nat.reduceAdd, Nat.reduceSub, Nat.reduceMul, Nat.reduceLT, Nat.reduceLeDiff, Nat.reduceEqDiff, Int.reduceToNat, Int.reduceBEq, Int.reduceBNe, Int.reduceEq, Int.reduceNe, Int.reduceNeg, Int.reduceLE, Int.reduceLT, reduceIte, reduceCtorEq, go_sem, Nat.add_sub_cancel, Nat.add_one_sub_one, Nat.sub_zero, Nat.mul_one, shiftP, shiftT, shiftC, shiftL, shiftB, newIds, idsOfT, List.zipIdx_cons, List.zipIdx_nil, g0])
    | (with_reducible refine hK _ ?_; clear hK K)
    | (with_reducible refine askG.mk (fun hg => ?_) (fun hg => ?_) <;> (try simp only [hcS] at hg) <;> (try first | contradiction | (exfalso; omega)))
    | ((with_reducible refine And.intro ?_ ?_); focus (first | (with_reducible show pairsOk _ _ = true; kernel_rfl) | omega | (with_reducible assumption) | kernel_rfl | (exact bytesE_len _) | (exact iE_one _) | (exact iE_allP _) | (exact bytesE_allP _) | (exact rowsE_len _) | (exact rowsE_allP _) | ((simp [allP_nil, allP_cons, persL]; done)) | ((simp [byV]; done)) | (simp; done) | (simp; omega)))
    | ((with_reducible first | show inBlockS _ _ _ _ | show thenS _ _ _ _); simp only [inBlockS, thenS, reduceIte, Nat.reduceEqDiff]))
    all_goals (refine ⟨_, [.inl 0], rfl, ⟨rfl, ?_, ?_, ?_⟩⟩ <;> simp [go_sem, Nat.add_sub_cancel, Nat.add_one_sub_one, Nat.sub_zero, Nat.mul_one, finP, finPs, viewP, viewPs, finT, finC, finCs, finL, finLs, finBs, viewOk, viewsOk, persL, inT, inC, inCs, inL, inLs, ndB, allP_nil, allP_cons, allP_append])
theorem num8_four (n : Nat) (h : n < 4294967296) : num8 n 4 = 0 := by
  unfold num8
  exact Nat.div_eq_of_lt (by omega)
theorem refPut4_pc (n : Nat) (h : n < 4294967296) : PC Tryd.prog 43 [numT n, intT 4] [⟨5, 1, bytesE (be4 n)⟩] (.tup [.leaf (.own 0 1 4), intT 0]) := by
  refine PC.of_body Tryd.func43 rfl ?_
  intro Γ _ _
  simp only [Tryd.ntmps43, List.length_cons, List.length_nil, Nat.reduceAdd, Nat.reduceSub, List.replicate_succ, List.replicate_zero, List.cons_append, List.nil_append]
  repeat' (first
    | (with_reducible first | refine AW.seq ?_ | refine AW.block ?_ | refine AW.ret ?_ | refine AW.skip ?_ | refine AW.exit ?_)
    | ((refine AW.cond (by rfl) (fun hc => ?_) (fun hc => ?_)) <;> (try simp only [hcS] at hc) <;> (try first | contradiction | (exfalso; omega)))
    | ((refine AW.condB (by rfl) (fun hc => ?_) (fun hc => ?_)))
    | ((first | (with_reducible refine AW.regionK mo (by kernel_rfl) ?_; intro K hK) | (with_reducible refine aSliceO.l ?_) | (with_reducible refine aBuildO.l ?_) | (with_reducible refine aStoreO.l ?_)); simp (maxSteps := 2000000) only [↓askG_tt, ↓askG_ff, ↓askG_tf, ↓askG_ft, ↓AOp, ↓aBin, ↓aUn, ↓aConv, ↓aAlloc, ↓aBox, ↓aBuild, ↓aLoad, ↓aStore, ↓aNil, ↓aFieldAddr, ↓aField, ↓aExtract, ↓aIndexAddr, ↓aIndex, ↓aSlice, ↓aMake, ↓aBuildSlice, ↓aFrz, ↓aLen, ↓aAppend, ↓aCopy, Nat.reduceAdd, Nat.reduceSub, Nat.reduceMul, Nat.reduceLT, Nat.reduceLeDiff, Nat.reduceEqDiff, Int.reduceToNat, Int.reduceBEq, Int.reduceBNe, Int.reduceEq, Int.reduceNe, Int.reduceNeg, Int.reduceLE, Int.reduceLT, reduceIte, reduceCtorEq, go_sem, Nat.add_sub_cancel, Nat.add_one_sub_one, Nat.sub_zero, Nat.mul_one, shiftP, shiftT, shiftC, shiftL, shiftB, newIds, idsOfT, List.zipIdx_cons, List.zipIdx_nil])
    | (with_reducible refine hK _ ?_; clear hK K)
    | (with_reducible refine askG.mk (fun hg => ?_) (fun hg => ?_) <;> (try simp only [hcS] at hg) <;> (try first | contradiction | (exfalso; omega)))
    | ((with_reducible refine And.intro ?_ ?_); focus (first | (with_reducible show pairsOk _ _ = true; kernel_rfl) | omega | (with_reducible assumption) | kernel_rfl | (exact bytesE_len _) | (exact iE_one _) | (exact iE_allP _) | (exact bytesE_allP _) | (exact rowsE_len _) | (exact rowsE_allP _) | ((simp [allP_nil, allP_cons, persL]; done)) | ((simp [byV]; done)) | (simp; done) | (simp; omega)))
    | ((with_reducible first | show inBlockS _ _ _ _ | show thenS _ _ _ _); simp only [inBlockS, thenS, reduceIte, Nat.reduceEqDiff]))
  refine AW.nilOwn 6 _ 5 1 rfl rfl ?_
  simp only [↓askG_tt, ↓askG_ff, ↓askG_tf, ↓askG_ft, ↓AOp, ↓aBin, ↓aUn, ↓aConv, ↓aAlloc, ↓aBox, ↓aBuild, ↓aLoad, ↓aStore, ↓aNil, ↓aFieldAddr, ↓aField, ↓aExtract, ↓aIndexAddr, ↓aIndex, ↓aSlice, ↓aMake, ↓aBuildSlice, ↓aFrz, ↓aLen, ↓aAppend, ↓aCopy, Nat.reduceAdd, Nat.reduceSub, Nat.reduceMul, Nat.reduceLT, Nat.reduceLeDiff, Nat.reduceEqDiff, Int.reduceToNat, Int.reduceBEq, Int.reduceBNe, Int.reduceEq, Int.reduceNe, Int.reduceNeg, Int.reduceLE, Int.reduceLT, reduceIte, reduceCtorEq, go_sem, Nat.add_sub_cancel, Nat.add_one_sub_one, Nat.sub_zero, Nat.mul_one]
  refine AW.loopG (fun i : Nat => (0, numT (num8 n i)) :: (6, .leaf (.own 0 1 i)) :: (14, intT i) :: (anys 15 10 [])) (fun i => [some ⟨5, 1, bytesE (out8 n i)⟩]) (fun i => 4 - i) (fun i => i ≤ 4) 0 [0] (by omega) ⟨by simp, by simp [leEs_one, leP, lePs, inP, inPs, inEs, leTs, leT, leC, leCs, leL, leLs, leBs, overT, anys, inTs, inT, inCs, inC, inLs, inL, inBs, hOf, undefT, num8], by simp [leEs_one, leP, lePs, inP, inPs, inEs, leTs, leT, leC, leCs, leL, leLs, leBs, overT, anys, inTs, inT, inCs, inC, inLs, inL, inBs, hOf, undefT, out8, cntB_len, leEs_bytes, List.drop_of_length_le]⟩ (fun i _ => ⟨by simp [leEs_one, leP, lePs, inP, inPs, inEs, leTs, leT, leC, leCs, leL, leLs, leBs, overT, anys, inTs, inT, inCs, inC, inLs, inL, inBs, hOf, undefT], by simp [leEs_one, leP, lePs, inP, inPs, inEs, leTs, leT, leC, leCs, leL, leLs, leBs, overT, anys, inTs, inT, inCs, inC, inLs, inL, inBs, hOf, undefT]⟩) ?_
  intro i hi
  simp only [overT, anys, ↓askG_tt, ↓askG_ff, ↓askG_tf, ↓askG_ft, ↓AOp, ↓aBin, ↓aUn, ↓aConv, ↓aAlloc, ↓aBox, ↓aBuild, ↓aLoad, ↓aStore, ↓aNil, ↓aFieldAddr, ↓aField, ↓aExtract, ↓aIndexAddr, ↓aIndex, ↓aSlice, ↓aMake, ↓aBuildSlice, ↓aFrz, ↓aLen, ↓aAppend, ↓aCopy, Nat.reduceAdd, Nat.reduceSub, Nat.reduceMul, Nat.reduceLT, Nat.reduceLeDiff, Nat.reduceEqDiff, Int.reduceToNat, Int.reduceBEq, Int.reduceBNe, Int.reduceEq, Int.reduceNe, Int.reduceNeg, Int.reduceLE, Int.reduceLT, reduceIte, reduceCtorEq, go_sem, Nat.add_sub_cancel, Nat.add_one_sub_one, Nat.sub_zero, Nat.mul_one]
  have hl := out8_len n (show i ≤ 8 by omega)
  by_cases hlt : i < 4
  · have g0 : decide ((i : Int) < 4) = true := by simp; omega
    have q0 : IntKind.u64.wrap ((num8 n i : Int).tdiv 256) = (num8 n (i + 1) : Int) := by
      have := num8_le n i
      rw [Int.tdiv_eq_ediv_of_nonneg (by omega), wrap_u64 _ (by omega), ← num8_next]; omega
    have hn := out8_next n (show i < 8 by omega)
    have hl2 := out8_len n (show i + 1 ≤ 8 by omega)
    repeat' (first
    | (with_reducible first | refine AW.seq ?_ | refine AW.block ?_ | refine AW.ret ?_ | refine AW.skip ?_ | refine AW.exit ?_)
    | ((refine AW.cond (by rfl) (fun hc => ?_) (fun hc => ?_)) <;> (try simp only [hcS] at hc) <;> (try first | contradiction | (exfalso; omega)))
    | ((refine AW.condB (by rfl) (fun hc => ?_) (fun hc => ?_)))
    | ((first | (with_reducible refine AW.regionK mo (by kernel_rfl) ?_; intro K hK) | (with_reducible refine aSliceO.l ?_) | (with_reducible refine aBuildO.l ?_) | (with_reducible refine aStoreO.l ?_)); simp (maxSteps := 2000000) only [↓askG_tt, ↓askG_ff, ↓askG_tf, ↓askG_ft, ↓AOp, ↓aBin, ↓aUn, ↓aConv, ↓aAlloc, ↓aBox, ↓aBuild, ↓aLoad, ↓aStore, ↓aNil, ↓aFieldAddr, ↓aField, ↓aExtract, ↓aIndexAddr, ↓aIndex, ↓aSlice, ↓aMake, ↓aBuildSlice, ↓aFrz, ↓aLen, ↓aAppend, ↓aCopy, Nat.reduceAdd, Nat.reduceSub, Nat.reduceMul, Nat.reduceLT, Nat.reduceLeDiff, Nat.reduceEqDiff, Int.reduceToNat, Int.reduceBEq, Int.reduceBNe, Int.reduceEq, Int.reduceNe, Int.reduceNeg, Int.reduceLE, Int.reduceLT, reduceIte, reduceCtorEq, go_sem, Nat.add_sub_cancel, Nat.add_one_sub_one, Nat.sub_zero, Nat.mul_one, shiftP, shiftT, shiftC, shiftL, shiftB, newIds, idsOfT, List.zipIdx_cons, List.zipIdx_nil, g0, q0, hn, hl, hl2])
    | (with_reducible refine hK _ ?_; clear hK K)
    | (with_reducible refine askG.mk (fun hg => ?_) (fun hg => ?_) <;> (try simp only [hcS] at hg) <;> (try first | contradiction | (exfalso; omega)))
    | ((with_reducible refine And.intro ?_ ?_); focus (first | (with_reducible show pairsOk _ _ = true; kernel_rfl) | omega | (with_reducible assumption) | kernel_rfl | (exact bytesE_len _) | (exact iE_one _) | (exact iE_allP _) | (exact bytesE_allP _) | (exact rowsE_len _) | (exact rowsE_allP _) | ((simp [allP_nil, allP_cons, persL]; done)) | ((simp [byV]; done)) | (simp; done) | (simp; omega)))
    | ((with_reducible first | show inBlockS _ _ _ _ | show thenS _ _ _ _); simp only [inBlockS, thenS, reduceIte, Nat.reduceEqDiff]))
    rw [wrap_i64 _ (by omega)]
    exact ⟨[2], i + 1, by omega, by omega, ⟨by simp, by (simp [leEs_one, leP, lePs, inP, inPs, inEs, leTs, leT, leC, leCs, leL, leLs, leBs, overT, anys, inTs, inT, inCs, inC, inLs, inL, inBs, hOf, undefT]; try omega), by simp [leEs_one, leP, lePs, inP, inPs, inEs, leTs, leT, leC, leCs, leL, leLs, leBs, overT, anys, inTs, inT, inCs, inC, inLs, inL, inBs, hOf, undefT, leEs_bytes]⟩⟩
  · obtain rfl : i = 4 := by omega
    have g0 : decide (((4 : Nat) : Int) < 4) = false := by decide
    have k2 := num8_four n h
    have k3 : out8 n 4 = be4 n := rfl
    rw [k3]
    repeat' (first
    | (with_reducible first | refine AW.seq ?_ | refine AW.block ?_ | refine AW.ret ?_ | refine AW.skip ?_ | refine AW.exit ?_)
    | ((refine AW.cond (by rfl) (fun hc => ?_) (fun hc => ?_)) <;> (try simp only [hcS] at hc) <;> (try first | contradiction | (exfalso; omega)))
    | ((refine AW.condB (by rfl) (fun hc => ?_) (fun hc => ?_)))
    | ((first | (with_reducible refine AW.regionK mo (by kernel_rfl) ?_; intro K hK) | (with_reducible refine aSliceO.l ?_) | (with_reducible refine aBuildO.l ?_) | (with_reducible refine aStoreO.l ?_)); simp (maxSteps := 2000000) only [↓askG_tt, ↓askG_ff, ↓askG_tf, ↓askG_ft, ↓AOp, ↓aBin, ↓aUn, ↓aConv, ↓aAlloc, ↓aBox, ↓aBuild, ↓aLoad, ↓aStore, ↓aNil, ↓aFieldAddr, ↓aField, ↓aExtract, ↓aIndexAddr, ↓aIndex, ↓aSlice, ↓aMake, ↓aBuildSlice, ↓aFrz, ↓aLen, ↓aAppend, ↓aCopy, Nat.reduceAdd, Nat.reduceSub, Nat.reduceMul, Nat.reduceLT, Nat.reduceLeDiff, Nat.reduceEqDiff, Int.reduceToNat, Int.reduceBEq, Int.reduceBNe, Int.reduceEq, Int.reduceNe, Int.reduceNeg, Int.reduceLE, Int.reduceLT, reduceIte, reduceCtorEq, go_sem, Nat.add_sub_cancel, Nat.add_one_sub_one, Nat.sub_zero, Nat.mul_one, shiftP, shiftT, shiftC, shiftL, shiftB, newIds, idsOfT, List.zipIdx_cons, List.zipIdx_nil, g0, k2])
    | (with_reducible refine hK _ ?_; clear hK K)
    | (with_reducible refine askG.mk (fun hg => ?_) (fun hg => ?_) <;> (try simp only [hcS] at hg) <;> (try first | contradiction | (exfalso; omega)))
    | ((with_reducible refine And.intro ?_ ?_); focus (first | (with_reducible show pairsOk _ _ = true; kernel_rfl) | omega | (with_reducible assumption) | kernel_rfl | (exact bytesE_len _) | (exact iE_one _) | (exact iE_allP _) | (exact bytesE_allP _) | (exact rowsE_len _) | (exact rowsE_allP _) | ((simp [allP_nil, allP_cons, persL]; done)) | ((simp [byV]; done)) | (simp; done) | (simp; omega)))
    | ((with_reducible first | show inBlockS _ _ _ _ | show thenS _ _ _ _); simp only [inBlockS, thenS, reduceIte, Nat.reduceEqDiff]))
    all_goals (refine ⟨_, [.inl 0], rfl, ⟨rfl, ?_, ?_, ?_⟩⟩ <;> simp [go_sem, Nat.add_sub_cancel, Nat.add_one_sub_one, Nat.sub_zero, Nat.mul_one, finP, finPs, viewP, viewPs, finT, finC, finCs, finL, finLs, finBs, viewOk, viewsOk, persL, inT, inC, inCs, inL, inLs, ndB, allP_nil, allP_cons, allP_append])
theorem must4_pc (n : Int) (h0 : 0 ≤ n) (h : n < 4294967296) : PC Tryd.prog 24 [.leaf (.sc (.int .i64 n)), intT 4] [⟨5, 1, bytesE (be4 n.toNat)⟩] (.leaf (.own 0 1 4)) := by
  have C := refPut4_pc n.toNat (by omega)
  have w : IntKind.u64.wrap n = ((n.toNat : Nat) : Int) := by rw [wrap_u64 _ (by omega)]; omega
  generalize be4 n.toNat = b at *
  generalize n.toNat = m at *
  refine PC.of_body Tryd.func24 rfl ?_
  intro Γ _ _
  simp only [Tryd.ntmps24, List.length_cons, List.length_nil, Nat.reduceAdd, Nat.reduceSub, List.replicate_succ, List.replicate_zero, List.cons_append, List.nil_append]
  repeat' (first
    | (with_reducible first | refine AW.seq ?_ | refine AW.block ?_ | refine AW.ret ?_ | refine AW.skip ?_ | refine AW.exit ?_)
    | ((refine AW.cond (by rfl) (fun hc => ?_) (fun hc => ?_)) <;> (try simp only [hcS] at hc) <;> (try first | contradiction | (exfalso; omega)))
    | ((refine AW.condB (by rfl) (fun hc => ?_) (fun hc => ?_)))
    | ((first | (refine aCall.pers (C) fnOk43 ?_ ?_ ?_ ?_; (focus rfl); (focus rfl); (focus (simp [persT, persL, w]; done))) | (with_reducible refine AW.regionK mo (by kernel_rfl) ?_; intro K hK) | (with_reducible refine aSliceO.l ?_) | (with_reducible refine aBuildO.l ?_) | (with_reducible refine aStoreO.l ?_)); simp (maxSteps := 2000000) only [↓askG_tt, ↓askG_ff, ↓askG_tf, ↓askG_ft, ↓AOp, ↓aBin, ↓aUn, ↓aConv, ↓aAlloc, ↓aBox, ↓aBuild, ↓aLoad, ↓aStore, ↓aNil, ↓aFieldAddr, ↓aField, ↓aExtract, ↓aIndexAddr, ↓aIndex, ↓aSlice, ↓aMake, ↓aBuildSlice, ↓aFrz, ↓aLen, ↓aAppend, ↓aCopy, Nat.reduceAdd, Nat.reduceSub, Nat.reduceMul, Nat.reduceLT, Nat.reduceLeDiff, Nat.reduceEqDiff, Int.reduceToNat, Int.reduceBEq, Int.reduceBNe, Int.reduceEq, Int.reduceNe, Int.reduceNeg, Int.reduceLE, Int.reduceLT, reduceIte, reduceCtorEq, go_sem, Nat.add_sub_cancel, Nat.add_one_sub_one, Nat.sub_zero, Nat.mul_one, shiftP, shiftT, shiftC, shiftL, shiftB, newIds, idsOfT, List.zipIdx_cons, List.zipIdx_nil, w])
    | (with_reducible refine hK _ ?_; clear hK K)
    | (with_reducible refine askG.mk (fun hg => ?_) (fun hg => ?_) <;> (try simp only [hcS] at hg) <;> (try first | contradiction | (exfalso; omega)))
    | ((with_reducible refine And.intro ?_ ?_); focus (first | (with_reducible show pairsOk _ _ = true; kernel_rfl) | omega | (with_reducible assumption) | kernel_rfl | (exact bytesE_len _) | (exact iE_one _) | (exact iE_allP _) | (exact bytesE_allP _) | (exact rowsE_len _) | (exact rowsE_allP _) | ((simp [allP_nil, allP_cons, persL]; done)) | ((simp [byV]; done)) | (simp; done) | (simp; omega)))
    | ((with_reducible first | show inBlockS _ _ _ _ | show thenS _ _ _ _); simp only [inBlockS, thenS, reduceIte, Nat.reduceEqDiff]))
  all_goals (refine ⟨_, [.inl 0], rfl, ⟨rfl, ?_, ?_, ?_⟩⟩ <;> simp [go_sem, Nat.add_sub_cancel, Nat.add_one_sub_one, Nat.sub_zero, Nat.mul_one, finP, finPs, viewP, viewPs, finT, finC, finCs, finL, finLs, finBs, viewOk, viewsOk, persL, inT, inC, inCs, inL, inLs, ndB, allP_nil, allP_cons, allP_append])
end Go.Proofs.YtiifcgaililllaaDoor

/- frames: written. -/
namespace Go.Proofs.YtiifcgaililllaaDoor
set_option linter.unusedSimpArgs false
set_option linter.unusedVariables false
open Go Go.RowKit
attribute [local congr] AW_congr AOs_congr aCall_congr aCall1_congr aSem_congr aSliceO_congr aBuildO_congr aStoreO_congr
attribute [local go_sem] uC_own uC_ids uC_shift uC_frz uC_length tabK_uC ub_v bytes_set bytesE_one1 bytesE_consr bytesE_append bytesE_drop bytesE_take rowsE_length rowsE_get Option.map_map bytesE_length bytesE_get shiftE_bytes shiftE_rows exBytesE str_beq bytesE_take_self List.take_length
set_option maxRecDepth 100000

attribute [local simp] leEs_bytes leEs_iE iE_allP
def saidF (f : Frm) : List UInt8 := [[ub f.fm, ub f.tw], putS f.st, [ub f.kd], be4 f.sq.toNat, be4 f.bd.length, f.bd].flatten
theorem putS_len (s : Stm) : (putS s).length = 17 + s.ch.length := putP_len s (Nat.le_refl _)
theorem saidF_len (f : Frm) : (saidF f).length = 28 + f.st.ch.length + f.bd.length := by
  simp [saidF, putS_len, be4_len]; omega
def putF (key : List UInt8) (f : Frm) : List UInt8 := saidF f ++ macTag key (saidF f)
theorem putF_len (key : List UInt8) (f : Frm) : (putF key f).length = 60 + f.st.ch.length + f.bd.length := by
  simp [putF, saidF_len, macTag_len]; omega
set_option maxHeartbeats 4000000 in
theorem said_pc (f : Frm) (h : okF f) (hb : f.bd.length ≤ 65536) : PC Tryd.prog 21 [frmT f] [⟨5, 1, bytesE (saidF f)⟩] (.leaf (.own 0 1 (28 + f.st.ch.length + f.bd.length))) := by
  obtain ⟨_, _, _, hc, _, hs0, hs1, _⟩ := h
  have hc8 := hc.2.1
  have C1 := stPut_pc f.st hc
  have C2 := wordPut4_pc f.sq.toNat (by omega)
  have C3 := wordPut4_pc f.bd.length (by omega)
  have w1 : IntKind.u64.wrap f.sq = ((f.sq.toNat : Nat) : Int) := by rw [wrap_u64 _ (by omega)]; omega
  have w2 : IntKind.u64.wrap (f.bd.length : Int) = ((f.bd.length : Nat) : Int) := by rw [wrap_u64 _ (by omega)]
  have C4 := concatB_pc [[ub f.fm, ub f.tw], putS f.st, [ub f.kd], be4 f.sq.toNat, be4 f.bd.length, f.bd] (by simp) (by have := saidF_len f; unfold saidF at this; omega)
  have e1 : ([[ub f.fm, ub f.tw], putS f.st, [ub f.kd], be4 f.sq.toNat, be4 f.bd.length, f.bd] : List Txt').flatten = saidF f := rfl
  rw [e1, saidF_len] at C4
  have l1 := putS_len f.st
  have l2 := be4_len f.sq.toNat
  have l3 := be4_len f.bd.length
  clear e1
  generalize saidF f = z at *
  generalize putS f.st = s at *
  generalize be4 f.sq.toNat = q at *
  generalize be4 f.bd.length = n at *
  obtain ⟨fm, tw, ⟨ep, ro, ch⟩, kd, sq, bd⟩ := f
  simp only [frmT, frmC, stmT, stmC] at *
  generalize sq.toNat = sn at *
  refine PC.of_body Tryd.func21 rfl ?_
  intro Γ _ _
  simp only [Tryd.ntmps21, List.length_cons, List.length_nil, Nat.reduceAdd, Nat.reduceSub, List.replicate_succ, List.replicate_zero, List.cons_append, List.nil_append]
  repeat' (first
    | (with_reducible first | refine AW.seq ?_ | refine AW.block ?_ | refine AW.ret ?_ | refine AW.skip ?_ | refine AW.exit ?_)
    | ((refine AW.cond (by rfl) (fun hc => ?_) (fun hc => ?_)) <;> (try simp only [hcS] at hc) <;> (try first | contradiction | (exfalso; omega)))
    | ((refine AW.condB (by rfl) (fun hc => ?_) (fun hc => ?_)))
    | ((first | (refine aCall.pers (C1) fnOk40 ?_ ?_ ?_ ?_; (focus rfl); (focus rfl); (focus (simp [persT, persL, w1, w2, l1, l2, l3, iE_len, rowsE_cons, rowsE_nil, textC]; done))) | (refine aCall.pers (C2) fnOk41 ?_ ?_ ?_ ?_; (focus rfl); (focus rfl); (focus (simp [persT, persL, w1, w2, l1, l2, l3, iE_len, rowsE_cons, rowsE_nil, textC]; done))) | (refine aCall.pers (C3) fnOk41 ?_ ?_ ?_ ?_; (focus rfl); (focus rfl); (focus (simp [persT, persL, w1, w2, l1, l2, l3, iE_len, rowsE_cons, rowsE_nil, textC]; done))) | (refine aCall.frzAll ?_) | (refine aCall1.wk (C4) fnOk22 ?_ ?_ ?_ ?_; (focus rfl); (focus (simp [wkTs, wkT, wkLs, wkL, isNilSl, St.ev, evalT, w1, w2, l1, l2, l3, iE_len, rowsE_cons, rowsE_nil, textC]; done)); (focus (simp [persT, persL, St.ev, evalT, w1, w2, l1, l2, l3, iE_len, rowsE_cons, rowsE_nil, textC]; done))) | (with_reducible refine AW.regionK mo (by kernel_rfl) ?_; intro K hK) | (with_reducible refine aSliceO.l ?_) | (with_reducible refine aBuildO.l ?_) | (with_reducible refine aStoreO.l ?_)); simp (maxSteps := 2000000) only [↓askG_tt, ↓askG_ff, ↓askG_tf, ↓askG_ft, ↓AOp, ↓aBin, ↓aUn, ↓aConv, ↓aAlloc, ↓aBox, ↓aBuild, ↓aLoad, ↓aStore, ↓aNil, ↓aFieldAddr, ↓aField, ↓aExtract, ↓aIndexAddr, ↓aIndex, ↓aSlice, ↓aMake, ↓aBuildSlice, ↓aFrz, ↓aLen, ↓aAppend, ↓aCopy, Nat.reduceAdd, Nat.reduceSub, Nat.reduceMul, Nat.reduceLT, Nat.reduceLeDiff, Nat.reduceEqDiff, Int.reduceToNat, Int.reduceBEq, Int.reduceBNe, Int.reduceEq, Int.reduceNe, Int.reduceNeg, Int.reduceLE, Int.reduceLT, reduceIte, reduceCtorEq, go_sem, Nat.add_sub_cancel, Nat.add_one_sub_one, Nat.sub_zero, Nat.mul_one, shiftP, shiftT, shiftC, shiftL, shiftB, newIds, idsOfT, List.zipIdx_cons, List.zipIdx_nil, w1, w2, l1, l2, l3, iE_len, rowsE_cons, rowsE_nil, textC])
    | (with_reducible refine hK _ ?_; clear hK K)
    | (with_reducible refine askG.mk (fun hg => ?_) (fun hg => ?_) <;> (try simp only [hcS] at hg) <;> (try first | contradiction | (exfalso; omega)))
    | ((with_reducible refine And.intro ?_ ?_); focus (first | (with_reducible show pairsOk _ _ = true; kernel_rfl) | omega | (with_reducible assumption) | kernel_rfl | (exact bytesE_len _) | (exact iE_one _) | (exact iE_allP _) | (exact bytesE_allP _) | (exact rowsE_len _) | (exact rowsE_allP _) | ((simp [allP_nil, allP_cons, persL]; done)) | ((simp [byV]; done)) | (simp; done) | (simp; omega)))
    | ((with_reducible first | show inBlockS _ _ _ _ | show thenS _ _ _ _); simp only [inBlockS, thenS, reduceIte, Nat.reduceEqDiff]))
  all_goals (refine ⟨_, [.inl 7], rfl, ⟨rfl, ?_, ?_, ?_⟩⟩ <;> simp [go_sem, Nat.add_sub_cancel, Nat.add_one_sub_one, Nat.sub_zero, Nat.mul_one, finP, finPs, viewP, viewPs, finT, finC, finCs, finL, finLs, finBs, viewOk, viewsOk, persL, inT, inC, inCs, inL, inLs, ndB, allP_nil, allP_cons, allP_append])
theorem frPutBad_pc (key : List UInt8) (f : Frm) (e : Int) (he : ChkF f e) (h : e ≠ 0) : PC Tryd.prog 11 [bytesT key, frmT f] [] (.tup [.leaf (.sl []), .leaf (.sc (.int .i64 e))]) := by
  have C := frCheck_pc f e he
  have g0 : (e != 0) = true := by simp; omega
  clear he
  obtain ⟨fm, tw, ⟨ep, ro, ch⟩, kd, sq, bd⟩ := f
  simp only [frmT, frmC] at *
  refine PC.of_body Tryd.func11 rfl ?_
  intro Γ _ _
  simp only [Tryd.ntmps11, List.length_cons, List.length_nil, Nat.reduceAdd, Nat.reduceSub, List.replicate_succ, List.replicate_zero, List.cons_append, List.nil_append]
  repeat' (first
    | (with_reducible first | refine AW.seq ?_ | refine AW.block ?_ | refine AW.ret ?_ | refine AW.skip ?_ | refine AW.exit ?_)
    | ((refine AW.cond (by rfl) (fun hc => ?_) (fun hc => ?_)) <;> (try simp only [hcS] at hc) <;> (try first | contradiction | (exfalso; omega)))
    | ((refine AW.condB (by rfl) (fun hc => ?_) (fun hc => ?_)))
    | ((first | (refine aCall.pers (C) fnOk13 ?_ ?_ ?_ ?_; (focus rfl); (focus rfl); (focus (simp [persT, persL, g0]; done))) | (with_reducible refine AW.regionK mo (by kernel_rfl) ?_; intro K hK) | (with_reducible refine aSliceO.l ?_) | (with_reducible refine aBuildO.l ?_) | (with_reducible refine aStoreO.l ?_)); simp (maxSteps := 2000000) only [↓askG_tt, ↓askG_ff, ↓askG_tf, ↓askG_ft, ↓AOp, ↓aBin, ↓aUn, ↓aConv, ↓aAlloc, ↓aBox, ↓aBuild, ↓aLoad, ↓aStore, ↓aNil, ↓aFieldAddr, ↓aField, ↓aExtract, ↓aIndexAddr, ↓aIndex, ↓aSlice, ↓aMake, ↓aBuildSlice, ↓aFrz, ↓aLen, ↓aAppend, ↓aCopy, Nat.reduceAdd, Nat.reduceSub, Nat.reduceMul, Nat.reduceLT, Nat.reduceLeDiff, Nat.reduceEqDiff, Int.reduceToNat, Int.reduceBEq, Int.reduceBNe, Int.reduceEq, Int.reduceNe, Int.reduceNeg, Int.reduceLE, Int.reduceLT, reduceIte, reduceCtorEq, go_sem, Nat.add_sub_cancel, Nat.add_one_sub_one, Nat.sub_zero, Nat.mul_one, shiftP, shiftT, shiftC, shiftL, shiftB, newIds, idsOfT, List.zipIdx_cons, List.zipIdx_nil, g0])
    | (with_reducible refine hK _ ?_; clear hK K)
    | (with_reducible refine askG.mk (fun hg => ?_) (fun hg => ?_) <;> (try simp only [hcS] at hg) <;> (try first | contradiction | (exfalso; omega)))
    | ((with_reducible refine And.intro ?_ ?_); focus (first | (with_reducible show pairsOk _ _ = true; kernel_rfl) | omega | (with_reducible assumption) | kernel_rfl | (exact bytesE_len _) | (exact iE_one _) | (exact iE_allP _) | (exact bytesE_allP _) | (exact rowsE_len _) | (exact rowsE_allP _) | ((simp [allP_nil, allP_cons, persL]; done)) | ((simp [byV]; done)) | (simp; done) | (simp; omega)))
    | ((with_reducible first | show inBlockS _ _ _ _ | show thenS _ _ _ _); simp only [inBlockS, thenS, reduceIte, Nat.reduceEqDiff]))
  all_goals (refine ⟨_, [], rfl, ⟨rfl, ?_, ?_, ?_⟩⟩ <;> simp [go_sem, Nat.add_sub_cancel, Nat.add_one_sub_one, Nat.sub_zero, Nat.mul_one, finP, finPs, viewP, viewPs, finT, finC, finCs, finL, finLs, finBs, viewOk, viewsOk, persL, inT, inC, inCs, inL, inLs, ndB, allP_nil, allP_cons, allP_append])
theorem refFrPutBad_pc (key : List UInt8) (f : Frm) (e : Int) (he : ChkF f e) (h : e ≠ 0) : PC Tryd.prog 12 [bytesT key, frmT f] [] (.tup [.leaf (.sl []), .leaf (.sc (.int .i64 e))]) := by
  have C := refFrCheck_pc f e he
  have g0 : (e != 0) = true := by simp; omega
  clear he
  obtain ⟨fm, tw, ⟨ep, ro, ch⟩, kd, sq, bd⟩ := f
  simp only [frmT, frmC] at *
  refine PC.of_body Tryd.func12 rfl ?_
  intro Γ _ _
  simp only [Tryd.ntmps12, List.length_cons, List.length_nil, Nat.reduceAdd, Nat.reduceSub, List.replicate_succ, List.replicate_zero, List.cons_append, List.nil_append]
  repeat' (first
    | (with_reducible first | refine AW.seq ?_ | refine AW.block ?_ | refine AW.ret ?_ | refine AW.skip ?_ | refine AW.exit ?_)
    | ((refine AW.cond (by rfl) (fun hc => ?_) (fun hc => ?_)) <;> (try simp only [hcS] at hc) <;> (try first | contradiction | (exfalso; omega)))
    | ((refine AW.condB (by rfl) (fun hc => ?_) (fun hc => ?_)))
    | ((first | (refine aCall.pers (C) fnOk14 ?_ ?_ ?_ ?_; (focus rfl); (focus rfl); (focus (simp [persT, persL, g0]; done))) | (with_reducible refine AW.regionK mo (by kernel_rfl) ?_; intro K hK) | (with_reducible refine aSliceO.l ?_) | (with_reducible refine aBuildO.l ?_) | (with_reducible refine aStoreO.l ?_)); simp (maxSteps := 2000000) only [↓askG_tt, ↓askG_ff, ↓askG_tf, ↓askG_ft, ↓AOp, ↓aBin, ↓aUn, ↓aConv, ↓aAlloc, ↓aBox, ↓aBuild, ↓aLoad, ↓aStore, ↓aNil, ↓aFieldAddr, ↓aField, ↓aExtract, ↓aIndexAddr, ↓aIndex, ↓aSlice, ↓aMake, ↓aBuildSlice, ↓aFrz, ↓aLen, ↓aAppend, ↓aCopy, Nat.reduceAdd, Nat.reduceSub, Nat.reduceMul, Nat.reduceLT, Nat.reduceLeDiff, Nat.reduceEqDiff, Int.reduceToNat, Int.reduceBEq, Int.reduceBNe, Int.reduceEq, Int.reduceNe, Int.reduceNeg, Int.reduceLE, Int.reduceLT, reduceIte, reduceCtorEq, go_sem, Nat.add_sub_cancel, Nat.add_one_sub_one, Nat.sub_zero, Nat.mul_one, shiftP, shiftT, shiftC, shiftL, shiftB, newIds, idsOfT, List.zipIdx_cons, List.zipIdx_nil, g0])
    | (with_reducible refine hK _ ?_; clear hK K)
    | (with_reducible refine askG.mk (fun hg => ?_) (fun hg => ?_) <;> (try simp only [hcS] at hg) <;> (try first | contradiction | (exfalso; omega)))
    | ((with_reducible refine And.intro ?_ ?_); focus (first | (with_reducible show pairsOk _ _ = true; kernel_rfl) | omega | (with_reducible assumption) | kernel_rfl | (exact bytesE_len _) | (exact iE_one _) | (exact iE_allP _) | (exact bytesE_allP _) | (exact rowsE_len _) | (exact rowsE_allP _) | ((simp [allP_nil, allP_cons, persL]; done)) | ((simp [byV]; done)) | (simp; done) | (simp; omega)))
    | ((with_reducible first | show inBlockS _ _ _ _ | show thenS _ _ _ _); simp only [inBlockS, thenS, reduceIte, Nat.reduceEqDiff]))
  all_goals (refine ⟨_, [], rfl, ⟨rfl, ?_, ?_, ?_⟩⟩ <;> simp [go_sem, Nat.add_sub_cancel, Nat.add_one_sub_one, Nat.sub_zero, Nat.mul_one, finP, finPs, viewP, viewPs, finT, finC, finCs, finL, finLs, finBs, viewOk, viewsOk, persL, inT, inC, inCs, inL, inLs, ndB, allP_nil, allP_cons, allP_append])
set_option maxHeartbeats 4000000 in
theorem frPut_pc (key : List UInt8) (f : Frm) (hk : key.length ≤ 1000000) (h : okF f) (hb : f.bd.length ≤ 65536) : PC Tryd.prog 11 [bytesT key, frmT f] [⟨5, 1, bytesE (putF key f)⟩] (.tup [.leaf (.own 0 1 (60 + f.st.ch.length + f.bd.length)), intT 0]) := by
  have C := frCheck_pc f 0 (.inl ⟨h, hb, rfl⟩)
  have W := said_pc f h hb
  have hc8 := h.2.2.2.1.2.1
  have ls := saidF_len f
  have lz := putF_len key f
  have C2 := tag_pc key (saidF f) hk (by omega)
  have lt := macTag_len key (saidF f)
  have C3 := concatB_pc [saidF f, macTag key (saidF f)] (by simp) (by simp [macTag_len]; omega)
  have e1 : ([saidF f, macTag key (saidF f)] : List Txt').flatten = putF key f := by simp [putF]
  rw [e1, lz] at C3
  clear e1 h
  generalize putF key f = z at *
  generalize macTag key (saidF f) = t at *
  generalize saidF f = s at *
  obtain ⟨fm, tw, ⟨ep, ro, ch⟩, kd, sq, bd⟩ := f
  simp only [frmT, frmC] at *
  refine PC.of_body Tryd.func11 rfl ?_
  intro Γ _ _
  simp only [Tryd.ntmps11, List.length_cons, List.length_nil, Nat.reduceAdd, Nat.reduceSub, List.replicate_succ, List.replicate_zero, List.cons_append, List.nil_append]
  repeat' (first
    | (with_reducible first | refine AW.seq ?_ | refine AW.block ?_ | refine AW.ret ?_ | refine AW.skip ?_ | refine AW.exit ?_)
    | ((refine AW.cond (by rfl) (fun hc => ?_) (fun hc => ?_)) <;> (try simp only [hcS] at hc) <;> (try first | contradiction | (exfalso; omega)))
    | ((refine AW.condB (by rfl) (fun hc => ?_) (fun hc => ?_)))
    | ((first | (refine aCall.pers (C) fnOk13 ?_ ?_ ?_ ?_; (focus rfl); (focus rfl); (focus (simp [persT, persL, ls, lt, rowsE_cons, rowsE_nil, textC]; done))) | (refine aCall.pers (W) fnOk21 ?_ ?_ ?_ ?_; (focus rfl); (focus rfl); (focus (simp [persT, persL, ls, lt, rowsE_cons, rowsE_nil, textC]; done))) | (refine aCall.view C2 fnOk20 ?_ ?_ ?_ ?_ ?_; (focus rfl); (focus (simp [plainT, plainC, plainL]; done)); (focus (first | exact plainBs_bytes _ | (simp [plainBs]; done))); (focus (simp [argsOk, viewTOk, viewP, viewPs, ↓askG_tt, ↓askG_ff, ↓askG_tf, ↓askG_ft, ↓AOp, ↓aBin, ↓aUn, ↓aConv, ↓aAlloc, ↓aBox, ↓aBuild, ↓aLoad, ↓aStore, ↓aNil, ↓aFieldAddr, ↓aField, ↓aExtract, ↓aIndexAddr, ↓aIndex, ↓aSlice, ↓aMake, ↓aBuildSlice, ↓aFrz, ↓aLen, ↓aAppend, ↓aCopy, Nat.reduceAdd, Nat.reduceSub, Nat.reduceMul, Nat.reduceLT, Nat.reduceLeDiff, Nat.reduceEqDiff, Int.reduceToNat, Int.reduceBEq, Int.reduceBNe, Int.reduceEq, Int.reduceNe, Int.reduceNeg, Int.reduceLE, Int.reduceLT, reduceIte, reduceCtorEq, go_sem, Nat.add_sub_cancel, Nat.add_one_sub_one, Nat.sub_zero, Nat.mul_one, finP, finPs, viewP, viewPs, finT, finC, finCs, finL, finLs, finBs, viewOk, viewsOk, persL, inT, inC, inCs, inL, inLs, ndB, allP_nil, allP_cons, allP_append]; done))) | (refine aCall.frzAll ?_) | (refine aCall1.wk (C3) fnOk22 ?_ ?_ ?_ ?_; (focus rfl); (focus (simp [wkTs, wkT, wkLs, wkL, isNilSl, St.ev, evalT, ls, lt, rowsE_cons, rowsE_nil, textC]; done)); (focus (simp [persT, persL, St.ev, evalT, ls, lt, rowsE_cons, rowsE_nil, textC]; done))) | (with_reducible refine AW.regionK mo (by kernel_rfl) ?_; intro K hK) | (with_reducible refine aSliceO.l ?_) | (with_reducible refine aBuildO.l ?_) | (with_reducible refine aStoreO.l ?_)); simp (maxSteps := 2000000) only [↓askG_tt, ↓askG_ff, ↓askG_tf, ↓askG_ft, ↓AOp, ↓aBin, ↓aUn, ↓aConv, ↓aAlloc, ↓aBox, ↓aBuild, ↓aLoad, ↓aStore, ↓aNil, ↓aFieldAddr, ↓aField, ↓aExtract, ↓aIndexAddr, ↓aIndex, ↓aSlice, ↓aMake, ↓aBuildSlice, ↓aFrz, ↓aLen, ↓aAppend, ↓aCopy, Nat.reduceAdd, Nat.reduceSub, Nat.reduceMul, Nat.reduceLT, Nat.reduceLeDiff, Nat.reduceEqDiff, Int.reduceToNat, Int.reduceBEq, Int.reduceBNe, Int.reduceEq, Int.reduceNe, Int.reduceNeg, Int.reduceLE, Int.reduceLT, reduceIte, reduceCtorEq, go_sem, Nat.add_sub_cancel, Nat.add_one_sub_one, Nat.sub_zero, Nat.mul_one, shiftP, shiftT, shiftC, shiftL, shiftB, newIds, idsOfT, List.zipIdx_cons, List.zipIdx_nil, ls, lt, rowsE_cons, rowsE_nil, textC])
    | (with_reducible refine hK _ ?_; clear hK K)
    | (with_reducible refine askG.mk (fun hg => ?_) (fun hg => ?_) <;> (try simp only [hcS] at hg) <;> (try first | contradiction | (exfalso; omega)))
    | ((with_reducible refine And.intro ?_ ?_); focus (first | (with_reducible show pairsOk _ _ = true; kernel_rfl) | omega | (with_reducible assumption) | kernel_rfl | (exact bytesE_len _) | (exact iE_one _) | (exact iE_allP _) | (exact bytesE_allP _) | (exact rowsE_len _) | (exact rowsE_allP _) | ((simp [allP_nil, allP_cons, persL]; done)) | ((simp [byV]; done)) | (simp; done) | (simp; omega)))
    | ((with_reducible first | show inBlockS _ _ _ _ | show thenS _ _ _ _); simp only [inBlockS, thenS, reduceIte, Nat.reduceEqDiff]))
  all_goals (refine ⟨_, [.inl 4], rfl, ⟨rfl, ?_, ?_, ?_⟩⟩ <;> simp [go_sem, Nat.add_sub_cancel, Nat.add_one_sub_one, Nat.sub_zero, Nat.mul_one, finP, finPs, viewP, viewPs, finT, finC, finCs, finL, finLs, finBs, viewOk, viewsOk, persL, inT, inC, inCs, inL, inLs, ndB, allP_nil, allP_cons, allP_append])
set_option maxHeartbeats 4000000 in
theorem refFrPut_pc (key : List UInt8) (f : Frm) (hk : key.length ≤ 1000000) (h : okF f) (hb : f.bd.length ≤ 65536) (he : f.st.ep ≤ 18446744073709551615) (hr : f.st.ro ≤ 18446744073709551615) : PC Tryd.prog 12 [bytesT key, frmT f] [⟨5, 1, bytesE (putF key f)⟩] (.tup [.leaf (.own 0 1 (60 + f.st.ch.length + f.bd.length)), intT 0]) := by
  have C := refFrCheck_pc f 0 (.inl ⟨h, hb, rfl⟩)
  obtain ⟨_, _, _, hc, _, hs0, hs1, _⟩ := h
  have hc8 := hc.2.1
  have C1 := refStPut_pc f.st hc he hr
  have C2 := must4_pc f.sq hs0 (by omega)
  have C3 := must4_pc (f.bd.length : Int) (by omega) (by omega)
  have ls := saidF_len f
  have lz := putF_len key f
  have C4 := refTag_pc key (saidF f) hk (by omega)
  have lt := macTag_len key (saidF f)
  obtain ⟨y1, e1⟩ : ∃ y, ub f.fm :: ub f.tw :: putS f.st = y := ⟨_, rfl⟩
  obtain ⟨y2, e2⟩ : ∃ y, y1 ++ [ub f.kd] = y := ⟨_, rfl⟩
  obtain ⟨y3, e3⟩ : ∃ y, y2 ++ be4 f.sq.toNat = y := ⟨_, rfl⟩
  obtain ⟨y4, e4⟩ : ∃ y, y3 ++ be4 f.bd.length = y := ⟨_, rfl⟩
  have e5 : y4 ++ f.bd = saidF f := by rw [← e4, ← e3, ← e2, ← e1]; simp [saidF]
  have e6 : saidF f ++ macTag key (saidF f) = putF key f := rfl
  have l1 := putS_len f.st
  have l2 := be4_len f.sq.toNat
  have l3 := be4_len f.bd.length
  have m1 : y1.length = 2 + (17 + f.st.ch.length) := by rw [← e1]; simp [l1]; omega
  have m2 : y2.length = 2 + (17 + f.st.ch.length) + 1 := by rw [← e2]; simp [m1]
  have m3 : y3.length = 2 + (17 + f.st.ch.length) + 1 + 4 := by rw [← e3]; simp [m2, l2]
  have m4 : y4.length = 2 + (17 + f.st.ch.length) + 1 + 4 + 4 := by rw [← e4]; simp [m3, l3]
  have m5 : (saidF f).length = 2 + (17 + f.st.ch.length) + 1 + 4 + 4 + f.bd.length := by rw [ls]; omega
  have hn : ((f.bd.length : Int)).toNat = f.bd.length := by omega
  rw [hn] at C3
  clear hn ls
  generalize putF key f = z at *
  generalize macTag key (saidF f) = t at *
  generalize saidF f = sd at *
  generalize putS f.st = s at *
  generalize be4 f.sq.toNat = q at *
  generalize be4 f.bd.length = n at *
  obtain ⟨fm, tw, ⟨ep, ro, ch⟩, kd, sq, bd⟩ := f
  simp only [frmT, frmC, stmT, stmC] at *
  refine PC.of_body Tryd.func12 rfl ?_
  intro Γ _ _
  simp only [Tryd.ntmps12, List.length_cons, List.length_nil, Nat.reduceAdd, Nat.reduceSub, List.replicate_succ, List.replicate_zero, List.cons_append, List.nil_append]
  repeat' (first
    | (with_reducible first | refine AW.seq ?_ | refine AW.block ?_ | refine AW.ret ?_ | refine AW.skip ?_ | refine AW.exit ?_)
    | ((refine AW.cond (by rfl) (fun hc => ?_) (fun hc => ?_)) <;> (try simp only [hcS] at hc) <;> (try first | contradiction | (exfalso; omega)))
    | ((refine AW.condB (by rfl) (fun hc => ?_) (fun hc => ?_)))
    | ((first | (refine aCall.pers (C) fnOk14 ?_ ?_ ?_ ?_; (focus rfl); (focus rfl); (focus (simp [persT, persL, lt, l1, l2, l3, m1, m2, m3, m4, m5, iE_len, e1, e2, e3, e4, e5, e6]; done))) | (refine aCall.pers (C1) fnOk23 ?_ ?_ ?_ ?_; (focus rfl); (focus rfl); (focus (simp [persT, persL, lt, l1, l2, l3, m1, m2, m3, m4, m5, iE_len, e1, e2, e3, e4, e5, e6]; done))) | (refine aCall.pers (C2) fnOk24 ?_ ?_ ?_ ?_; (focus rfl); (focus rfl); (focus (simp [persT, persL, lt, l1, l2, l3, m1, m2, m3, m4, m5, iE_len, e1, e2, e3, e4, e5, e6]; done))) | (refine aCall.pers (C3) fnOk24 ?_ ?_ ?_ ?_; (focus rfl); (focus rfl); (focus (simp [persT, persL, lt, l1, l2, l3, m1, m2, m3, m4, m5, iE_len, e1, e2, e3, e4, e5, e6]; done))) | (refine aCall.view C4 fnOk25 ?_ ?_ ?_ ?_ ?_; (focus rfl); (focus (simp [plainT, plainC, plainL]; done)); (focus (first | exact plainBs_bytes _ | (simp [plainBs]; done))); (focus (simp [argsOk, viewTOk, viewP, viewPs, ↓askG_tt, ↓askG_ff, ↓askG_tf, ↓askG_ft, ↓AOp, ↓aBin, ↓aUn, ↓aConv, ↓aAlloc, ↓aBox, ↓aBuild, ↓aLoad, ↓aStore, ↓aNil, ↓aFieldAddr, ↓aField, ↓aExtract, ↓aIndexAddr, ↓aIndex, ↓aSlice, ↓aMake, ↓aBuildSlice, ↓aFrz, ↓aLen, ↓aAppend, ↓aCopy, Nat.reduceAdd, Nat.reduceSub, Nat.reduceMul, Nat.reduceLT, Nat.reduceLeDiff, Nat.reduceEqDiff, Int.reduceToNat, Int.reduceBEq, Int.reduceBNe, Int.reduceEq, Int.reduceNe, Int.reduceNeg, Int.reduceLE, Int.reduceLT, reduceIte, reduceCtorEq, go_sem, Nat.add_sub_cancel, Nat.add_one_sub_one, Nat.sub_zero, Nat.mul_one, finP, finPs, viewP, viewPs, finT, finC, finCs, finL, finLs, finBs, viewOk, viewsOk, persL, inT, inC, inCs, inL, inLs, ndB, allP_nil, allP_cons, allP_append]; done))) | (with_reducible refine AW.regionK mo (by kernel_rfl) ?_; intro K hK) | (with_reducible refine aSliceO.l ?_) | (with_reducible refine aBuildO.l ?_) | (with_reducible refine aStoreO.l ?_)); simp (maxSteps := 2000000) only [↓askG_tt, ↓askG_ff, ↓askG_tf, ↓askG_ft, ↓AOp, ↓aBin, ↓aUn, ↓aConv, ↓aAlloc, ↓aBox, ↓aBuild, ↓aLoad, ↓aStore, ↓aNil, ↓aFieldAddr, ↓aField, ↓aExtract, ↓aIndexAddr, ↓aIndex, ↓aSlice, ↓aMake, ↓aBuildSlice, ↓aFrz, ↓aLen, ↓aAppend, ↓aCopy, Nat.reduceAdd, Nat.reduceSub, Nat.reduceMul, Nat.reduceLT, Nat.reduceLeDiff, Nat.reduceEqDiff, Int.reduceToNat, Int.reduceBEq, Int.reduceBNe, Int.reduceEq, Int.reduceNe, Int.reduceNeg, Int.reduceLE, Int.reduceLT, reduceIte, reduceCtorEq, go_sem, Nat.add_sub_cancel, Nat.add_one_sub_one, Nat.sub_zero, Nat.mul_one, shiftP, shiftT, shiftC, shiftL, shiftB, newIds, idsOfT, List.zipIdx_cons, List.zipIdx_nil, lt, l1, l2, l3, m1, m2, m3, m4, m5, iE_len, e1, e2, e3, e4, e5, e6])
    | (with_reducible refine hK _ ?_; clear hK K)
    | (with_reducible refine askG.mk (fun hg => ?_) (fun hg => ?_) <;> (try simp only [hcS] at hg) <;> (try first | contradiction | (exfalso; omega)))
    | ((with_reducible refine And.intro ?_ ?_); focus (first | (with_reducible show pairsOk _ _ = true; kernel_rfl) | omega | (with_reducible assumption) | kernel_rfl | (exact bytesE_len _) | (exact iE_one _) | (exact iE_allP _) | (exact bytesE_allP _) | (exact rowsE_len _) | (exact rowsE_allP _) | ((simp [allP_nil, allP_cons, persL]; done)) | ((simp [byV]; done)) | (simp; done) | (simp; omega)))
    | ((with_reducible first | show inBlockS _ _ _ _ | show thenS _ _ _ _); simp only [inBlockS, thenS, reduceIte, Nat.reduceEqDiff]))
  all_goals (refine ⟨_, [.inl 12], rfl, ⟨rfl, ?_, ?_, ?_⟩⟩ <;> simp [go_sem, Nat.add_sub_cancel, Nat.add_one_sub_one, Nat.sub_zero, Nat.mul_one, finP, finPs, viewP, viewPs, finT, finC, finCs, finL, finLs, finBs, viewOk, viewsOk, persL, inT, inC, inCs, inL, inLs, ndB, allP_nil, allP_cons, allP_append])
  all_goals omega
end Go.Proofs.YtiifcgaililllaaDoor

/- frames: read. -/
namespace Go.Proofs.YtiifcgaililllaaDoor
set_option linter.unusedSimpArgs false
set_option linter.unusedVariables false
open Go Go.RowKit
attribute [local congr] AW_congr AOs_congr aCall_congr aCall1_congr aSem_congr aSliceO_congr aBuildO_congr aStoreO_congr
attribute [local go_sem] uC_own uC_ids uC_shift uC_frz uC_length tabK_uC ub_v bytes_set bytesE_one1 bytesE_consr bytesE_append bytesE_drop bytesE_take rowsE_length rowsE_get Option.map_map bytesE_length bytesE_get shiftE_bytes shiftE_rows exBytesE str_beq bytesE_take_self List.take_length
set_option maxRecDepth 100000

attribute [local simp] leEs_bytes leEs_iE iE_allP
def mF (b : List UInt8) : Nat := ((b.drop 2).getD 16 0).toNat
def restF (b : List UInt8) : List UInt8 := b.drop (19 + mF b)
def frmB (b : List UInt8) : Frm := ⟨((b.getD 0 0).toNat : Int), ((b.getD 1 0).toNat : Int), stB (b.drop 2) (mF b), (((restF b).getD 0 0).toNat : Int), (getN (((restF b).drop 1).take 4) : Int), (restF b).drop 9⟩
def RdOk (b : List UInt8) : Prop := 28 + mF b ≤ b.length ∧ getN (((restF b).drop 5).take 4) = ((restF b).drop 9).length ∧ okF (frmB b)
def zeroF : Frm := ⟨0, 0, ⟨0, 0, []⟩, 0, 0, []⟩
theorem restF_len (b : List UInt8) : (restF b).length = b.length - (19 + mF b) := by simp [restF]
theorem byte_nat (x : UInt8) : IntKind.i64.wrap (x.toNat : Int) = (x.toNat : Int) := by
  have := x.toNat_lt
  exact wrap_i64 _ (by omega)
theorem byV_nat (x : UInt8) : byV x = Value.int .u8 (x.toNat : Int) := rfl
theorem readShort_pc (b : List UInt8) (h : b.length < 2) : PC Tryd.prog 32 [bytesT b] [] (.tup [frmT zeroF, boolT false]) := by
  have g0 : decide ((b.length : Int) < 2) = true := by simp; omega
  simp only [frmT, frmC, zeroF]
  refine PC.of_body Tryd.func32 rfl ?_
  intro Γ _ _
  simp only [Tryd.ntmps32, List.length_cons, List.length_nil, Nat.reduceAdd, Nat.reduceSub, List.replicate_succ, List.replicate_zero, List.cons_append, List.nil_append]
  repeat' (first
    | (with_reducible first | refine AW.seq ?_ | refine AW.block ?_ | refine AW.ret ?_ | refine AW.skip ?_ | refine AW.exit ?_)
    | ((refine AW.cond (by rfl) (fun hc => ?_) (fun hc => ?_)) <;> (try simp only [hcS] at hc) <;> (try first | contradiction | (exfalso; omega)))
    | ((refine AW.condB (by rfl) (fun hc => ?_) (fun hc => ?_)))
    | ((first | (with_reducible refine AW.regionK mo (by kernel_rfl) ?_; intro K hK) | (with_reducible refine aSliceO.l ?_) | (with_reducible refine aBuildO.l ?_) | (with_reducible refine aStoreO.l ?_)); simp (maxSteps := 2000000) only [↓askG_tt, ↓askG_ff, ↓askG_tf, ↓askG_ft, ↓AOp, ↓aBin, ↓aUn, ↓aConv, ↓aAlloc, ↓aBox, ↓aBuild, ↓aLoad, ↓aStore, ↓aNil, ↓aFieldAddr, ↓aField, ↓aExtract, ↓aIndexAddr, ↓aIndex, ↓aSlice, ↓aMake, ↓aBuildSlice, ↓aFrz, ↓aLen, ↓aAppend, ↓aCopy, Nat.reduceAdd, Nat.reduceSub, Nat.reduceMul, Nat.reduceLT, Nat.reduceLeDiff, Nat.reduceEqDiff, Int.reduceToNat, Int.reduceBEq, Int.reduceBNe, Int.reduceEq, Int.reduceNe, Int.reduceNeg, Int.reduceLE, Int.reduceLT, reduceIte, reduceCtorEq, go_sem, Nat.add_sub_cancel, Nat.add_one_sub_one, Nat.sub_zero, Nat.mul_one, shiftP, shiftT, shiftC, shiftL, shiftB, newIds, idsOfT, List.zipIdx_cons, List.zipIdx_nil, g0])
    | (with_reducible refine hK _ ?_; clear hK K)
    | (with_reducible refine askG.mk (fun hg => ?_) (fun hg => ?_) <;> (try simp only [hcS] at hg) <;> (try first | contradiction | (exfalso; omega)))
    | ((with_reducible refine And.intro ?_ ?_); focus (first | (with_reducible show pairsOk _ _ = true; kernel_rfl) | omega | (with_reducible assumption) | kernel_rfl | (exact bytesE_len _) | (exact iE_one _) | (exact iE_allP _) | (exact bytesE_allP _) | (exact rowsE_len _) | (exact rowsE_allP _) | ((simp [allP_nil, allP_cons, persL]; done)) | ((simp [byV]; done)) | (simp; done) | (simp; omega)))
    | ((with_reducible first | show inBlockS _ _ _ _ | show thenS _ _ _ _); simp only [inBlockS, thenS, reduceIte, Nat.reduceEqDiff]))
  all_goals (refine ⟨_, [], rfl, ⟨rfl, ?_, ?_, ?_⟩⟩ <;> simp [go_sem, Nat.add_sub_cancel, Nat.add_one_sub_one, Nat.sub_zero, Nat.mul_one, finP, finPs, viewP, viewPs, finT, finC, finCs, finL, finLs, finBs, viewOk, viewsOk, persL, inT, inC, inCs, inL, inLs, ndB, allP_nil, allP_cons, allP_append])
theorem readNone_pc (b : List UInt8) (h : 2 ≤ b.length) (n : Int) (T : PC Tryd.prog 50 [bytesT (b.drop 2)] [] (.tup [stmT zeroS, .leaf (.sc (.int .i64 n)), intT 3])) : PC Tryd.prog 32 [bytesT b] [] (.tup [frmT zeroF, boolT false]) := by
  have t2 : List.take (b.length - 2) (List.drop 2 b) = List.drop 2 b := List.take_of_length_le (by simp)
  have g0 : decide ((b.length : Int) < 2) = false := by simp; omega
  simp only [frmT, frmC, zeroF, stmT, stmC] at *
  refine PC.of_body Tryd.func32 rfl ?_
  intro Γ _ _
  simp only [Tryd.ntmps32, List.length_cons, List.length_nil, Nat.reduceAdd, Nat.reduceSub, List.replicate_succ, List.replicate_zero, List.cons_append, List.nil_append]
  repeat' (first
    | (with_reducible first | refine AW.seq ?_ | refine AW.block ?_ | refine AW.ret ?_ | refine AW.skip ?_ | refine AW.exit ?_)
    | ((refine AW.cond (by rfl) (fun hc => ?_) (fun hc => ?_)) <;> (try simp only [hcS] at hc) <;> (try first | contradiction | (exfalso; omega)))
    | ((refine AW.condB (by rfl) (fun hc => ?_) (fun hc => ?_)))
    | ((first | (refine aCall.pers (T) fnOk50 ?_ ?_ ?_ ?_; (focus rfl); (focus rfl); (focus (simp [persT, persL, g0, t2]; done))) | (with_reducible refine AW.regionK mo (by kernel_rfl) ?_; intro K hK) | (with_reducible refine aSliceO.l ?_) | (with_reducible refine aBuildO.l ?_) | (with_reducible refine aStoreO.l ?_)); simp (maxSteps := 2000000) only [↓askG_tt, ↓askG_ff, ↓askG_tf, ↓askG_ft, ↓AOp, ↓aBin, ↓aUn, ↓aConv, ↓aAlloc, ↓aBox, ↓aBuild, ↓aLoad, ↓aStore, ↓aNil, ↓aFieldAddr, ↓aField, ↓aExtract, ↓aIndexAddr, ↓aIndex, ↓aSlice, ↓aMake, ↓aBuildSlice, ↓aFrz, ↓aLen, ↓aAppend, ↓aCopy, Nat.reduceAdd, Nat.reduceSub, Nat.reduceMul, Nat.reduceLT, Nat.reduceLeDiff, Nat.reduceEqDiff, Int.reduceToNat, Int.reduceBEq, Int.reduceBNe, Int.reduceEq, Int.reduceNe, Int.reduceNeg, Int.reduceLE, Int.reduceLT, reduceIte, reduceCtorEq, go_sem, Nat.add_sub_cancel, Nat.add_one_sub_one, Nat.sub_zero, Nat.mul_one, shiftP, shiftT, shiftC, shiftL, shiftB, newIds, idsOfT, List.zipIdx_cons, List.zipIdx_nil, g0, t2])
    | (with_reducible refine hK _ ?_; clear hK K)
    | (with_reducible refine askG.mk (fun hg => ?_) (fun hg => ?_) <;> (try simp only [hcS] at hg) <;> (try first | contradiction | (exfalso; omega)))
    | ((with_reducible refine And.intro ?_ ?_); focus (first | (with_reducible show pairsOk _ _ = true; kernel_rfl) | omega | (with_reducible assumption) | kernel_rfl | (exact bytesE_len _) | (exact iE_one _) | (exact iE_allP _) | (exact bytesE_allP _) | (exact rowsE_len _) | (exact rowsE_allP _) | ((simp [allP_nil, allP_cons, persL]; done)) | ((simp [byV]; done)) | (simp; done) | (simp; omega)))
    | ((with_reducible first | show inBlockS _ _ _ _ | show thenS _ _ _ _); simp only [inBlockS, thenS, reduceIte, Nat.reduceEqDiff]))
  all_goals (refine ⟨_, [], rfl, ⟨rfl, ?_, ?_, ?_⟩⟩ <;> simp [go_sem, Nat.add_sub_cancel, Nat.add_one_sub_one, Nat.sub_zero, Nat.mul_one, finP, finPs, viewP, viewPs, finT, finC, finCs, finL, finLs, finBs, viewOk, viewsOk, persL, inT, inC, inCs, inL, inLs, ndB, allP_nil, allP_cons, allP_append])
theorem readTail_pc (b : List UInt8) (s : Stm) (h : 19 + mF b ≤ b.length) (h2 : b.length < 28 + mF b) (hb : b.length ≤ 100000) (T : PC Tryd.prog 50 [bytesT (b.drop 2)] [] (.tup [stmT s, .leaf (.sc (.int .i64 ((17 + mF b : Nat) : Int))), intT 0])) : PC Tryd.prog 32 [bytesT b] [] (.tup [frmT zeroF, boolT false]) := by
  have t2 : List.take (b.length - 2) (List.drop 2 b) = List.drop 2 b := List.take_of_length_le (by simp)
  have g0 : decide ((b.length : Int) < 2) = false := by simp; omega
  have w2 : IntKind.i64.wrap (2 + ((17 + mF b : Nat) : Int)) = ((19 + mF b : Nat) : Int) := by rw [wrap_i64 _ (by omega)]; omega
  have td : List.take (b.length - (19 + mF b)) (List.drop (19 + mF b) b) = restF b := List.take_of_length_le (by simp)
  have ld := restF_len b
  have g2 : decide (((restF b).length : Int) < 9) = true := by simp; omega
  obtain ⟨ep, ro, ch⟩ := s
  generalize restF b = d at *
  generalize mF b = m at *
  simp only [frmT, frmC, zeroF, stmT, stmC] at *
  refine PC.of_body Tryd.func32 rfl ?_
  intro Γ _ _
  simp only [Tryd.ntmps32, List.length_cons, List.length_nil, Nat.reduceAdd, Nat.reduceSub, List.replicate_succ, List.replicate_zero, List.cons_append, List.nil_append]
  repeat' (first
    | (with_reducible first | refine AW.seq ?_ | refine AW.block ?_ | refine AW.ret ?_ | refine AW.skip ?_ | refine AW.exit ?_)
    | ((refine AW.cond (by rfl) (fun hc => ?_) (fun hc => ?_)) <;> (try simp only [hcS] at hc) <;> (try first | contradiction | (exfalso; omega)))
    | ((refine AW.condB (by rfl) (fun hc => ?_) (fun hc => ?_)))
    | ((first | (refine aCall.pers (T) fnOk50 ?_ ?_ ?_ ?_; (focus rfl); (focus rfl); (focus (simp [persT, persL, g0, t2, w2, td, g2]; done))) | (with_reducible refine AW.regionK mo (by kernel_rfl) ?_; intro K hK) | (with_reducible refine aSliceO.l ?_) | (with_reducible refine aBuildO.l ?_) | (with_reducible refine aStoreO.l ?_)); simp (maxSteps := 2000000) only [↓askG_tt, ↓askG_ff, ↓askG_tf, ↓askG_ft, ↓AOp, ↓aBin, ↓aUn, ↓aConv, ↓aAlloc, ↓aBox, ↓aBuild, ↓aLoad, ↓aStore, ↓aNil, ↓aFieldAddr, ↓aField, ↓aExtract, ↓aIndexAddr, ↓aIndex, ↓aSlice, ↓aMake, ↓aBuildSlice, ↓aFrz, ↓aLen, ↓aAppend, ↓aCopy, Nat.reduceAdd, Nat.reduceSub, Nat.reduceMul, Nat.reduceLT, Nat.reduceLeDiff, Nat.reduceEqDiff, Int.reduceToNat, Int.reduceBEq, Int.reduceBNe, Int.reduceEq, Int.reduceNe, Int.reduceNeg, Int.reduceLE, Int.reduceLT, reduceIte, reduceCtorEq, go_sem, Nat.add_sub_cancel, Nat.add_one_sub_one, Nat.sub_zero, Nat.mul_one, shiftP, shiftT, shiftC, shiftL, shiftB, newIds, idsOfT, List.zipIdx_cons, List.zipIdx_nil, g0, t2, w2, td, g2])
    | (with_reducible refine hK _ ?_; clear hK K)
    | (with_reducible refine askG.mk (fun hg => ?_) (fun hg => ?_) <;> (try simp only [hcS] at hg) <;> (try first | contradiction | (exfalso; omega)))
    | ((with_reducible refine And.intro ?_ ?_); focus (first | (with_reducible show pairsOk _ _ = true; kernel_rfl) | omega | (with_reducible assumption) | kernel_rfl | (exact bytesE_len _) | (exact iE_one _) | (exact iE_allP _) | (exact bytesE_allP _) | (exact rowsE_len _) | (exact rowsE_allP _) | ((simp [allP_nil, allP_cons, persL]; done)) | ((simp [byV]; done)) | (simp; done) | (simp; omega)))
    | ((with_reducible first | show inBlockS _ _ _ _ | show thenS _ _ _ _); simp only [inBlockS, thenS, reduceIte, Nat.reduceEqDiff]))
  all_goals (refine ⟨_, [], rfl, ⟨rfl, ?_, ?_, ?_⟩⟩ <;> simp [go_sem, Nat.add_sub_cancel, Nat.add_one_sub_one, Nat.sub_zero, Nat.mul_one, finP, finPs, viewP, viewPs, finT, finC, finCs, finL, finLs, finBs, viewOk, viewsOk, persL, inT, inC, inCs, inL, inLs, ndB, allP_nil, allP_cons, allP_append])
theorem readMany_pc (b : List UInt8) (s : Stm) (h : 28 + mF b ≤ b.length) (hn : getN (((restF b).drop 5).take 4) ≠ ((restF b).drop 9).length) (hb : b.length ≤ 100000) (T : PC Tryd.prog 50 [bytesT (b.drop 2)] [] (.tup [stmT s, .leaf (.sc (.int .i64 ((17 + mF b : Nat) : Int))), intT 0])) : PC Tryd.prog 32 [bytesT b] [] (.tup [frmT zeroF, boolT false]) := by
  have t2 : List.take (b.length - 2) (List.drop 2 b) = List.drop 2 b := List.take_of_length_le (by simp)
  have g0 : decide ((b.length : Int) < 2) = false := by simp; omega
  have w2 : IntKind.i64.wrap (2 + ((17 + mF b : Nat) : Int)) = ((19 + mF b : Nat) : Int) := by rw [wrap_i64 _ (by omega)]; omega
  have td : List.take (b.length - (19 + mF b)) (List.drop (19 + mF b) b) = restF b := List.take_of_length_le (by simp)
  have ld := restF_len b
  have g2 : decide (((restF b).length : Int) < 9) = false := by simp; omega
  have G1 := wordGet_pc (((restF b).drop 1).take 4) (by simp; omega) (by simp; omega)
  have G5 := wordGet_pc (((restF b).drop 5).take 4) (by simp; omega) (by simp; omega)
  have t9 : List.take ((restF b).length - 9) (List.drop 9 (restF b)) = List.drop 9 (restF b) := List.take_of_length_le (by simp)
  have l9 : (List.drop 9 (restF b)).length = (restF b).length - 9 := List.length_drop
  have b1 := getN_lt (((restF b).drop 1).take 4) 4 (by simp; omega)
  have b5 := getN_lt (((restF b).drop 5).take 4) 4 (by simp; omega)
  rw [List.take_of_length_le (by simp; omega)] at b1 b5
  have w9 : IntKind.u64.wrap (((restF b).length - 9 : Nat) : Int) = (((restF b).length - 9 : Nat) : Int) := wrap_u64 _ (by omega)
  have g5 : ((getN (((restF b).drop 5).take 4) : Int) != (((restF b).length - 9 : Nat) : Int)) = true := by simp only [bne_iff_ne, ne_eq]; omega
  generalize getN (((restF b).drop 5).take 4) = n5 at *
  generalize getN (((restF b).drop 1).take 4) = n1 at *
  obtain ⟨ep, ro, ch⟩ := s
  generalize restF b = d at *
  generalize mF b = m at *
  simp only [frmT, frmC, zeroF, stmT, stmC] at *
  refine PC.of_body Tryd.func32 rfl ?_
  intro Γ _ _
  simp only [Tryd.ntmps32, List.length_cons, List.length_nil, Nat.reduceAdd, Nat.reduceSub, List.replicate_succ, List.replicate_zero, List.cons_append, List.nil_append]
  repeat' (first
    | (with_reducible first | refine AW.seq ?_ | refine AW.block ?_ | refine AW.ret ?_ | refine AW.skip ?_ | refine AW.exit ?_)
    | ((refine AW.cond (by rfl) (fun hc => ?_) (fun hc => ?_)) <;> (try simp only [hcS] at hc) <;> (try first | contradiction | (exfalso; omega)))
    | ((refine AW.condB (by rfl) (fun hc => ?_) (fun hc => ?_)))
    | ((first | (refine aCall.pers (T) fnOk50 ?_ ?_ ?_ ?_; (focus rfl); (focus rfl); (focus (simp [persT, persL, g0, t2, w2, td, g2, t9, l9, w9, g5]; done))) | (refine aCall.pers (G1) fnOk51 ?_ ?_ ?_ ?_; (focus rfl); (focus rfl); (focus (simp [persT, persL, g0, t2, w2, td, g2, t9, l9, w9, g5]; done))) | (refine aCall.pers (G5) fnOk51 ?_ ?_ ?_ ?_; (focus rfl); (focus rfl); (focus (simp [persT, persL, g0, t2, w2, td, g2, t9, l9, w9, g5]; done))) | (with_reducible refine AW.regionK mo (by kernel_rfl) ?_; intro K hK) | (with_reducible refine aSliceO.l ?_) | (with_reducible refine aBuildO.l ?_) | (with_reducible refine aStoreO.l ?_)); simp (maxSteps := 2000000) only [↓askG_tt, ↓askG_ff, ↓askG_tf, ↓askG_ft, ↓AOp, ↓aBin, ↓aUn, ↓aConv, ↓aAlloc, ↓aBox, ↓aBuild, ↓aLoad, ↓aStore, ↓aNil, ↓aFieldAddr, ↓aField, ↓aExtract, ↓aIndexAddr, ↓aIndex, ↓aSlice, ↓aMake, ↓aBuildSlice, ↓aFrz, ↓aLen, ↓aAppend, ↓aCopy, Nat.reduceAdd, Nat.reduceSub, Nat.reduceMul, Nat.reduceLT, Nat.reduceLeDiff, Nat.reduceEqDiff, Int.reduceToNat, Int.reduceBEq, Int.reduceBNe, Int.reduceEq, Int.reduceNe, Int.reduceNeg, Int.reduceLE, Int.reduceLT, reduceIte, reduceCtorEq, go_sem, Nat.add_sub_cancel, Nat.add_one_sub_one, Nat.sub_zero, Nat.mul_one, shiftP, shiftT, shiftC, shiftL, shiftB, newIds, idsOfT, List.zipIdx_cons, List.zipIdx_nil, g0, t2, w2, td, g2, t9, l9, w9, g5])
    | (with_reducible refine hK _ ?_; clear hK K)
    | (with_reducible refine askG.mk (fun hg => ?_) (fun hg => ?_) <;> (try simp only [hcS] at hg) <;> (try first | contradiction | (exfalso; omega)))
    | ((with_reducible refine And.intro ?_ ?_); focus (first | (with_reducible show pairsOk _ _ = true; kernel_rfl) | omega | (with_reducible assumption) | kernel_rfl | (exact bytesE_len _) | (exact iE_one _) | (exact iE_allP _) | (exact bytesE_allP _) | (exact rowsE_len _) | (exact rowsE_allP _) | ((simp [allP_nil, allP_cons, persL]; done)) | ((simp [byV]; done)) | (simp; done) | (simp; omega)))
    | ((with_reducible first | show inBlockS _ _ _ _ | show thenS _ _ _ _); simp only [inBlockS, thenS, reduceIte, Nat.reduceEqDiff]))
  all_goals (refine ⟨_, [], rfl, ⟨rfl, ?_, ?_, ?_⟩⟩ <;> simp [go_sem, Nat.add_sub_cancel, Nat.add_one_sub_one, Nat.sub_zero, Nat.mul_one, finP, finPs, viewP, viewPs, finT, finC, finCs, finL, finLs, finBs, viewOk, viewsOk, persL, inT, inC, inCs, inL, inLs, ndB, allP_nil, allP_cons, allP_append])
set_option maxHeartbeats 4000000 in
theorem readAll_pc (b : List UInt8) (s : Stm) (h : 28 + mF b ≤ b.length) (hn : getN (((restF b).drop 5).take 4) = ((restF b).drop 9).length) (hb : b.length ≤ 100000) (hs : stB (b.drop 2) (mF b) = s) (T : PC Tryd.prog 50 [bytesT (b.drop 2)] [] (.tup [stmT s, .leaf (.sc (.int .i64 ((17 + mF b : Nat) : Int))), intT 0])) (e : Int) (r : Bool) (hr : (e == 0) = r) (KC : PC Tryd.prog 13 [frmT (frmB b)] [] (.leaf (.sc (.int .i64 e)))) : PC Tryd.prog 32 [bytesT b] [⟨5, 1, bytesE ((restF b).drop 9)⟩] (.tup [.agg [.sc (.int .i64 ((b.getD 0 0).toNat : Int)), .sc (.int .i64 ((b.getD 1 0).toNat : Int)), .sc (.int .u64 (s.ep : Int)), .sc (.int .u64 (s.ro : Int)), .sl (iE s.ch), .sc (.int .i64 (((restF b).getD 0 0).toNat : Int)), .sc (.int .i64 (getN (((restF b).drop 1).take 4) : Int)), .own 0 1 ((restF b).length - 9)], boolT r]) := by
  have t2 : List.take (b.length - 2) (List.drop 2 b) = List.drop 2 b := List.take_of_length_le (by simp)
  have g0 : decide ((b.length : Int) < 2) = false := by simp; omega
  have w2 : IntKind.i64.wrap (2 + ((17 + mF b : Nat) : Int)) = ((19 + mF b : Nat) : Int) := by rw [wrap_i64 _ (by omega)]; omega
  have td : List.take (b.length - (19 + mF b)) (List.drop (19 + mF b) b) = restF b := List.take_of_length_le (by simp)
  have ld := restF_len b
  have g2 : decide (((restF b).length : Int) < 9) = false := by simp; omega
  have G1 := wordGet_pc (((restF b).drop 1).take 4) (by simp; omega) (by simp; omega)
  have G5 := wordGet_pc (((restF b).drop 5).take 4) (by simp; omega) (by simp; omega)
  have t9 : List.take ((restF b).length - 9) (List.drop 9 (restF b)) = List.drop 9 (restF b) := List.take_of_length_le (by simp)
  have l9 : (List.drop 9 (restF b)).length = (restF b).length - 9 := List.length_drop
  have b1 := getN_lt (((restF b).drop 1).take 4) 4 (by simp; omega)
  have b5 := getN_lt (((restF b).drop 5).take 4) 4 (by simp; omega)
  rw [List.take_of_length_le (by simp; omega)] at b1 b5
  have w9 : IntKind.u64.wrap (((restF b).length - 9 : Nat) : Int) = (((restF b).length - 9 : Nat) : Int) := wrap_u64 _ (by omega)
  have g5 : ((getN (((restF b).drop 5).take 4) : Int) != (((restF b).length - 9 : Nat) : Int)) = false := by simp only [bne_eq_false_iff_eq]; omega
  have m0 := byte_get (b := b) (k := 0) (by omega)
  have m1 := byte_get (b := b) (k := 1) (by omega)
  have md := byte_get (b := restF b) (k := 0) (by omega)
  have w1 : IntKind.i64.wrap (getN (((restF b).drop 1).take 4) : Int) = (getN (((restF b).drop 1).take 4) : Int) := wrap_i64 _ (by omega)
  unfold frmB at KC
  rw [hs] at KC
  clear hn hs
  generalize getN (((restF b).drop 5).take 4) = n5 at *
  generalize getN (((restF b).drop 1).take 4) = n1 at *
  obtain ⟨ep, ro, ch⟩ := s
  generalize (restF b).getD 0 0 = x3 at *
  generalize b.getD 0 0 = x0 at *
  generalize b.getD 1 0 = x1 at *
  generalize restF b = d at *
  generalize mF b = m at *
  simp only [frmT, frmC, zeroF, stmT, stmC] at *
  refine PC.of_body Tryd.func32 rfl ?_
  intro Γ _ _
  simp only [Tryd.ntmps32, List.length_cons, List.length_nil, Nat.reduceAdd, Nat.reduceSub, List.replicate_succ, List.replicate_zero, List.cons_append, List.nil_append]
  repeat' (first
    | (with_reducible first | refine AW.seq ?_ | refine AW.block ?_ | refine AW.ret ?_ | refine AW.skip ?_ | refine AW.exit ?_)
    | ((refine AW.cond (by rfl) (fun hc => ?_) (fun hc => ?_)) <;> (try simp only [hcS] at hc) <;> (try first | contradiction | (exfalso; omega)))
    | ((refine AW.condB (by rfl) (fun hc => ?_) (fun hc => ?_)))
    | ((first | (refine aCall.pers (T) fnOk50 ?_ ?_ ?_ ?_; (focus rfl); (focus rfl); (focus (simp [persT, persL, g0, t2, w2, td, g2, t9, l9, w9, g5, m0, m1, md, w1, byV_nat, byte_nat, hr]; done))) | (refine aCall.pers (G1) fnOk51 ?_ ?_ ?_ ?_; (focus rfl); (focus rfl); (focus (simp [persT, persL, g0, t2, w2, td, g2, t9, l9, w9, g5, m0, m1, md, w1, byV_nat, byte_nat, hr]; done))) | (refine aCall.pers (G5) fnOk51 ?_ ?_ ?_ ?_; (focus rfl); (focus rfl); (focus (simp [persT, persL, g0, t2, w2, td, g2, t9, l9, w9, g5, m0, m1, md, w1, byV_nat, byte_nat, hr]; done))) | (refine aCall.view KC fnOk13 ?_ ?_ ?_ ?_ ?_; (focus rfl); (focus (simp [plainT, plainC, plainL]; done)); (focus (first | exact plainBs_bytes _ | (simp [plainBs]; done))); (focus (simp [argsOk, viewTOk, viewP, viewPs, ↓askG_tt, ↓askG_ff, ↓askG_tf, ↓askG_ft, ↓AOp, ↓aBin, ↓aUn, ↓aConv, ↓aAlloc, ↓aBox, ↓aBuild, ↓aLoad, ↓aStore, ↓aNil, ↓aFieldAddr, ↓aField, ↓aExtract, ↓aIndexAddr, ↓aIndex, ↓aSlice, ↓aMake, ↓aBuildSlice, ↓aFrz, ↓aLen, ↓aAppend, ↓aCopy, Nat.reduceAdd, Nat.reduceSub, Nat.reduceMul, Nat.reduceLT, Nat.reduceLeDiff, Nat.reduceEqDiff, Int.reduceToNat, Int.reduceBEq, Int.reduceBNe, Int.reduceEq, Int.reduceNe, Int.reduceNeg, Int.reduceLE, Int.reduceLT, reduceIte, reduceCtorEq, go_sem, Nat.add_sub_cancel, Nat.add_one_sub_one, Nat.sub_zero, Nat.mul_one, finP, finPs, viewP, viewPs, finT, finC, finCs, finL, finLs, finBs, viewOk, viewsOk, persL, inT, inC, inCs, inL, inLs, ndB, allP_nil, allP_cons, allP_append, iE_len]; done))) | (with_reducible refine AW.regionK mo (by kernel_rfl) ?_; intro K hK) | (with_reducible refine aSliceO.l ?_) | (with_reducible refine aBuildO.l ?_) | (with_reducible refine aStoreO.l ?_)); simp (maxSteps := 2000000) only [↓askG_tt, ↓askG_ff, ↓askG_tf, ↓askG_ft, ↓AOp, ↓aBin, ↓aUn, ↓aConv, ↓aAlloc, ↓aBox, ↓aBuild, ↓aLoad, ↓aStore, ↓aNil, ↓aFieldAddr, ↓aField, ↓aExtract, ↓aIndexAddr, ↓aIndex, ↓aSlice, ↓aMake, ↓aBuildSlice, ↓aFrz, ↓aLen, ↓aAppend, ↓aCopy, Nat.reduceAdd, Nat.reduceSub, Nat.reduceMul, Nat.reduceLT, Nat.reduceLeDiff, Nat.reduceEqDiff, Int.reduceToNat, Int.reduceBEq, Int.reduceBNe, Int.reduceEq, Int.reduceNe, Int.reduceNeg, Int.reduceLE, Int.reduceLT, reduceIte, reduceCtorEq, go_sem, Nat.add_sub_cancel, Nat.add_one_sub_one, Nat.sub_zero, Nat.mul_one, shiftP, shiftT, shiftC, shiftL, shiftB, newIds, idsOfT, List.zipIdx_cons, List.zipIdx_nil, g0, t2, w2, td, g2, t9, l9, w9, g5, m0, m1, md, w1, byV_nat, byte_nat, hr])
    | (with_reducible refine hK _ ?_; clear hK K)
    | (with_reducible refine askG.mk (fun hg => ?_) (fun hg => ?_) <;> (try simp only [hcS] at hg) <;> (try first | contradiction | (exfalso; omega)))
    | ((with_reducible refine And.intro ?_ ?_); focus (first | (with_reducible show pairsOk _ _ = true; kernel_rfl) | omega | (with_reducible assumption) | kernel_rfl | (exact bytesE_len _) | (exact iE_one _) | (exact iE_allP _) | (exact bytesE_allP _) | (exact rowsE_len _) | (exact rowsE_allP _) | ((simp [allP_nil, allP_cons, persL]; done)) | ((simp [byV]; done)) | (simp; done) | (simp; omega)))
    | ((with_reducible first | show inBlockS _ _ _ _ | show thenS _ _ _ _); simp only [inBlockS, thenS, reduceIte, Nat.reduceEqDiff]))
  all_goals (refine ⟨_, [.inl 2], rfl, ⟨rfl, ?_, ?_, ?_⟩⟩ <;> simp [go_sem, Nat.add_sub_cancel, Nat.add_one_sub_one, Nat.sub_zero, Nat.mul_one, finP, finPs, viewP, viewPs, finT, finC, finCs, finL, finLs, finBs, viewOk, viewsOk, persL, inT, inC, inCs, inL, inLs, ndB, allP_nil, allP_cons, allP_append])
end Go.Proofs.YtiifcgaililllaaDoor

