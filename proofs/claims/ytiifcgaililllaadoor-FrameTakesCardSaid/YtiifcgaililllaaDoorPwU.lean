/- Words of 32 bits, as plain values. -/
import Derived.Test.YtiifcgaililllaaDoorPwX
import Derived.Test.YtiifcgaililllaaDoorPwS
import Derived.Test.YtiifcgaililllaaDoorPwRf
namespace Go.Proofs.YtiifcgaililllaaDoor
set_option linter.unusedSimpArgs false
set_option linter.unusedVariables false
open Go Go.RowKit
attribute [local congr] AW_congr AOs_congr aCall_congr aCall1_congr aSem_congr aSliceO_congr aBuildO_congr aStoreO_congr
attribute [local go_sem] rowsE_length rowsE_get Option.map_map bytesE_length bytesE_get shiftE_bytes shiftE_rows exBytesE str_beq bytesE_take_self
set_option maxRecDepth 100000
/-! ### Bytes out of numbers -/
def ub (k : Int) : UInt8 := UInt8.ofNat (k.emod 256).toNat
theorem ub_v (k : Int) : Value.int .u8 (IntKind.u8.wrap k) = byV (ub k) := by
  have hw : IntKind.u8.wrap k = k.emod 256 := by
    simp [IntKind.wrap, IntKind.signed, IntKind.bits]; rfl
  rw [hw]
  unfold byV ub
  have h1 : 0 ≤ k.emod 256 := Int.emod_nonneg _ (by decide)
  have h2 : k.emod 256 < 256 := Int.emod_lt_of_pos _ (by decide)
  rw [UInt8.toNat_ofNat', Nat.mod_eq_of_lt (by omega), Int.toNat_of_nonneg h1]
theorem byV_128 : Value.int .u8 128 = byV 128 := rfl
theorem byV_0 : Value.int .u8 0 = byV 0 := rfl
theorem bytes_set (a : List UInt8) (i : Nat) (x : UInt8) : (bytesE a).set i [L.sc (byV x)] = bytesE (a.set i x) := by simp [bytesE, List.map_set]
theorem bytes_four (x y z u : UInt8) : [[L.sc (byV x)], [L.sc (byV y)], [L.sc (byV z)], [L.sc (byV u)]] = bytesE [x, y, z, u] := rfl
theorem bytes_zero (n : Nat) : List.replicate n [L.sc (.int .u8 0)] = bytesE (List.replicate n 0) := by simp [bytesE, byV]
/-! ### Words -/
abbrev uL (x : Int) : L := .sc (.int .u32 x)
abbrev uT (x : Int) : T := .leaf (uL x)
def addU (a b : Int) : Int := IntKind.u32.wrap (a + b)
def xorU (a b : Int) : Int := bitsI .xor .u32 a b
def andU (a b : Int) : Int := bitsI .and .u32 a b
def orU (a b : Int) : Int := bitsI .or .u32 a b
def notU (a : Int) : Int := bitsI .xor .u32 4294967295 a
def shlU (a : Int) (n : Nat) : Int := shlI .u32 a n
def shrU (a : Int) (n : Nat) : Int := shrI .u32 a n
theorem orU_comm (a b : Int) : orU a b = orU b a := by simp only [orU, bitsI, BitVec.or_comm]
def rotU (x : Int) (n : Nat) : Int := orU (shrU x n) (shlU x (32 - n))
def mixL (x : Int) : Int := xorU (xorU (rotU x 7) (rotU x 18)) (shrU x 3)
def mixH (x : Int) : Int := xorU (xorU (rotU x 17) (rotU x 19)) (shrU x 10)
def trnL (e : Int) : Int := xorU (xorU (rotU e 6) (rotU e 11)) (rotU e 25)
def trnH (a : Int) : Int := xorU (xorU (rotU a 2) (rotU a 13)) (rotU a 22)
def choU (e f g : Int) : Int := xorU (andU e f) (andU (notU e) g)
def majU (a b c : Int) : Int := xorU (xorU (andU a b) (andU a c)) (andU b c)
theorem addU_def (a b : Int) : IntKind.u32.wrap (a + b) = addU a b := rfl
theorem xorU_def (a b : Int) : bitsI .xor .u32 a b = xorU a b := rfl
theorem andU_def (a b : Int) : bitsI .and .u32 a b = andU a b := rfl
theorem orU_def (a b : Int) : bitsI .or .u32 a b = orU a b := rfl
theorem notU_def (a : Int) : bitsI .xor .u32 (if IntKind.u32.signed = true then -1 else IntKind.u32.max) a = notU a := rfl
theorem shlU_def (a : Int) (n : Nat) : shlI .u32 a n = shlU a n := rfl
theorem shrU_def (a : Int) (n : Nat) : shrI .u32 a n = shrU a n := rfl
theorem rot_pc (x : Int) (n : Nat) (h1 : 1 ≤ n) (h2 : n ≤ 31) (hb : bitsI .and .u64 (IntKind.u64.wrap (-(n : Int))) 31 = 32 - (n : Int)) : PC Tryd.prog 78 [uT x, intT (-(n : Int))] [] (uT (rotU x n)) := by
  refine PC.of_body Tryd.func78 rfl ?_
  intro Γ _ _
  simp only [Tryd.ntmps78, List.length_cons, List.length_nil, Nat.reduceAdd, Nat.reduceSub, List.replicate_succ, List.replicate_zero, List.cons_append, List.nil_append]
  have e1 : IntKind.u64.wrap (32 - (32 - (n : Int))) = (n : Int) := by rw [wrap_u64 _ (by omega)]; omega
  have e2 : (32 - (n : Int)).toNat = 32 - n := by omega
  repeat' (first
    | (with_reducible first | refine AW.seq ?_ | refine AW.block ?_ | refine AW.ret ?_ | refine AW.skip ?_ | refine AW.exit ?_)
    | ((refine AW.cond (by rfl) (fun hc => ?_) (fun hc => ?_)) <;> (try simp only [hcS] at hc) <;> (try first | contradiction | (exfalso; omega)))
    | ((refine AW.condB (by rfl) (fun hc => ?_) (fun hc => ?_)))
    | ((first | (with_reducible refine AW.regionK mo (by kernel_rfl) ?_; intro K hK) | (with_reducible refine aSliceO.l ?_) | (with_reducible refine aBuildO.l ?_) | (with_reducible refine aStoreO.l ?_)); simp (maxSteps := 2000000) only [↓askG_tt, ↓askG_ff, ↓askG_tf, ↓askG_ft, ↓AOp, ↓aBin, ↓aUn, ↓aConv, ↓aAlloc, ↓aBox, ↓aBuild, ↓aLoad, ↓aStore, ↓aNil, ↓aFieldAddr, ↓aField, ↓aExtract, ↓aIndexAddr, ↓aIndex, ↓aSlice, ↓aMake, ↓aBuildSlice, ↓aFrz, ↓aLen, ↓aAppend, ↓aCopy, Nat.reduceAdd, Nat.reduceSub, Nat.reduceMul, Nat.reduceLT, Nat.reduceLeDiff, Nat.reduceEqDiff, Int.reduceToNat, Int.reduceBEq, Int.reduceBNe, Int.reduceEq, Int.reduceNe, Int.reduceNeg, Int.reduceLE, Int.reduceLT, reduceIte, reduceCtorEq, go_sem, Nat.add_sub_cancel, Nat.add_one_sub_one, Nat.sub_zero, shiftP, shiftT, shiftC, shiftL, shiftB, newIds, idsOfT, List.zipIdx_cons, List.zipIdx_nil, hb, e1, e2, shlU_def, shrU_def, orU_def])
    | (with_reducible refine hK _ ?_; clear hK K)
    | (with_reducible refine askG.mk (fun hg => ?_) (fun hg => ?_) <;> (try simp only [hcS] at hg) <;> (try first | contradiction | (exfalso; omega)))
    | ((with_reducible refine And.intro ?_ ?_); focus (first | (with_reducible show pairsOk _ _ = true; kernel_rfl) | omega | (with_reducible assumption) | kernel_rfl | (exact bytesE_len _) | (exact bytesE_allP _) | (exact rowsE_len _) | (exact rowsE_allP _) | ((simp [allP_nil, allP_cons, persL]; done)) | (simp; done) | (simp; omega)))
    | ((with_reducible first | show inBlockS _ _ _ _ | show thenS _ _ _ _); simp only [inBlockS, thenS, reduceIte, Nat.reduceEqDiff]))
  refine ⟨_, [], rfl, ⟨rfl, ?_, ?_, ?_⟩⟩ <;> simp [go_sem, Nat.add_sub_cancel, Nat.add_one_sub_one, Nat.sub_zero, finP, finPs, viewP, viewPs, finT, finC, finCs, finL, finLs, finBs, viewOk, viewsOk, persL, inT, inC, inCs, inL, inLs, ndB, allP_nil, allP_cons, allP_append]
  exact orU_comm _ _
theorem turned_pc (x : Int) (n : Nat) (h1 : 1 ≤ n) (h2 : n ≤ 31) (hb : bitsI .and .u64 (IntKind.u64.wrap (-(n : Int))) 31 = 32 - (n : Int)) : PC Tryd.prog 77 [uT x, intT n] [] (uT (rotU x n)) := by
  have C := rot_pc x n h1 h2 hb
  refine PC.of_body Tryd.func77 rfl ?_
  intro Γ _ _
  simp only [Tryd.ntmps77, List.length_cons, List.length_nil, Nat.reduceAdd, Nat.reduceSub, List.replicate_succ, List.replicate_zero, List.cons_append, List.nil_append]
  have e1 : IntKind.i64.wrap (0 - (n : Int)) = -(n : Int) := by rw [wrap_i64 _ (by omega)]; omega
  repeat' (first
    | (with_reducible first | refine AW.seq ?_ | refine AW.block ?_ | refine AW.ret ?_ | refine AW.skip ?_ | refine AW.exit ?_)
    | ((refine AW.cond (by rfl) (fun hc => ?_) (fun hc => ?_)) <;> (try simp only [hcS] at hc) <;> (try first | contradiction | (exfalso; omega)))
    | ((refine AW.condB (by rfl) (fun hc => ?_) (fun hc => ?_)))
    | ((first | (refine aCall.pers (C) fnOk78 ?_ ?_ ?_ ?_; (focus rfl); (focus rfl); (focus (simp [persT, persL, e1]; done))) | (with_reducible refine AW.regionK mo (by kernel_rfl) ?_; intro K hK) | (with_reducible refine aSliceO.l ?_) | (with_reducible refine aBuildO.l ?_) | (with_reducible refine aStoreO.l ?_)); simp (maxSteps := 2000000) only [↓askG_tt, ↓askG_ff, ↓askG_tf, ↓askG_ft, ↓AOp, ↓aBin, ↓aUn, ↓aConv, ↓aAlloc, ↓aBox, ↓aBuild, ↓aLoad, ↓aStore, ↓aNil, ↓aFieldAddr, ↓aField, ↓aExtract, ↓aIndexAddr, ↓aIndex, ↓aSlice, ↓aMake, ↓aBuildSlice, ↓aFrz, ↓aLen, ↓aAppend, ↓aCopy, Nat.reduceAdd, Nat.reduceSub, Nat.reduceMul, Nat.reduceLT, Nat.reduceLeDiff, Nat.reduceEqDiff, Int.reduceToNat, Int.reduceBEq, Int.reduceBNe, Int.reduceEq, Int.reduceNe, Int.reduceNeg, Int.reduceLE, Int.reduceLT, reduceIte, reduceCtorEq, go_sem, Nat.add_sub_cancel, Nat.add_one_sub_one, Nat.sub_zero, shiftP, shiftT, shiftC, shiftL, shiftB, newIds, idsOfT, List.zipIdx_cons, List.zipIdx_nil, e1])
    | (with_reducible refine hK _ ?_; clear hK K)
    | (with_reducible refine askG.mk (fun hg => ?_) (fun hg => ?_) <;> (try simp only [hcS] at hg) <;> (try first | contradiction | (exfalso; omega)))
    | ((with_reducible refine And.intro ?_ ?_); focus (first | (with_reducible show pairsOk _ _ = true; kernel_rfl) | omega | (with_reducible assumption) | kernel_rfl | (exact bytesE_len _) | (exact bytesE_allP _) | (exact rowsE_len _) | (exact rowsE_allP _) | ((simp [allP_nil, allP_cons, persL]; done)) | (simp; done) | (simp; omega)))
    | ((with_reducible first | show inBlockS _ _ _ _ | show thenS _ _ _ _); simp only [inBlockS, thenS, reduceIte, Nat.reduceEqDiff]))
  refine ⟨_, [], rfl, ⟨rfl, ?_, ?_, ?_⟩⟩ <;> simp [go_sem, Nat.add_sub_cancel, Nat.add_one_sub_one, Nat.sub_zero, finP, finPs, viewP, viewPs, finT, finC, finCs, finL, finLs, finBs, viewOk, viewsOk, persL, inT, inC, inCs, inL, inLs, ndB, allP_nil, allP_cons, allP_append]
end Go.Proofs.YtiifcgaililllaaDoor
