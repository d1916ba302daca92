/- sha: a hash. -/
import Derived.Test.YtiifcgaililllaaDoorPwSe
import Derived.Test.YtiifcgaililllaaDoorBase
import Derived.TacticsInMore
import Derived.LoopNIn
import Derived.LoopIn
import Derived.RangeFuncCalls
import Derived.RangeFuncNested
namespace Go.Proofs.YtiifcgaililllaaDoor
set_option linter.unusedSimpArgs false
set_option linter.unusedVariables false
open Go Go.RowKit
attribute [local congr] AW_congr AOs_congr aCall_congr aCall1_congr aSem_congr aSliceO_congr aBuildO_congr aStoreO_congr
attribute [local go_sem] uC_own uC_ids uC_shift uC_frz uC_length tabK_uC bytes_s128 bytes_l128 List.take_length ub_v bytes_set bytesE_one1 bytesE_consr bytesE_append bytesE_drop bytesE_take rowsE_length rowsE_get Option.map_map bytesE_length bytesE_get shiftE_bytes shiftE_rows exBytesE str_beq bytesE_take_self
set_option maxRecDepth 100000
/-! ### Bytes out of numbers -/



@[simp] theorem all_uC (l : List Int) : (uC l).all persL = true := by
  rw [List.all_eq_true]; exact uC_pers l
/-- A piece of bytes. -/
theorem RL.cutB {B : Nat → Prop} {w : World} {b : List UInt8} {A : Option Addr} {n c l m : Nat} (h : RL B w (bytesL b) (.slice A n c)) (hlm : l + m ≤ n) (hm : 0 < m) : RL B w (bytesL ((b.drop l).take m)) (.slice (cutA A c l 1) m (c - l)) := by
  cases h with
  | sl _ _ _ _ s cells h1 h2 h3 h4 h5 h6 h7 =>
    have hn : b.length = n := by simpa using h1
    have hs : s = 1 := by
      obtain ⟨x, hx⟩ : ∃ x, (bytesE b)[0]? = some x := ⟨_, List.getElem?_eq_getElem (by simp; omega)⟩
      have := h3 x (List.mem_of_getElem? hx)
      rw [← this]; exact bytesE_len b x (List.mem_of_getElem? hx)
    subst hs
    have hget : ∀ (i : Nat) (e : List L) (j : Nat) (x : L), (bytesE ((b.drop l).take m))[i]? = some e → e[j]? = some x → (bytesE b)[l + i]? = some e ∧ i < m := fun i e j x he hx => by
      have hi : i < m := by
        have := (List.getElem?_eq_some_iff.1 he).1
        simp at this; omega
      refine ⟨?_, hi⟩
      rw [bytesE_get, List.getElem?_take, if_pos hi, List.getElem?_drop, ← bytesE_get] at he
      exact he
    obtain ⟨p, rfl⟩ : ∃ p, A = some p := by
      cases A with
      | none => have := h7 rfl; simp [bytesE] at this; subst this; simp at hn; omega
      | some p => exact ⟨p, rfl⟩
    refine RL.sl _ _ _ _ 1 (fun i j => cells (l + i) j) (by simp; omega) (by omega) (bytesE_len _) (fun i e j x he hx => ?_) (fun i e j x he hx => ?_) (fun i e j x he hx => ?_) (fun h => ?_)
    · obtain ⟨q1, q2⟩ := hget i e j x he hx
      obtain ⟨p', hp, hb, hc⟩ := h4 _ e j x q1 hx
      cases hp
      refine ⟨if c = l then p else p.add (l * 1), by unfold cutA; split <;> rfl, ?_, ?_⟩
      · rw [if_neg (by omega), addBlk]; exact hb
      · rw [if_neg (by omega), Addr_add_add]
        have e1 : l * 1 + (i * 1 + j) = (l + i) * 1 + j := by omega
        rw [e1]; exact hc
    · obtain ⟨q1, q2⟩ := hget i e j x he hx; exact h5 _ e j x q1 hx
    · obtain ⟨q1, q2⟩ := hget i e j x he hx; exact h6 _ e j x q1 hx
    · unfold cutA at h
      split at h <;> simp at h
theorem blocks_pc (b : List UInt8) : PC Tryd.prog 61 [bytesT b] [] (.leaf (.clo 68 [.pp [bytesL b]])) := by
  refine PC.of_body Tryd.func61 rfl ?_
  intro Γ _ _
  simp only [Tryd.ntmps61, List.length_cons, List.length_nil, Nat.reduceAdd, Nat.reduceSub, List.replicate_succ, List.replicate_zero, List.cons_append, List.nil_append]
  repeat' (first
    | (with_reducible first | refine AW.seq ?_ | refine AW.block ?_ | refine AW.ret ?_ | refine AW.skip ?_ | refine AW.exit ?_)
    | ((refine AW.cond (by rfl) (fun hc => ?_) (fun hc => ?_)) <;> (try simp only [hcS] at hc) <;> (try first | contradiction | (exfalso; omega)))
    | ((refine AW.condB (by rfl) (fun hc => ?_) (fun hc => ?_)))
    | ((first | (refine aSem.mkClo (ls := [.ptr 0 0 0]) rfl rfl ?_ ?_; (focus simp)) | (with_reducible refine AW.regionK mo (by kernel_rfl) ?_; intro K hK) | (with_reducible refine aSliceO.l ?_) | (with_reducible refine aBuildO.l ?_) | (with_reducible refine aStoreO.l ?_)); simp (maxSteps := 2000000) only [↓askG_tt, ↓askG_ff, ↓askG_tf, ↓askG_ft, ↓AOp, ↓aBin, ↓aUn, ↓aConv, ↓aAlloc, ↓aBox, ↓aBuild, ↓aLoad, ↓aStore, ↓aNil, ↓aFieldAddr, ↓aField, ↓aExtract, ↓aIndexAddr, ↓aIndex, ↓aSlice, ↓aMake, ↓aBuildSlice, ↓aFrz, ↓aLen, ↓aAppend, ↓aCopy, Nat.reduceAdd, Nat.reduceSub, Nat.reduceMul, Nat.reduceLT, Nat.reduceLeDiff, Nat.reduceEqDiff, Int.reduceToNat, Int.reduceBEq, Int.reduceBNe, Int.reduceEq, Int.reduceNe, Int.reduceNeg, Int.reduceLE, Int.reduceLT, reduceIte, reduceCtorEq, go_sem, Nat.mul_one, Nat.add_sub_cancel, Nat.add_one_sub_one, Nat.sub_zero, shiftP, shiftT, shiftC, shiftL, shiftB, newIds, idsOfT, List.zipIdx_cons, List.zipIdx_nil])
    | (with_reducible refine hK _ ?_; clear hK K)
    | (with_reducible refine askG.mk (fun hg => ?_) (fun hg => ?_) <;> (try simp only [hcS] at hg) <;> (try first | contradiction | (exfalso; omega)))
    | ((with_reducible refine And.intro ?_ ?_); focus (first | (with_reducible show pairsOk _ _ = true; kernel_rfl) | omega | (with_reducible assumption) | kernel_rfl | (exact bytesE_len _) | ((simp [byV]; done)) | (exact bytesE_allP _) | (exact rowsE_len _) | (exact rowsE_allP _) | ((simp [allP_nil, allP_cons, persL]; done)) | (simp; done) | (simp; omega)))
    | ((with_reducible first | show inBlockS _ _ _ _ | show thenS _ _ _ _); simp only [inBlockS, thenS, reduceIte, Nat.reduceEqDiff]))
  refine ⟨_, [], rfl, ⟨rfl, ?_, ?_, ?_⟩⟩ <;> simp [go_sem, Nat.mul_one, Nat.add_sub_cancel, Nat.add_one_sub_one, Nat.sub_zero, finP, finPs, viewP, viewPs, finT, finC, finCs, finL, finLs, finBs, viewOk, viewsOk, persL, inT, inC, inCs, inL, inLs, ndB, allP_nil, allP_cons, allP_append, inPs, inP]
theorem blocks_it (b : List UInt8) (hb : b.length ≤ 2000000) : PIt Tryd.prog 68 [.pp [bytesL b]] (fun k => [bytesL ((b.drop (64 * k)).take 64)]) (b.length / 64) false := by
  intro B cs W hBW hcs hcap hgl m l J Jx hY hinf hJ0
  have hc0 := hcap 0 _ rfl
  obtain ⟨v0, rfl⟩ : ∃ v0, cs = #[v0] := ⟨cs[0]'(by simp at hcs; omega), by
    apply Array.ext
    · simpa using hcs
    · intro i h1 h2; simp at h2; subst h2; rfl⟩
  have hv0 : (#[v0] : Array Value).getD 0 undef = v0 := rfl
  rw [hv0] at hc0
  obtain ⟨p, cells, rfl, hp1, hp2⟩ : ∃ (p : Addr) (cells : Nat → Value), v0 = .pointer (some p) ∧ (B p.block ∧ W.cell? (p.add 0) = some (cells 0)) ∧ RL B W (bytesL b) (cells 0) := by
    cases hc0 with
    | pp _ p cells h4 h5 h6 => exact ⟨p, cells, rfl, h4 0 _ rfl, h5 0 _ rfl⟩
  generalize cells 0 = v at *
  obtain ⟨A, n, c, rfl⟩ : ∃ A n c, v = .slice A n c := by
    cases hp2 with
    | sl _ A n c s cells h1 h2 h3 h4 h5 h6 h7 => exact ⟨A, n, c, rfl⟩
  have hn : b.length = n ∧ n ≤ c := by
    cases hp2 with
    | sl _ A n c s cells h1 h2 h3 h4 h5 h6 h7 => exact ⟨by simpa using h1, h2⟩
  have hadd : p.add 0 = p := by cases p; unfold Addr.add; simp
  rw [hadd] at hp1
  obtain ⟨hpB, hpc⟩ := hp1
  obtain ⟨hn, hnc⟩ := hn
  refine callsIn_of_wp Tryd.func68 rfl trivial ?_ rfl
  simp only [Tryd.ntmps68, List.size_toArray, List.length_cons, List.length_nil, Nat.reduceAdd, Nat.reduceSub, Array.replicate_succ, Array.replicate_zero, List.push_toArray, List.append_toArray, List.nil_append, List.cons_append]
  have hcell : ∀ {wr : World}, KpB B W wr → wr.cell? p = some (.slice A n c) := fun {wr} hk => by
    rw [World.cell?_of_block (w := W) (hk.2 _ hpB)]; exact hpc
  gi_wp2
  gi_loopw [3] (fun i wr => ∃ (k : Nat) (W0 : World), i = .int .i64 ((64 * k : Nat) : Int) ∧ 64 * k ≤ n ∧ J k W0 ∧ Below W0.heap.size W0 wr ∧ KpB B W wr ∧ KpB B W W0) (fun i _ => n + 64 - (intOf i).toNat)
  case atStart => exact ⟨0, W, rfl, by omega, hJ0, Below.refl _ _, ⟨Nat.le_refl _, fun _ _ => rfl⟩, ⟨Nat.le_refl _, fun _ _ => rfl⟩⟩
  case round =>
    obtain ⟨k, W0, rfl, hk, hJs, hbel, hkp, hkp0⟩ := hrel
    have hc := hcell hkp
    have hw1 : IntKind.i64.wrap (((64 * k : Nat) : Int) + 64) = ((64 * (k + 1) : Nat) : Int) := by rw [wrap_i64 _ (by omega)]; omega
    by_cases hlt : 64 * (k + 1) ≤ n
    · have ge1 : ((64 * (k + 1) : Nat) : Int) ≤ (n : Int) := by omega
      have hrl : RL B wr (bytesL b) (.slice A n c) := RL.keep (fun q hq => ⟨hq, hkp.2 q hq⟩) hp2
      have hrc := RL.cutB (l := 64 * k) (m := 64) hrl (by omega) (by omega)
      have hyield := hY k #[.slice (cutA A c (64 * k) 1) 64 (c - 64 * k)] W0 wr hJs hbel ⟨rfl, fun j x hx => by
        rcases j with _ | j
        · simp at hx; subst hx
          exact ⟨rfl, RL.keep (fun q hq => ⟨.inl hq, rfl⟩) hrc⟩
        · simp at hx⟩ (by omega)
      obtain ⟨fn, tmps, assign, body, hy, hR⟩ := hyield
      have hkc : ((64 * k : Nat) : Int) ≤ ((64 * (k + 1) : Nat) : Int) := by omega
      have hcc : ((64 * (k + 1) : Nat) : Int) ≤ (c : Int) := by omega
      have hkk : ((64 * k : Nat) : Int) + 64 = ((64 * (k + 1) : Nat) : Int) := by omega
      gi_wp2
      refine hR.mono ?_
      rintro e W3 (⟨rfl, hJ3, hk3⟩ | ⟨rfl, hJx3⟩)
      · gi_wp2
        go_roundw
        case rel =>
          refine ⟨k + 1, W3, ?_, hlt, hJ3, Below.refl _ _, ?_, ?_⟩
          · first | rfl | (rw [← hkk]; rfl) | (congr 1; omega)
          all_goals exact ⟨Nat.le_trans hkp0.1 hk3.1, fun q hq => (hk3.2 q hq).trans (hkp0.2 q hq)⟩
        case measure => simp [intOf]; omega
      · gi_wp2
        refine bodyPost_ret (results_none rfl _ _ _) rfl ?_
        exact ⟨⟨_, rfl⟩, .inr ⟨_, W3, hJx3, Below.refl _ _⟩⟩
    · have hge : ¬ (((64 * (k + 1) : Nat) : Int) ≤ (n : Int)) := by omega
      have hkN : k = b.length / 64 := by omega
      gi_wp2
      go_end0
      have hJN : J (n / 64) W0 := by
        have e : n / 64 = k := by omega
        rw [e]; exact hJs
      exact ⟨⟨_, rfl⟩, .inl ⟨W0, hJN, hbel⟩⟩
/-! ### A hash -/
def blk (p : List UInt8) (k : Nat) : List UInt8 := (p.drop (64 * k)).take 64
theorem blk_len {p : List UInt8} {k : Nat} (h : 64 * k + 64 ≤ p.length) : (blk p k).length = 64 := by simp [blk]; omega
def foldB (p : List UInt8) (h : List Int) : Nat → List Int
  | 0 => h
  | k + 1 => blockS (foldB p h k) (blk p k)
def startH : List Int := [1779033703, 3144134277, 1013904242, 2773480762, 1359893119, 2600822924, 528734635, 1541459225]
theorem blockS_len {h : List Int} (b : List UInt8) (hh : h.length = 8) : (blockS h b).length = 8 := by
  simp [blockS, hh, shaRun_len _ hh]
theorem foldB_len (p : List UInt8) {h : List Int} (hh : h.length = 8) : ∀ k, (foldB p h k).length = 8
  | 0 => hh
  | k + 1 => blockS_len _ (foldB_len p hh k)
def shaSum (b : List UInt8) : List UInt8 := wrB (foldB (shaPad b) startH ((shaPad b).length / 64))
theorem shaSum_len (b : List UInt8) : (shaSum b).length = 32 := by
  rw [shaSum, wrB_len, foldB_len _ rfl]
theorem AW.rangeFuncO {Γ : Ctx} [kk : KK Γ 0] [pl : Plain Γ] {P : Program} {g : Operand} {ps : Array Tmp} {assign body : Code} {Q : Exit → St → Prop} {σ0 : St} {gf : FuncId} {ls : List L} {ys : Nat → List L} {N : Nat} {inf : Bool} {α : Type}
    (it : PIt P gf ls ys N inf) (hf : FnOk P gf) (ov : List (Nat × T)) (ov1 : Nat → List (Nat × T)) (bl : α → List AB) (inv : Nat → α → Prop) (invX : Exit → Nat → α → Prop) (x0 : α) (ρ0 : List Nat) (hi0 : inv 0 x0) (le0 : St.le 0 ρ0 σ0 ⟨overT σ0.tm ov, (bl x0).map some⟩) (ok : ∀ k x, inv k x → St.ok ⟨overT σ0.tm ov, (bl x).map some⟩) (okX : ∀ e k x, invX e k x → St.ok ⟨overT σ0.tm ov, (bl x).map some⟩)
    (hg : evalT (overT σ0.tm ov) g = .leaf (.clo gf ls)) (hls : ls.all persP = true) (hps : ∀ k, (ys k).length = ps.size)
    (hinf : inf = true → ∀ x, ¬ inv N x)
    (assg : ∀ (Γ' : Ctx) (k : Nat) (x : α) [KK Γ' (bl x).length], inv k x → k < N → AW Γ' P assign (fun e σ' => e = .normal ∧ σ' = ⟨overT σ0.tm (ov1 k), (bl x).map some⟩) ⟨setTs (overT σ0.tm ov) ps.toList (ys k), (bl x).map some⟩)
    (round : ∀ (Γ' : Ctx) (k : Nat) (x : α) [KK Γ' (bl x).length], inv k x → k < N → AW Γ' P body (fun e σ' => ∃ ρ y, (e = .normal ∧ inv (k + 1) y ∨ leaves e ≠ none ∧ invX e (k + 1) y) ∧ St.le 0 ρ ⟨overT σ0.tm ov, σ'.bl⟩ ⟨overT σ0.tm ov, (bl y).map some⟩) ⟨overT σ0.tm (ov1 k), (bl x).map some⟩)
    (done : inf = false → ∀ x, inv N x → Q .normal ⟨overT σ0.tm ov, (bl x).map some⟩)
    (stop : ∀ e k x, leaves e ≠ none → invX e k x → Q e ⟨overT σ0.tm ov, (bl x).map some⟩) : AW Γ P (.rangeFunc g ps assign body) Q σ0 :=
  AW.rangeFunc (overT σ0.tm ov) bl inv invX x0 ρ0 (fun k => overT σ0.tm (ov1 k)) it hf hi0 le0 ok okX hg hls hps hinf assg round done stop
theorem sum_pc (b : List UInt8) (hb : b.length ≤ 1000000) : PC Tryd.prog 52 [bytesT b] [⟨5, 1, bytesE (shaSum b)⟩] (.leaf (.own 0 1 32)) := by
  have C1 := start_pc
  have C2 := pad_pc b hb
  have C3 := blocks_pc (shaPad b)
  have hpl := shaPad_len b
  have hpz : padZ b.length < 64 := by unfold padZ; omega
  have CI := blocks_it (shaPad b) (by omega)
  have hm : (shaPad b).length % 64 = 0 := by rw [hpl]; unfold padZ; omega
  have hS : startH = [1779033703, 3144134277, 1013904242, 2773480762, 1359893119, 2600822924, 528734635, 1541459225] := rfl
  rw [← hS] at C1
  have hsl : startH.length = 8 := rfl
  clear hS
  unfold shaSum
  generalize shaPad b = p at *
  generalize startH = h0 at *
  refine PC.of_body Tryd.func52 rfl ?_
  intro Γ _ _
  simp only [Tryd.ntmps52, List.length_cons, List.length_nil, Nat.reduceAdd, Nat.reduceSub, List.replicate_succ, List.replicate_zero, List.cons_append, List.nil_append]
  repeat' (first
    | (with_reducible first | refine AW.seq ?_ | refine AW.block ?_ | refine AW.ret ?_ | refine AW.skip ?_ | refine AW.exit ?_)
    | ((refine AW.cond (by rfl) (fun hc => ?_) (fun hc => ?_)) <;> (try simp only [hcS] at hc) <;> (try first | contradiction | (exfalso; omega)))
    | ((refine AW.condB (by rfl) (fun hc => ?_) (fun hc => ?_)))
    | ((first | (refine aCall.pers (C1) fnOk60 ?_ ?_ ?_ ?_; (focus rfl); (focus rfl); (focus (simp [persT, persL, hsl]; done))) | (refine aCall.pers (C2) fnOk62 ?_ ?_ ?_ ?_; (focus rfl); (focus rfl); (focus (simp [persT, persL, hsl]; done))) | (refine aCall.frzAll ?_) | (refine aCall1.wk (C3) fnOk61 ?_ ?_ ?_ ?_; (focus rfl); (focus (simp [wkTs, wkT, wkLs, wkL, isNilSl, St.ev, evalT, hsl]; done)); (focus (simp [persT, persL, St.ev, evalT, hsl]; done))) | (with_reducible refine AW.regionK mo (by kernel_rfl) ?_; intro K hK) | (with_reducible refine aSliceO.l ?_) | (with_reducible refine aBuildO.l ?_) | (with_reducible refine aStoreO.l ?_)); simp (maxSteps := 2000000) only [↓askG_tt, ↓askG_ff, ↓askG_tf, ↓askG_ft, ↓AOp, ↓aBin, ↓aUn, ↓aConv, ↓aAlloc, ↓aBox, ↓aBuild, ↓aLoad, ↓aStore, ↓aNil, ↓aFieldAddr, ↓aField, ↓aExtract, ↓aIndexAddr, ↓aIndex, ↓aSlice, ↓aMake, ↓aBuildSlice, ↓aFrz, ↓aLen, ↓aAppend, ↓aCopy, Nat.reduceAdd, Nat.reduceSub, Nat.reduceMul, Nat.reduceLT, Nat.reduceLeDiff, Nat.reduceEqDiff, Int.reduceToNat, Int.reduceBEq, Int.reduceBNe, Int.reduceEq, Int.reduceNe, Int.reduceNeg, Int.reduceLE, Int.reduceLT, reduceIte, reduceCtorEq, go_sem, Nat.mul_one, Nat.add_sub_cancel, Nat.add_one_sub_one, Nat.sub_zero, shiftP, shiftT, shiftC, shiftL, shiftB, newIds, idsOfT, List.zipIdx_cons, List.zipIdx_nil, hsl])
    | (with_reducible refine hK _ ?_; clear hK K)
    | (with_reducible refine askG.mk (fun hg => ?_) (fun hg => ?_) <;> (try simp only [hcS] at hg) <;> (try first | contradiction | (exfalso; omega)))
    | ((with_reducible refine And.intro ?_ ?_); focus (first | (with_reducible show pairsOk _ _ = true; kernel_rfl) | omega | (with_reducible assumption) | kernel_rfl | (exact bytesE_len _) | ((simp [byV]; done)) | (exact bytesE_allP _) | (exact rowsE_len _) | (exact rowsE_allP _) | ((simp [allP_nil, allP_cons, persL]; done)) | (simp; done) | (simp; omega)))
    | ((with_reducible first | show inBlockS _ _ _ _ | show thenS _ _ _ _); simp only [inBlockS, thenS, reduceIte, Nat.reduceEqDiff]))
  refine AW.rangeFuncO CI fnOk68 (anys 7 1 []) (fun k => (4, bytesT (blk p k)) :: (9, bytesT (blk p k)) :: anys 7 1 []) (fun h : List Int => [⟨69, 8, [uC h]⟩]) (fun k h => h = foldB p h0 k) (fun _ _ _ => False) h0 [0] rfl ⟨by simp, by simp [leEs_one, leP, lePs, inP, inPs, inEs, leTs, leT, leC, leCs, leL, leLs, leBs, overT, anys, inTs, inT, inCs, inC, inLs, inL, inBs, hOf, undefT], by simp [leEs_one, leP, lePs, inP, inPs, inEs, leTs, leT, leC, leCs, leL, leLs, leBs, overT, anys, inTs, inT, inCs, inC, inLs, inL, inBs, hOf, undefT]⟩ (fun k x _ => ⟨by simp [leEs_one, leP, lePs, inP, inPs, inEs, leTs, leT, leC, leCs, leL, leLs, leBs, overT, anys, inTs, inT, inCs, inC, inLs, inL, inBs, hOf, undefT], by simp [leEs_one, leP, lePs, inP, inPs, inEs, leTs, leT, leC, leCs, leL, leLs, leBs, overT, anys, inTs, inT, inCs, inC, inLs, inL, inBs, hOf, undefT]⟩) (fun _ _ _ h => h.elim) rfl rfl (fun _ => rfl) (fun h => by cases h) ?_ ?_ ?_ (fun _ _ _ _ h => h.elim)
  · intro Γ' k x _ hinv hk
    have hbk : (p.drop (64 * k)).take 64 = blk p k := rfl
    simp only [overT, anys, setTs, hbk, List.map_cons, List.map_nil, ↓askG_tt, ↓askG_ff, ↓askG_tf, ↓askG_ft, ↓AOp, ↓aBin, ↓aUn, ↓aConv, ↓aAlloc, ↓aBox, ↓aBuild, ↓aLoad, ↓aStore, ↓aNil, ↓aFieldAddr, ↓aField, ↓aExtract, ↓aIndexAddr, ↓aIndex, ↓aSlice, ↓aMake, ↓aBuildSlice, ↓aFrz, ↓aLen, ↓aAppend, ↓aCopy, Nat.reduceAdd, Nat.reduceSub, Nat.reduceMul, Nat.reduceLT, Nat.reduceLeDiff, Nat.reduceEqDiff, Int.reduceToNat, Int.reduceBEq, Int.reduceBNe, Int.reduceEq, Int.reduceNe, Int.reduceNeg, Int.reduceLE, Int.reduceLT, reduceIte, reduceCtorEq, go_sem, Nat.mul_one, Nat.add_sub_cancel, Nat.add_one_sub_one, Nat.sub_zero]
    repeat' (first
    | (with_reducible first | refine AW.seq ?_ | refine AW.block ?_ | refine AW.ret ?_ | refine AW.skip ?_ | refine AW.exit ?_)
    | ((refine AW.cond (by rfl) (fun hc => ?_) (fun hc => ?_)) <;> (try simp only [hcS] at hc) <;> (try first | contradiction | (exfalso; omega)))
    | ((refine AW.condB (by rfl) (fun hc => ?_) (fun hc => ?_)))
    | ((first | (with_reducible refine AW.regionK mo (by kernel_rfl) ?_; intro K hK) | (with_reducible refine aSliceO.l ?_) | (with_reducible refine aBuildO.l ?_) | (with_reducible refine aStoreO.l ?_)); simp (maxSteps := 2000000) only [↓askG_tt, ↓askG_ff, ↓askG_tf, ↓askG_ft, ↓AOp, ↓aBin, ↓aUn, ↓aConv, ↓aAlloc, ↓aBox, ↓aBuild, ↓aLoad, ↓aStore, ↓aNil, ↓aFieldAddr, ↓aField, ↓aExtract, ↓aIndexAddr, ↓aIndex, ↓aSlice, ↓aMake, ↓aBuildSlice, ↓aFrz, ↓aLen, ↓aAppend, ↓aCopy, Nat.reduceAdd, Nat.reduceSub, Nat.reduceMul, Nat.reduceLT, Nat.reduceLeDiff, Nat.reduceEqDiff, Int.reduceToNat, Int.reduceBEq, Int.reduceBNe, Int.reduceEq, Int.reduceNe, Int.reduceNeg, Int.reduceLE, Int.reduceLT, reduceIte, reduceCtorEq, go_sem, Nat.mul_one, Nat.add_sub_cancel, Nat.add_one_sub_one, Nat.sub_zero, shiftP, shiftT, shiftC, shiftL, shiftB, newIds, idsOfT, List.zipIdx_cons, List.zipIdx_nil])
    | (with_reducible refine hK _ ?_; clear hK K)
    | (with_reducible refine askG.mk (fun hg => ?_) (fun hg => ?_) <;> (try simp only [hcS] at hg) <;> (try first | contradiction | (exfalso; omega)))
    | ((with_reducible refine And.intro ?_ ?_); focus (first | (with_reducible show pairsOk _ _ = true; kernel_rfl) | omega | (with_reducible assumption) | kernel_rfl | (exact bytesE_len _) | ((simp [byV]; done)) | (exact bytesE_allP _) | (exact rowsE_len _) | (exact rowsE_allP _) | ((simp [allP_nil, allP_cons, persL]; done)) | (simp; done) | (simp; omega)))
    | ((with_reducible first | show inBlockS _ _ _ _ | show thenS _ _ _ _); simp only [inBlockS, thenS, reduceIte, Nat.reduceEqDiff]))
    first | exact ⟨rfl, rfl⟩ | rfl
  · intro Γ' k x _ hinv hk
    simp only [overT, anys, List.map_cons, List.map_nil, ↓askG_tt, ↓askG_ff, ↓askG_tf, ↓askG_ft, ↓AOp, ↓aBin, ↓aUn, ↓aConv, ↓aAlloc, ↓aBox, ↓aBuild, ↓aLoad, ↓aStore, ↓aNil, ↓aFieldAddr, ↓aField, ↓aExtract, ↓aIndexAddr, ↓aIndex, ↓aSlice, ↓aMake, ↓aBuildSlice, ↓aFrz, ↓aLen, ↓aAppend, ↓aCopy, Nat.reduceAdd, Nat.reduceSub, Nat.reduceMul, Nat.reduceLT, Nat.reduceLeDiff, Nat.reduceEqDiff, Int.reduceToNat, Int.reduceBEq, Int.reduceBNe, Int.reduceEq, Int.reduceNe, Int.reduceNeg, Int.reduceLE, Int.reduceLT, reduceIte, reduceCtorEq, go_sem, Nat.mul_one, Nat.add_sub_cancel, Nat.add_one_sub_one, Nat.sub_zero]
    have hx : x.length = 8 := by rw [hinv]; exact foldB_len p hsl k
    have CB := block_pc x (blk p k) hx (blk_len (by omega))
    have hxn : blockS x (blk p k) = foldB p h0 (k + 1) := by rw [hinv]; rfl
    have hl := foldB_len p hsl (k + 1)
    rw [hxn] at CB
    have tx := uC_take_self x
    rw [hx] at tx
    have dx : List.drop 8 (uC x) = [] := List.drop_of_length_le (by simp [uC_length, hx])
    clear hxn hinv
    generalize foldB p h0 (k + 1) = y at *
    repeat' (first
    | (with_reducible first | refine AW.seq ?_ | refine AW.block ?_ | refine AW.ret ?_ | refine AW.skip ?_ | refine AW.exit ?_)
    | ((refine AW.cond (by rfl) (fun hc => ?_) (fun hc => ?_)) <;> (try simp only [hcS] at hc) <;> (try first | contradiction | (exfalso; omega)))
    | ((refine AW.condB (by rfl) (fun hc => ?_) (fun hc => ?_)))
    | ((first | (refine aCall.pers (CB) fnOk63 ?_ ?_ ?_ ?_; (focus rfl); (focus rfl); (focus (simp [persT, persL, hx, tx, dx, hl]; done))) | (with_reducible refine AW.regionK mo (by kernel_rfl) ?_; intro K hK) | (with_reducible refine aSliceO.l ?_) | (with_reducible refine aBuildO.l ?_) | (with_reducible refine aStoreO.l ?_)); simp (maxSteps := 2000000) only [↓askG_tt, ↓askG_ff, ↓askG_tf, ↓askG_ft, ↓AOp, ↓aBin, ↓aUn, ↓aConv, ↓aAlloc, ↓aBox, ↓aBuild, ↓aLoad, ↓aStore, ↓aNil, ↓aFieldAddr, ↓aField, ↓aExtract, ↓aIndexAddr, ↓aIndex, ↓aSlice, ↓aMake, ↓aBuildSlice, ↓aFrz, ↓aLen, ↓aAppend, ↓aCopy, Nat.reduceAdd, Nat.reduceSub, Nat.reduceMul, Nat.reduceLT, Nat.reduceLeDiff, Nat.reduceEqDiff, Int.reduceToNat, Int.reduceBEq, Int.reduceBNe, Int.reduceEq, Int.reduceNe, Int.reduceNeg, Int.reduceLE, Int.reduceLT, reduceIte, reduceCtorEq, go_sem, Nat.mul_one, Nat.add_sub_cancel, Nat.add_one_sub_one, Nat.sub_zero, shiftP, shiftT, shiftC, shiftL, shiftB, newIds, idsOfT, List.zipIdx_cons, List.zipIdx_nil, hx, tx, dx, hl])
    | (with_reducible refine hK _ ?_; clear hK K)
    | (with_reducible refine askG.mk (fun hg => ?_) (fun hg => ?_) <;> (try simp only [hcS] at hg) <;> (try first | contradiction | (exfalso; omega)))
    | ((with_reducible refine And.intro ?_ ?_); focus (first | (with_reducible show pairsOk _ _ = true; kernel_rfl) | omega | (with_reducible assumption) | kernel_rfl | (exact bytesE_len _) | ((simp [byV]; done)) | (exact bytesE_allP _) | (exact rowsE_len _) | (exact rowsE_allP _) | ((simp [allP_nil, allP_cons, persL]; done)) | (simp; done) | (simp; omega)))
    | ((with_reducible first | show inBlockS _ _ _ _ | show thenS _ _ _ _); simp only [inBlockS, thenS, reduceIte, Nat.reduceEqDiff]))
    exact ⟨[0], y, ⟨by simp, rfl⟩, ⟨by simp, by simp [leEs_one, leP, lePs, inP, inPs, inEs, leTs, leT, leC, leCs, leL, leLs, leBs, overT, anys, inTs, inT, inCs, inC, inLs, inL, inBs, hOf, undefT], by simp [leEs_one, leP, lePs, inP, inPs, inEs, leTs, leT, leC, leCs, leL, leLs, leBs, overT, anys, inTs, inT, inCs, inC, inLs, inL, inBs, hOf, undefT]⟩⟩
  · intro _ x hinv
    have hx : x.length = 8 := by rw [hinv]; exact foldB_len p hsl _
    rw [← hinv]
    clear hinv
    simp only [inBlockS, thenS, overT, anys, List.map_cons, List.map_nil, ↓askG_tt, ↓askG_ff, ↓askG_tf, ↓askG_ft, ↓AOp, ↓aBin, ↓aUn, ↓aConv, ↓aAlloc, ↓aBox, ↓aBuild, ↓aLoad, ↓aStore, ↓aNil, ↓aFieldAddr, ↓aField, ↓aExtract, ↓aIndexAddr, ↓aIndex, ↓aSlice, ↓aMake, ↓aBuildSlice, ↓aFrz, ↓aLen, ↓aAppend, ↓aCopy, Nat.reduceAdd, Nat.reduceSub, Nat.reduceMul, Nat.reduceLT, Nat.reduceLeDiff, Nat.reduceEqDiff, Int.reduceToNat, Int.reduceBEq, Int.reduceBNe, Int.reduceEq, Int.reduceNe, Int.reduceNeg, Int.reduceLE, Int.reduceLT, reduceIte, reduceCtorEq, go_sem, Nat.mul_one, Nat.add_sub_cancel, Nat.add_one_sub_one, Nat.sub_zero]
    have CW := written_pc x hx
    have tx := uC_take_self x
    rw [hx] at tx
    repeat' (first
    | (with_reducible first | refine AW.seq ?_ | refine AW.block ?_ | refine AW.ret ?_ | refine AW.skip ?_ | refine AW.exit ?_)
    | ((refine AW.cond (by rfl) (fun hc => ?_) (fun hc => ?_)) <;> (try simp only [hcS] at hc) <;> (try first | contradiction | (exfalso; omega)))
    | ((refine AW.condB (by rfl) (fun hc => ?_) (fun hc => ?_)))
    | ((first | (refine aCall.pers (CW) fnOk64 ?_ ?_ ?_ ?_; (focus rfl); (focus rfl); (focus (simp [persT, persL, hx, tx]; done))) | (with_reducible refine AW.regionK mo (by kernel_rfl) ?_; intro K hK) | (with_reducible refine aSliceO.l ?_) | (with_reducible refine aBuildO.l ?_) | (with_reducible refine aStoreO.l ?_)); simp (maxSteps := 2000000) only [↓askG_tt, ↓askG_ff, ↓askG_tf, ↓askG_ft, ↓AOp, ↓aBin, ↓aUn, ↓aConv, ↓aAlloc, ↓aBox, ↓aBuild, ↓aLoad, ↓aStore, ↓aNil, ↓aFieldAddr, ↓aField, ↓aExtract, ↓aIndexAddr, ↓aIndex, ↓aSlice, ↓aMake, ↓aBuildSlice, ↓aFrz, ↓aLen, ↓aAppend, ↓aCopy, Nat.reduceAdd, Nat.reduceSub, Nat.reduceMul, Nat.reduceLT, Nat.reduceLeDiff, Nat.reduceEqDiff, Int.reduceToNat, Int.reduceBEq, Int.reduceBNe, Int.reduceEq, Int.reduceNe, Int.reduceNeg, Int.reduceLE, Int.reduceLT, reduceIte, reduceCtorEq, go_sem, Nat.mul_one, Nat.add_sub_cancel, Nat.add_one_sub_one, Nat.sub_zero, shiftP, shiftT, shiftC, shiftL, shiftB, newIds, idsOfT, List.zipIdx_cons, List.zipIdx_nil, hx, tx])
    | (with_reducible refine hK _ ?_; clear hK K)
    | (with_reducible refine askG.mk (fun hg => ?_) (fun hg => ?_) <;> (try simp only [hcS] at hg) <;> (try first | contradiction | (exfalso; omega)))
    | ((with_reducible refine And.intro ?_ ?_); focus (first | (with_reducible show pairsOk _ _ = true; kernel_rfl) | omega | (with_reducible assumption) | kernel_rfl | (exact bytesE_len _) | ((simp [byV]; done)) | (exact bytesE_allP _) | (exact rowsE_len _) | (exact rowsE_allP _) | ((simp [allP_nil, allP_cons, persL]; done)) | (simp; done) | (simp; omega)))
    | ((with_reducible first | show inBlockS _ _ _ _ | show thenS _ _ _ _); simp only [inBlockS, thenS, reduceIte, Nat.reduceEqDiff]))
    refine ⟨_, [.inl 1], rfl, ⟨rfl, ?_, ?_, ?_⟩⟩ <;> simp [go_sem, Nat.mul_one, Nat.add_sub_cancel, Nat.add_one_sub_one, Nat.sub_zero, finP, finPs, viewP, viewPs, finT, finC, finCs, finL, finLs, finBs, viewOk, viewsOk, persL, inT, inC, inCs, inL, inLs, ndB, allP_nil, allP_cons, allP_append]
end Go.Proofs.YtiifcgaililllaaDoor
