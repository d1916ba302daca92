/- Notes as plain values: there and back. -/
import Derived.Test.YtgjkbihjpgppbaaPwNu
namespace Go.Proofs.Ytgjkbihjpgppbaa
set_option linter.unusedSimpArgs false
set_option linter.unusedVariables false
open Go Go.RowKit
attribute [local congr] AW_congr AOs_congr aCall_congr aCall1_congr aSem_congr aSliceO_congr aBuildO_congr aStoreO_congr
set_option maxRecDepth 100000
attribute [local simp] leEs_bytes
/-! ### Joined -/
theorem u8of_nat (x : UInt8) : u8of (x.toNat : Int) = x := by
  have hx := x.toNat_lt
  unfold u8of
  have : (x.toNat : Int).emod 256 = (x.toNat : Int) := by
    show (x.toNat : Int) % 256 = _
    omega
  rw [this]; simp
theorem u8of_small {k : Int} (h0 : 0 ≤ k) (h1 : k ≤ 7) : ((u8of k).toNat : Int) = k := by
  obtain h | h | h | h | h | h | h | h : k = 0 ∨ k = 1 ∨ k = 2 ∨ k = 3 ∨ k = 4 ∨ k = 5 ∨ k = 6 ∨ k = 7 := by omega
  all_goals (rw [h]; rfl)
theorem be2_ntB (x y : UInt8) : be2 (ntB x y : Nat) = [x, y] := by
  have hx := x.toNat_lt
  have hy := y.toNat_lt
  have e1 : ((ntB x y : Nat) : Int) / 256 = (x.toNat : Int) := by unfold ntB; omega
  have e2 : u8of ((ntB x y : Nat) : Int) = y := by
    unfold u8of
    have : ((ntB x y : Nat) : Int).emod 256 = (y.toNat : Int) := by
      show ((ntB x y : Nat) : Int) % 256 = _
      unfold ntB; omega
    rw [this]; simp
  unfold be2
  rw [e1, e2, u8of_nat]
theorem cntV_inv {b p q : Txt} (h : cntV b = some (p, q)) : b = be2 p.length ++ p ++ q := by
  match b, h with
  | x :: y :: r, h =>
    simp only [cntV] at h
    split at h
    · rename_i hle
      injection h with h; injection h with h1 h2; subst h1 h2
      have e : (r.take (ntB x y)).length = ntB x y := by simp; omega
      rw [e, be2_ntB]; simp
    · cases h
theorem rdP_inv {j : Nat} {b q : Txt} {ps : List Txt} (h : rdP j b = some (ps, q)) : b = encP ps ++ q := by
  induction j generalizing b ps with
  | zero =>
    simp only [rdP, Option.some.injEq, Prod.mk.injEq] at h
    rw [← h.1, ← h.2]; simp [encP]
  | succ j ih =>
    simp only [rdP] at h
    split at h
    · cases h
    · rename_i p q1 hc
      obtain ⟨z, hz, he⟩ := Option.map_eq_some_iff.1 h
      injection he with h1 h2
      have := ih (b := q1) (ps := z.1) (by rw [hz, ← h2])
      rw [cntV_inv hc, this, ← h1]
      simp [encP]
theorem good {n : Nte} (h : chkN n = 0) : (1 ≤ n.kind ∧ n.kind ≤ 7) ∧ n.parts.length ≤ 64 ∧ (∀ p ∈ n.parts, p.length ≤ 1024) ∧ (n.kind = 7 → 0 ≤ n.hop ∧ n.hop ≤ 7) ∧ (n.kind ≠ 7 → n.hop = 0 ∧ n.back = false) := by
  obtain ⟨h1, h2⟩ := chkN_zero h
  have h3 : ∀ p ∈ n.parts, p.length ≤ 1024 := fun x hx => by
    have : ¬ 1024 < x.length := fun hl => h2 ⟨x, hx, hl⟩
    omega
  unfold badP at h1
  refine ⟨by omega, by omega, h3, fun h7 => by omega, fun h7 => ⟨by omega, ?_⟩⟩
  cases hb : n.back with
  | false => rfl
  | true => exact (h1 (.inr (.inr (.inr (.inr (.inl ⟨h7, .inr hb⟩)))))).elim
theorem read_head {n : Nte} (h : chkN n = 0) (t : Txt) : readR (headN n ++ encP n.parts ++ t) = if n.kind = 7 then tailR n.parts t else (⟨n.kind, n.parts, 0, false⟩, decide (t.length = 0)) := by
  obtain ⟨g1, g2, g3, g4, g5⟩ := good h
  have hk := u8of_small (k := n.kind) (by omega) (by omega)
  show (match rdP (ntB (u8of ((n.parts.length : Int) / 256)) (u8of n.parts.length)) (encP n.parts ++ t) with
    | none => (zeroN, false)
    | some (ps, r') => if (u8of n.kind).toNat = 7 then tailR ps r' else (⟨(u8of n.kind).toNat, ps, 0, false⟩, decide (r'.length = 0))) = _
  rw [ntB_be2 _ (by omega), rdP_enc (fun p hp => by have := g3 p hp; omega)]
  simp only [hk]
  by_cases h7 : n.kind = 7
  · rw [if_pos h7, if_pos (by omega)]
  · rw [if_neg h7, if_neg (by omega)]
theorem put_eq {n : Nte} (h : chkN n = 0) : putV n = headN n ++ encP n.parts ++ tailN n := by unfold putV; rw [if_pos h]
theorem read_put {n : Nte} (h : chkN n = 0) : readR (putV n) = (n, true) := by
  obtain ⟨g1, g2, g3, g4, g5⟩ := good h
  rw [put_eq h, read_head h]
  obtain ⟨kind, parts, hop, back⟩ := n
  simp only at g1 g4 g5 ⊢
  by_cases h7 : kind = 7
  · obtain ⟨q1, q2⟩ := g4 h7
    have hh := u8of_small q1 q2
    subst h7
    simp only [tailN, if_true]
    rw [tailR_two]
    rcases back with _ | _
    · simp [hh]
    · simp [hh]
  · obtain ⟨rfl, rfl⟩ := g5 h7
    simp [h7, tailN]
theorem take_put {n : Nte} (h : chkN n = 0) : takeV (putV n) = (n, 0) := by
  unfold takeV; rw [read_put h]; simp [h]
theorem take_more {n : Nte} (h : chkN n = 0) {more : Txt} (hm : more ≠ []) : takeV (putV n ++ more) = (zeroN, 3) := by
  have hl : more.length ≠ 0 := fun h => hm (List.eq_nil_of_length_eq_zero h)
  have : (readR (putV n ++ more)).2 = false := by
    rw [put_eq h, List.append_assoc, read_head h]
    by_cases h7 : n.kind = 7
    · rw [if_pos h7, tailR_no (by simp [tailN, h7]; omega)]
    · rw [if_neg h7]; simp [tailN, h7]; exact hm
  unfold takeV
  rw [if_neg (by rw [this]; simp)]
theorem take_ok {b : Txt} {m : Nte} (h : takeV b = (m, 0)) : chkN m = 0 ∧ putV m = b := by
  unfold takeV at h
  split at h
  · rename_i hc
    obtain ⟨h1, h2⟩ := hc
    injection h with h3 h4
    rw [← h3]
    refine ⟨h2, ?_⟩
    clear h3 h4
    rw [put_eq h2]
    match b, h1, h2 with
    | k :: x :: y :: r, h1, h2 =>
      simp only [readR] at h1 h2 ⊢
      have hx := x.toNat_lt
      cases hr : rdP (ntB x y) r with
      | none => rw [hr] at h1; cases h1
      | some z =>
        obtain ⟨ps, r'⟩ := z
        rw [hr] at h1 h2
        have hl := rdP_len hr
        have hi := rdP_inv hr
        simp only at h1 h2 ⊢
        by_cases h7 : k.toNat = 7
        · simp only [h7, if_true] at h1 h2 ⊢
          by_cases hq : r'.length = 2
          · match r', hq, hi, hr, h1, h2 with
            | [a, f], _, hi, hr, h1, h2 =>
              rw [tailR_two] at h1 h2 ⊢
              by_cases hf : 1 < f.toNat
              · rw [if_pos hf] at h1; cases h1
              · simp only [hf, if_false] at h1 h2 ⊢
                have k7 : u8of (7 : Int) = k := by rw [show (7 : Int) = (k.toNat : Int) by omega, u8of_nat]
                have ff : (if decide (f.toNat = 1) = true then (1 : UInt8) else 0) = f := by
                  by_cases h1 : f.toNat = 1
                  · simp only [h1, decide_true, if_true]
                    exact UInt8.toNat_inj.1 (by rw [h1]; rfl)
                  · have h0 : f.toNat = 0 := by omega
                    simp only [h1, decide_false, Bool.false_eq_true, if_false]
                    exact UInt8.toNat_inj.1 (by rw [h0]; rfl)
                simp only [headN, tailN, if_true, k7, u8of_nat, ff, hl, be2_ntB]
                rw [hi]; simp
          · rw [tailR_no hq] at h1; cases h1
        · simp only [h7, if_false] at h1 h2 ⊢
          have h7' : (k.toNat : Int) ≠ 7 := by omega
          have hz : r' = [] := List.eq_nil_of_length_eq_zero (of_decide_eq_true h1)
          simp only [headN, tailN, h7', if_false, u8of_nat, hl, be2_ntB]
          rw [hi, hz]; simp
  · injection h with h3 h4; cases h4
theorem take_two (b : Txt) : (∃ m, takeV b = (m, 0)) ∨ takeV b = (zeroN, 3) := by
  unfold takeV
  split
  · exact .inl ⟨_, rfl⟩
  · exact .inr rfl
theorem take_cut {n : Nte} (h : chkN n = 0) {k : Nat} (hk : k < (putV n).length) : takeV ((putV n).take k) = (zeroN, 3) := by
  rcases take_two ((putV n).take k) with ⟨m, hm⟩ | h3
  · exfalso
    obtain ⟨h1, h2⟩ := take_ok hm
    have e : putV n = putV m ++ (putV n).drop k := by rw [h2, List.take_append_drop]
    have hne : (putV n).drop k ≠ [] := by
      intro h0
      have := congrArg List.length h0
      simp at this; omega
    have := take_more h1 hne
    rw [← e, take_put h] at this
    injection this with _ h5; cases h5
  · exact h3
end Go.Proofs.Ytgjkbihjpgppbaa
