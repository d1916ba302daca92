/- Stamps as values, and the document's Same for them. -/
import Derived.Test.YtcpbheenmjekdaaBase
namespace Go.Proofs.Ytcpbheenmjekdaa
set_option linter.unusedSimpArgs false
set_option linter.unusedVariables false
open Go.RowKit

/-- A stamp as a value. -/
abbrev stV (e r : Nat) (A : Option Addr) (n c : Nat) : Value := .agg #[.int .u64 (e : Int), .int .u64 (r : Int), .slice A n c]

set_option maxHeartbeats 400000 in
theorem SameInts_any (w : World) (B B' : Nat) (A A' : Option Addr) (n c n' c' : Nat) (a b : List Int) (ha : SlI w B A n c a) (hb : SlI w B' A' n' c' b) (hn : n ≤ 140737488355328) :
    Calls Try.prog 25 #[.slice A n c, .slice A' n' c'] w fun e w' => e = .returned (.bool (decide (a = b))) ∧ ∃ k, w' = w.drewN k := by
  have hla := Lib.hid ha.len
  have hlb := Lib.hid hb.len
  by_cases hne : n = n'
  · subst hne
    go_enter Try.func25, Try.ntmps25
    go_wp2
    go_loopw [13] (fun i wr => ∃ k q : Nat, k ≤ n ∧ i = .int .i64 k ∧ Hid (a.take k = b.take k) ∧ wr = w.drewN q) (fun i _ => n - (intOf i).toNat)
    case atStart => exact ⟨0, 0, Nat.zero_le _, rfl, Lib.hid (by simp), rfl⟩
    case round =>
      obtain ⟨k, q, hk, rfl, HE, rfl⟩ := hrel
      by_cases hlt : k < n
      · obtain ⟨p, x, rfl, _, hcx, hx⟩ := ha.at_ hlt
        obtain ⟨p', y, rfl, _, hcy, hy⟩ := hb.at_ hlt
        have HX := Lib.hid hx
        have HY := Lib.hid hy
        clear hx hy
        by_cases hxy : x = y
        · subst hxy
          go_wp2_with fail
          go_quiet (fail)
          go_wp2_with fail
          go_roundw
          case rel => exact ⟨k + 1, q + nq, by omega, by go_num, Lib.hid (by rw [take_nextI HX.out, take_nextI HY.out, HE.out]), rfl⟩
          case measure => simp [intOf]; omega
        · have hne : (x != y) = true := bne_iff_ne.2 hxy
          have HD : Hid (decide (a = b) = false) := Lib.hid (decide_eq_false (fun e => by
            subst e
            have := HX.out.symm.trans HY.out
            injection this with this
            exact hxy this))
          go_wp2_with fail
          go_quiet (fail)
          go_wp2_with fail
          go_ret
          rw [HD.out]
          exact ⟨rfl, q + nq, by rw [World.drewN_drewN]⟩
      · obtain rfl : k = n := by omega
        have HD : Hid (decide (a = b) = true) := Lib.hid (decide_eq_true (by
          have := HE.out
          rw [List.take_of_length_le (by rw [hla.out]; exact Nat.le_refl _), List.take_of_length_le (by rw [hlb.out]; exact Nat.le_refl _)] at this
          exact this))
        go_wp2_with fail
        go_ret
        rw [HD.out]
        exact ⟨rfl, q, rfl⟩
  · have hd : decide (a = b) = false := decide_eq_false (fun e => hne (by rw [← hla.out, ← hlb.out, e]))
    rw [hd]
    have hne' : ((n : Int) != n') = true := by rw [bne_iff_ne]; omega
    go_enter Try.func25, Try.ntmps25
    go_wp2
    go_ret
    exact ⟨rfl, 0, rfl⟩


/-! ### Same -/

/-- P4.1: all the same. -/
def sameS (e r : Nat) (l : List Int) (e' r' : Nat) (l' : List Int) : Bool := decide (e = e' ∧ r = r' ∧ l = l')

set_option maxHeartbeats 400000 in
theorem refStampSame_any (w : World) (B B' : Nat) (e r e' r' n c n' c' : Nat) (A A' : Option Addr) (l l' : List Int) (ha : SlI w B A n c l) (hb : SlI w B' A' n' c' l') (hB : B ≤ w.heap.size) (hB' : B' ≤ w.heap.size) (hn : n ≤ 140737488355328) :
    Calls Try.prog 10 #[stV e r A n c, stV e' r' A' n' c'] w fun x w' => x = .returned (.bool (sameS e r l e' r' l')) ∧ Below w.heap.size w w' := by
  have hbel : Below w.heap.size w ((w.alloc (.cells #[.int .u64 (e : Int), .int .u64 (r : Int), .slice A n c] 32)).alloc (.cells #[.int .u64 (e' : Int), .int .u64 (r' : Int), .slice A' n' c'] 32)) :=
    ((Below.refl _ _).alloc (Nat.le_refl _) _).alloc (by simp) _
  by_cases h1 : e = e'
  · by_cases h2 : r = r'
    · subst h1; subst h2
      have HS : Hid (sameS e r l e r l' = decide (l = l')) := Lib.hid (by unfold sameS; simp)
      go_enter Try.func10, Try.ntmps10
      go_wp2_with fail
      refine (SameInts_any _ _ _ _ _ _ _ _ _ _ _ (ha.below (hbel.mono hB)) (hb.below (hbel.mono hB')) hn).mono ?_
      rintro x w2 ⟨rfl, k, rfl⟩
      go_wp2_with fail
      go_ret
      rw [HS.out]
      exact ⟨rfl, hbel.trans (below_draws _ _ _)⟩
    · have HS : Hid (sameS e r l e' r' l' = false) := Lib.hid (by
        unfold sameS
        exact decide_eq_false (fun h => h2 h.2.1))
      have hr : ((r : Int) == r') = false := beq_eq_false_iff_ne.2 (by omega)
      subst h1
      go_enter Try.func10, Try.ntmps10
      go_wp2_with fail
      go_ret
      rw [HS.out]
      exact ⟨rfl, hbel⟩
  · have HS : Hid (sameS e r l e' r' l' = false) := Lib.hid (by
      unfold sameS
      exact decide_eq_false (fun h => h1 h.1))
    have hr : ((e : Int) == e') = false := beq_eq_false_iff_ne.2 (by omega)
    go_enter Try.func10, Try.ntmps10
    go_wp2_with fail
    go_ret
    rw [HS.out]
    exact ⟨rfl, hbel⟩
end Go.Proofs.Ytcpbheenmjekdaa
