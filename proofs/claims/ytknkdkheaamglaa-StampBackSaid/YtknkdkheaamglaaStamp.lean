/- The contracts of package stamp, first half: order and sameness. -/
import Derived.Test.YtknkdkheaamglaaBase
namespace Go.Proofs.Ytknkdkheaamglaa
set_option linter.unusedSimpArgs false
set_option linter.unusedVariables false
open Go.RowKit

/-- One number held against another one. -/
def cmpN (a b : Nat) : Int := if a < b then -1 else if b < a then 1 else 0

theorem isNaN_any (w : World) (a : Nat) : Calls Try.prog 33 #[.int .u64 (a : Int)] w fun e w' => e = .returned (.bool false) ∧ w = w' := by
  go_enter Try.func33, Try.ntmps33
  go_wp2
  go_ret
  exact ⟨by simp, rfl⟩

theorem cmp_any (w : World) (a b : Nat) : Calls Try.prog 25 #[.int .u64 (a : Int), .int .u64 (b : Int)] w fun e w' => e = .returned (.int .i64 (cmpN a b)) ∧ w = w' := by
  have hc := Nat.lt_trichotomy a b
  unfold cmpN
  rcases hc with h | rfl | h
  · rw [if_pos h]
    go_enter Try.func25, Try.ntmps25
    go_wp2_with (go_at_call 33; refine (isNaN_any _ _).mono ?_; rintro e w' ⟨rfl, rfl⟩)
    go_ret
    exact ⟨rfl, rfl⟩
  · rw [if_neg (Nat.lt_irrefl _), if_neg (Nat.lt_irrefl _)]
    go_enter Try.func25, Try.ntmps25
    go_wp2_with (go_at_call 33; refine (isNaN_any _ _).mono ?_; rintro e w' ⟨rfl, rfl⟩)
    go_ret
    exact ⟨rfl, rfl⟩
  · rw [if_neg (by omega), if_pos h]
    have h' : ¬ a < b := by omega
    go_enter Try.func25, Try.ntmps25
    go_wp2_with (go_at_call 33; refine (isNaN_any _ _).mono ?_; rintro e w' ⟨rfl, rfl⟩)
    go_ret
    exact ⟨rfl, rfl⟩

/-- P4.1: by Epoch, then by Round. -/
def cmpS (e r e' r' : Nat) : Int := if e ≠ e' then cmpN e e' else cmpN r r'

/-- A stamp as a value. -/
abbrev stV (e r : Nat) (A : Option Addr) (n c : Nat) : Value := .agg #[.int .u64 (e : Int), .int .u64 (r : Int), .slice A n c]

theorem Compare_any (w : World) (e r e' r' n c n' c' : Nat) (A A' : Option Addr) :
    Calls Try.prog 15 #[stV e r A n c, stV e' r' A' n' c'] w fun x w' => x = .returned (.int .i64 (cmpS e r e' r')) ∧ Below w.heap.size w w' := by
  have hb : Below w.heap.size w ((w.alloc (.cells #[.int .u64 (e : Int), .int .u64 (r : Int), .slice A n c] 25)).alloc (.cells #[.int .u64 (e' : Int), .int .u64 (r' : Int), .slice A' n' c'] 25)) :=
    ((Below.refl _ _).alloc (Nat.le_refl _) _).alloc (by simp) _
  unfold cmpS
  by_cases h : e = e'
  · rw [if_neg (by simpa using h)]
    subst h
    go_enter Try.func15, Try.ntmps15
    go_wp2_with (go_at_call 25; refine (cmp_any _ _ _).mono ?_; rintro e w' ⟨rfl, rfl⟩)
    go_ret
    exact ⟨rfl, hb⟩
  · rw [if_pos h]
    have h' : ((e : Int) != e') = true := by rw [bne_iff_ne]; omega
    go_enter Try.func15, Try.ntmps15
    go_wp2_with (go_at_call 25; refine (cmp_any _ _ _).mono ?_; rintro e w' ⟨rfl, rfl⟩)
    go_ret
    exact ⟨rfl, hb⟩

theorem refCompare_any (w : World) (e r e' r' n c n' c' : Nat) (A A' : Option Addr) :
    Calls Try.prog 16 #[stV e r A n c, stV e' r' A' n' c'] w fun x w' => x = .returned (.int .i64 (cmpS e r e' r')) ∧ Below w.heap.size w w' := by
  have hb : Below w.heap.size w ((w.alloc (.cells #[.int .u64 (e : Int), .int .u64 (r : Int), .slice A n c] 25)).alloc (.cells #[.int .u64 (e' : Int), .int .u64 (r' : Int), .slice A' n' c'] 25)) :=
    ((Below.refl _ _).alloc (Nat.le_refl _) _).alloc (by simp) _
  unfold cmpS cmpN
  rcases Nat.lt_trichotomy e e' with h | rfl | h
  · rw [if_pos (by omega), if_pos h]
    go_enter Try.func16, Try.ntmps16
    go_wp2_with fail
    go_ret
    exact ⟨rfl, hb⟩
  · rw [if_neg (by simp)]
    rcases Nat.lt_trichotomy r r' with h | rfl | h
    · rw [if_pos h]
      go_enter Try.func16, Try.ntmps16
      go_wp2_with fail
      go_ret
      exact ⟨rfl, hb⟩
    · rw [if_neg (Nat.lt_irrefl _), if_neg (Nat.lt_irrefl _)]
      go_enter Try.func16, Try.ntmps16
      go_wp2_with fail
      go_ret
      exact ⟨rfl, hb⟩
    · rw [if_neg (by omega), if_pos h]
      have h1 : ¬ r < r' := by omega
      have h2 : ((r : Int) == r') = false := beq_eq_false_iff_ne.2 (by omega)
      go_enter Try.func16, Try.ntmps16
      go_wp2_with fail
      go_ret
      exact ⟨rfl, hb⟩
  · rw [if_pos (by omega), if_neg (by omega), if_pos h]
    have h1 : ¬ e < e' := by omega
    have h2 : ((e : Int) == e') = false := beq_eq_false_iff_ne.2 (by omega)
    go_enter Try.func16, Try.ntmps16
    go_wp2_with fail
    go_ret
    exact ⟨rfl, hb⟩

/-! ### Lists of numbers -/

set_option maxHeartbeats 400000 in
theorem EqualInts_any (w : World) (B B' : Nat) (A A' : Option Addr) (n c n' c' : Nat) (a b : List Int) (ha : SlI w B A n c a) (hb : SlI w B' A' n' c' b) (hn : n ≤ 140737488355328) :
    Calls Try.prog 26 #[.slice A n c, .slice A' n' c'] w fun e w' => e = .returned (.bool (decide (a = b))) ∧ ∃ k, w' = w.drewN k := by
  have hla := Lib.hid ha.len
  have hlb := Lib.hid hb.len
  by_cases hne : n = n'
  · subst hne
    go_enter Try.func26, Try.ntmps26
    go_wp2
    go_loopw [13] (fun i wr => ∃ k q : Nat, k ≤ n ∧ i = .int .i64 k ∧ Hid (a.take k = b.take k) ∧ wr = w.drewN q) (fun i _ => n - (intOf i).toNat)
    case atStart => exact ⟨0, 0, Nat.zero_le _, rfl, Lib.hid (by simp), rfl⟩
    case round =>
      obtain ⟨k, q, hk, rfl, HE, rfl⟩ := hrel
      by_cases hlt : k < n
      · obtain ⟨p, x, rfl, _, hcx, hx⟩ := ha.at_ hlt
        obtain ⟨p', y, rfl, _, hcy, hy⟩ := hb.at_ hlt
        have HX := Lib.hid hx
        have HY := Lib.hid hy
        clear hx hy
        by_cases hxy : x = y
        · subst hxy
          go_wp2_with fail
          go_quiet (fail)
          go_wp2_with fail
          go_roundw
          case rel => exact ⟨k + 1, q + nq, by omega, by go_num, Lib.hid (by rw [take_nextI HX.out, take_nextI HY.out, HE.out]), rfl⟩
          case measure => simp [intOf]; omega
        · have hne : (x != y) = true := bne_iff_ne.2 hxy
          have HD : Hid (decide (a = b) = false) := Lib.hid (decide_eq_false (fun e => by
            subst e
            have := HX.out.symm.trans HY.out
            injection this with this
            exact hxy this))
          go_wp2_with fail
          go_quiet (fail)
          go_wp2_with fail
          go_ret
          rw [HD.out]
          exact ⟨rfl, q + nq, by rw [World.drewN_drewN]⟩
      · obtain rfl : k = n := by omega
        have HD : Hid (decide (a = b) = true) := Lib.hid (decide_eq_true (by
          have := HE.out
          rw [List.take_of_length_le (by rw [hla.out]; exact Nat.le_refl _), List.take_of_length_le (by rw [hlb.out]; exact Nat.le_refl _)] at this
          exact this))
        go_wp2_with fail
        go_ret
        rw [HD.out]
        exact ⟨rfl, q, rfl⟩
  · have hd : decide (a = b) = false := decide_eq_false (fun e => hne (by rw [← hla.out, ← hlb.out, e]))
    rw [hd]
    have hne' : ((n : Int) != n') = true := by rw [bne_iff_ne]; omega
    go_enter Try.func26, Try.ntmps26
    go_wp2
    go_ret
    exact ⟨rfl, 0, rfl⟩

set_option maxHeartbeats 400000 in
theorem SameInts_any (w : World) (B B' : Nat) (A A' : Option Addr) (n c n' c' : Nat) (a b : List Int) (ha : SlI w B A n c a) (hb : SlI w B' A' n' c' b) (hn : n ≤ 140737488355328) :
    Calls Try.prog 27 #[.slice A n c, .slice A' n' c'] w fun e w' => e = .returned (.bool (decide (a = b))) ∧ ∃ k, w' = w.drewN k := by
  have hla := Lib.hid ha.len
  have hlb := Lib.hid hb.len
  by_cases hne : n = n'
  · subst hne
    go_enter Try.func27, Try.ntmps27
    go_wp2
    go_loopw [13] (fun i wr => ∃ k q : Nat, k ≤ n ∧ i = .int .i64 k ∧ Hid (a.take k = b.take k) ∧ wr = w.drewN q) (fun i _ => n - (intOf i).toNat)
    case atStart => exact ⟨0, 0, Nat.zero_le _, rfl, Lib.hid (by simp), rfl⟩
    case round =>
      obtain ⟨k, q, hk, rfl, HE, rfl⟩ := hrel
      by_cases hlt : k < n
      · obtain ⟨p, x, rfl, _, hcx, hx⟩ := ha.at_ hlt
        obtain ⟨p', y, rfl, _, hcy, hy⟩ := hb.at_ hlt
        have HX := Lib.hid hx
        have HY := Lib.hid hy
        clear hx hy
        by_cases hxy : x = y
        · subst hxy
          go_wp2_with fail
          go_quiet (fail)
          go_wp2_with fail
          go_roundw
          case rel => exact ⟨k + 1, q + nq, by omega, by go_num, Lib.hid (by rw [take_nextI HX.out, take_nextI HY.out, HE.out]), rfl⟩
          case measure => simp [intOf]; omega
        · have hne : (x != y) = true := bne_iff_ne.2 hxy
          have HD : Hid (decide (a = b) = false) := Lib.hid (decide_eq_false (fun e => by
            subst e
            have := HX.out.symm.trans HY.out
            injection this with this
            exact hxy this))
          go_wp2_with fail
          go_quiet (fail)
          go_wp2_with fail
          go_ret
          rw [HD.out]
          exact ⟨rfl, q + nq, by rw [World.drewN_drewN]⟩
      · obtain rfl : k = n := by omega
        have HD : Hid (decide (a = b) = true) := Lib.hid (decide_eq_true (by
          have := HE.out
          rw [List.take_of_length_le (by rw [hla.out]; exact Nat.le_refl _), List.take_of_length_le (by rw [hlb.out]; exact Nat.le_refl _)] at this
          exact this))
        go_wp2_with fail
        go_ret
        rw [HD.out]
        exact ⟨rfl, q, rfl⟩
  · have hd : decide (a = b) = false := decide_eq_false (fun e => hne (by rw [← hla.out, ← hlb.out, e]))
    rw [hd]
    have hne' : ((n : Int) != n') = true := by rw [bne_iff_ne]; omega
    go_enter Try.func27, Try.ntmps27
    go_wp2
    go_ret
    exact ⟨rfl, 0, rfl⟩


/-! ### Same -/

/-- P4.1: all the same. -/
def sameS (e r : Nat) (l : List Int) (e' r' : Nat) (l' : List Int) : Bool := decide (e = e' ∧ r = r' ∧ l = l')

theorem cmpN_self (a : Nat) : cmpN a a = 0 := by simp [cmpN]
theorem cmpN_zero (a b : Nat) : cmpN a b = 0 ↔ a = b := by
  unfold cmpN
  split
  · simp; omega
  · split
    · simp; omega
    · simp; omega
theorem cmpS_zero (e r e' r' : Nat) : cmpS e r e' r' = 0 ↔ e = e' ∧ r = r' := by
  unfold cmpS
  split
  · rename_i h
    rw [cmpN_zero]
    exact ⟨fun h' => absurd h' h, fun h' => absurd h'.1 h⟩
  · rename_i h
    rw [cmpN_zero]
    have : e = e' := by simpa using h
    simp [this]

set_option maxHeartbeats 400000 in
theorem stampSame_any (w : World) (B B' : Nat) (e r e' r' n c n' c' : Nat) (A A' : Option Addr) (l l' : List Int) (ha : SlI w B A n c l) (hb : SlI w B' A' n' c' l') (hB : B ≤ w.heap.size) (hB' : B' ≤ w.heap.size) (hn : n ≤ 140737488355328) :
    Calls Try.prog 17 #[stV e r A n c, stV e' r' A' n' c'] w fun x w' => x = .returned (.bool (sameS e r l e' r' l')) ∧ Below w.heap.size w w' := by
  have hbel : Below w.heap.size w ((w.alloc (.cells #[.int .u64 (e : Int), .int .u64 (r : Int), .slice A n c] 25)).alloc (.cells #[.int .u64 (e' : Int), .int .u64 (r' : Int), .slice A' n' c'] 25)) :=
    ((Below.refl _ _).alloc (Nat.le_refl _) _).alloc (by simp) _
  by_cases h0 : e = e' ∧ r = r'
  · have hc := (cmpS_zero e r e' r').2 h0
    have HC := Lib.hid hc
    have HS : Hid (sameS e r l e' r' l' = decide (l = l')) := Lib.hid (by unfold sameS; simp [h0])
    clear hc h0
    go_enter Try.func17, Try.ntmps17
    go_wp2_with fail
    refine (Compare_any _ _ _ _ _ _ _ _ _ _ _).mono ?_
    rw [HC.out]
    rintro x w1 ⟨rfl, hb1⟩
    have hall := hbel.trans (hb1.mono (by simp; omega))
    simp only [World.size_alloc] at hb1
    have hcs := below_cells hb1
    go_wp2_with fail
    refine (EqualInts_any _ _ _ _ _ _ _ _ _ _ _ (ha.below (hall.mono hB)) (hb.below (hall.mono hB')) hn).mono ?_
    rintro x w2 ⟨rfl, k, rfl⟩
    go_wp2_with fail
    go_ret
    rw [HS.out]
    exact ⟨rfl, hall.trans (below_draws _ _ _)⟩
  · have hc : (cmpS e r e' r' == 0) = false := by rw [beq_eq_false_iff_ne]; exact fun h => h0 ((cmpS_zero e r e' r').1 h)
    have HS : Hid (sameS e r l e' r' l' = false) := Lib.hid (by
      unfold sameS
      exact decide_eq_false (fun h => h0 ⟨h.1, h.2.1⟩))
    clear h0
    go_enter Try.func17, Try.ntmps17
    go_wp2_with fail
    refine (Compare_any _ _ _ _ _ _ _ _ _ _ _).mono ?_
    rintro x w1 ⟨rfl, hb1⟩
    have hall := hbel.trans (hb1.mono (by simp; omega))
    simp only [World.size_alloc] at hb1
    have hcs := below_cells hb1
    go_wp2_with fail
    go_ret
    rw [HS.out]
    exact ⟨rfl, hall⟩

set_option maxHeartbeats 400000 in
theorem refStampSame_any (w : World) (B B' : Nat) (e r e' r' n c n' c' : Nat) (A A' : Option Addr) (l l' : List Int) (ha : SlI w B A n c l) (hb : SlI w B' A' n' c' l') (hB : B ≤ w.heap.size) (hB' : B' ≤ w.heap.size) (hn : n ≤ 140737488355328) :
    Calls Try.prog 18 #[stV e r A n c, stV e' r' A' n' c'] w fun x w' => x = .returned (.bool (sameS e r l e' r' l')) ∧ Below w.heap.size w w' := by
  have hbel : Below w.heap.size w ((w.alloc (.cells #[.int .u64 (e : Int), .int .u64 (r : Int), .slice A n c] 25)).alloc (.cells #[.int .u64 (e' : Int), .int .u64 (r' : Int), .slice A' n' c'] 25)) :=
    ((Below.refl _ _).alloc (Nat.le_refl _) _).alloc (by simp) _
  by_cases h1 : e = e'
  · by_cases h2 : r = r'
    · subst h1; subst h2
      have HS : Hid (sameS e r l e r l' = decide (l = l')) := Lib.hid (by unfold sameS; simp)
      go_enter Try.func18, Try.ntmps18
      go_wp2_with fail
      refine (SameInts_any _ _ _ _ _ _ _ _ _ _ _ (ha.below (hbel.mono hB)) (hb.below (hbel.mono hB')) hn).mono ?_
      rintro x w2 ⟨rfl, k, rfl⟩
      go_wp2_with fail
      go_ret
      rw [HS.out]
      exact ⟨rfl, hbel.trans (below_draws _ _ _)⟩
    · have HS : Hid (sameS e r l e' r' l' = false) := Lib.hid (by
        unfold sameS
        exact decide_eq_false (fun h => h2 h.2.1))
      have hr : ((r : Int) == r') = false := beq_eq_false_iff_ne.2 (by omega)
      subst h1
      go_enter Try.func18, Try.ntmps18
      go_wp2_with fail
      go_ret
      rw [HS.out]
      exact ⟨rfl, hbel⟩
  · have HS : Hid (sameS e r l e' r' l' = false) := Lib.hid (by
      unfold sameS
      exact decide_eq_false (fun h => h1 h.1))
    have hr : ((e : Int) == e') = false := beq_eq_false_iff_ne.2 (by omega)
    go_enter Try.func18, Try.ntmps18
    go_wp2_with fail
    go_ret
    rw [HS.out]
    exact ⟨rfl, hbel⟩
end Go.Proofs.Ytknkdkheaamglaa
