/- The contracts of package letter: whether one may be, and whether two are the same. -/
import Derived.Test.YtbmdmioikdbigaaStrs
import Derived.Test.YtbmdmioikdbigaaOpenF
namespace Go.Proofs.Ytbmdmioikdbigaa
set_option linter.unusedSimpArgs false
set_option linter.unusedVariables false
open Go.ChangeShapes Go.WideShapes Go.ChangeAt Go.RowKit

/-- A letter as a value. -/
abbrev leV (cov : Bool) (f t : Int) (s : Nat) (A : Option Addr) (n c : Nat) : Value := .agg #[.bool cov, .int .i64 f, .int .i64 t, .int .u64 (s : Int), .slice A n c]

theorem array5 {α : Type} {cs : Array α} (h : cs.size = 5) : ∃ c0 c1 c2 c3 c4, cs = #[c0, c1, c2, c3, c4] := by
  obtain ⟨l⟩ := cs
  match l, h with
  | [c0, c1, c2, c3, c4], _ => exact ⟨c0, c1, c2, c3, c4, rfl⟩

theorem Opn.letter {W : World} {v : Value} (h : Opn W 26 v) : ∃ cov f t s A n c bs, v = leV cov f t s A n c ∧ s < 18446744073709551616 ∧ SlB W W.heap.size A n c bs ∧ n ≤ 9223372036854775807 := by
  obtain ⟨H, enc, cs, rfl, hsz, hf⟩ := h.fields Try.underlying26 (by kernel_rfl)
  obtain ⟨v0, v1, v2, v3, v4, rfl⟩ := array5 (hsz.trans (by kernel_rfl))
  obtain ⟨n0, y0, h0⟩ := hf 0 _ rfl
  obtain ⟨n1, y1, h1⟩ := hf 1 _ rfl
  obtain ⟨n2, y2, h2⟩ := hf 2 _ rfl
  obtain ⟨n3, y3, h3⟩ := hf 3 _ rfl
  obtain ⟨n4, y4, h4⟩ := hf 4 _ rfl
  obtain ⟨cov, rfl⟩ := trod_bool_ Try.underlying4 (v := v0) h0
  obtain ⟨f, rfl, _⟩ := trod_i64 Try.underlying3 (v := v1) h1
  obtain ⟨t, rfl, _⟩ := trod_i64 Try.underlying3 (v := v2) h2
  obtain ⟨s, rfl, hs⟩ := trod_u64 Try.underlying24 (v := v3) h3
  obtain ⟨A, m, c, bs, rfl, hb, hm⟩ := trod_bytes Try.underlying22 Try.underlying5 (by kernel_rfl) (v := v4) h4
  unfold maxLen at hm
  exact ⟨cov, f, t, s, A, m, c, bs, rfl, hs, hb, by have := hb.cap; omega⟩

/-- P10.1. -/
def chkL (cov : Bool) (f t : Int) (s n : Nat) : Int :=
  if cov then (if f ≠ 0 ∨ t ≠ 0 ∨ s ≠ 0 ∨ 0 < n then 1 else 0)
  else if (f < 0 ∨ 7 < f) ∨ (t < 0 ∨ 7 < t) ∨ s < 1 then 1 else if 64 < n then 2 else 0

theorem letClient_any (w : World) (n : Int) : Calls Try.prog 26 #[.int .i64 n] w fun e w' => e = .returned (.bool (decide (0 ≤ n) && decide (n ≤ 7))) ∧ w = w' := by
  by_cases h : 0 ≤ n
  · have h' : n ≥ 0 := h
    go_enter Try.func26, Try.ntmps26
    go_wp2_with fail
    go_ret
    exact ⟨by simp [h], rfl⟩
  · have h' : ¬ n ≥ 0 := h
    go_enter Try.func26, Try.ntmps26
    go_wp2_with fail
    go_ret
    exact ⟨by rw [decide_eq_false (show ¬ 0 ≤ n by omega)]; rfl, rfl⟩

set_option maxHeartbeats 1600000 in
theorem letCheck_any (w : World) (cov : Bool) (f t : Int) (s n c : Nat) (A : Option Addr) :
    Calls Try.prog 15 #[leV cov f t s A n c] w fun e w' => e = .returned (.int .i64 (chkL cov f t s n)) ∧ Below w.heap.size w w' := by
  have hbb := fun (o : Obj) => (Below.refl w.heap.size w).alloc (Nat.le_refl _) o
  rcases cov with _ | _
  · have C1 := Lib.hid fun w => letClient_any w f
    have C2 := Lib.hid fun w => letClient_any w t
    have hcs : (decide (0 ≤ f) && decide (f ≤ 7)) = false ∨ ((decide (0 ≤ f) && decide (f ≤ 7)) = true ∧ (decide (0 ≤ t) && decide (t ≤ 7)) = false) ∨ ((decide (0 ≤ f) && decide (f ≤ 7)) = true ∧ (decide (0 ≤ t) && decide (t ≤ 7)) = true) := by
      rcases (decide (0 ≤ f) && decide (f ≤ 7)) with _ | _ <;> rcases (decide (0 ≤ t) && decide (t ≤ 7)) with _ | _ <;> simp
    have rw1 := fun (b : Bool) (h : (decide (0 ≤ f) && decide (f ≤ 7)) = b) => h
    rcases hcs with h1 | ⟨h1, h2⟩ | ⟨h1, h2⟩
    · have HC : Hid (chkL false f t s n = 1) := Lib.hid (by unfold chkL; simp at h1 ⊢; omega)
      rw [h1] at C1
      rw [HC.out]
      go_enter Try.func15, Try.ntmps15
      go_wp2_with (go_at_call 26; first | (with_reducible refine (C1.out _).mono ?_; rintro e w1 ⟨rfl, rfl⟩) | (with_reducible refine (C2.out _).mono ?_; rintro e w1 ⟨rfl, rfl⟩))
      go_ret
      exact ⟨rfl, hbb _⟩
    · have HC : Hid (chkL false f t s n = 1) := Lib.hid (by unfold chkL; simp at h1 h2 ⊢; omega)
      rw [h1] at C1
      rw [h2] at C2
      rw [HC.out]
      go_enter Try.func15, Try.ntmps15
      go_wp2_with (go_at_call 26; first | (with_reducible refine (C1.out _).mono ?_; rintro e w1 ⟨rfl, rfl⟩) | (with_reducible refine (C2.out _).mono ?_; rintro e w1 ⟨rfl, rfl⟩))
      go_ret
      exact ⟨rfl, hbb _⟩
    · have hr : (0 ≤ f ∧ f ≤ 7) ∧ 0 ≤ t ∧ t ≤ 7 := by simp at h1 h2; omega
      rw [h1] at C1
      rw [h2] at C2
      clear h1 h2 rw1
      by_cases h3 : s < 1
      · have HC : Hid (chkL false f t s n = 1) := Lib.hid (by unfold chkL; simp <;> omega)
        rw [HC.out]
        obtain rfl : s = 0 := by omega
        clear hr
        go_enter Try.func15, Try.ntmps15
        go_wp2_with (go_at_call 26; first | (with_reducible refine (C1.out _).mono ?_; rintro e w1 ⟨rfl, rfl⟩) | (with_reducible refine (C2.out _).mono ?_; rintro e w1 ⟨rfl, rfl⟩))
        go_ret
        exact ⟨rfl, hbb _⟩
      · have h3' : ¬ ((s : Int) < 1) := by omega
        by_cases h4 : 64 < n
        · have HC : Hid (chkL false f t s n = 2) := Lib.hid (by unfold chkL; simp <;> omega)
          rw [HC.out]
          clear hr
          go_enter Try.func15, Try.ntmps15
          go_wp2_with (go_at_call 26; first | (with_reducible refine (C1.out _).mono ?_; rintro e w1 ⟨rfl, rfl⟩) | (with_reducible refine (C2.out _).mono ?_; rintro e w1 ⟨rfl, rfl⟩))
          go_ret
          exact ⟨rfl, hbb _⟩
        · have HC : Hid (chkL false f t s n = 0) := Lib.hid (by unfold chkL; simp <;> omega)
          rw [HC.out]
          clear hr
          go_enter Try.func15, Try.ntmps15
          go_wp2_with (go_at_call 26; first | (with_reducible refine (C1.out _).mono ?_; rintro e w1 ⟨rfl, rfl⟩) | (with_reducible refine (C2.out _).mono ?_; rintro e w1 ⟨rfl, rfl⟩))
          go_ret
          exact ⟨rfl, hbb _⟩
  · have hcs : f ≠ 0 ∨ (f = 0 ∧ t ≠ 0) ∨ (f = 0 ∧ t = 0 ∧ s ≠ 0) ∨ (f = 0 ∧ t = 0 ∧ s = 0 ∧ 0 < n) ∨ (f = 0 ∧ t = 0 ∧ s = 0 ∧ n = 0) := by omega
    rcases hcs with h1 | h1 | h1 | h1 | h1
    · have HC : Hid (chkL true f t s n = 1) := Lib.hid (by unfold chkL; simp <;> omega)
      rw [HC.out]
      clear HC
      have b1 : (f != 0) = true := by simpa using h1
      go_enter Try.func15, Try.ntmps15
      go_wp2_with fail
      go_ret
      exact ⟨rfl, hbb _⟩
    · have HC : Hid (chkL true f t s n = 1) := Lib.hid (by unfold chkL; simp <;> omega)
      rw [HC.out]
      clear HC
      obtain ⟨rfl, h2⟩ := h1
      have b1 : (t != 0) = true := by simpa using h2
      go_enter Try.func15, Try.ntmps15
      go_wp2_with fail
      go_ret
      exact ⟨rfl, hbb _⟩
    · have HC : Hid (chkL true f t s n = 1) := Lib.hid (by unfold chkL; simp <;> omega)
      rw [HC.out]
      clear HC
      obtain ⟨rfl, rfl, h2⟩ := h1
      have b1 : ((s : Int) != 0) = true := by simpa using h2
      go_enter Try.func15, Try.ntmps15
      go_wp2_with fail
      go_ret
      exact ⟨rfl, hbb _⟩
    · have HC : Hid (chkL true f t s n = 1) := Lib.hid (by unfold chkL; simp <;> omega)
      rw [HC.out]
      clear HC
      obtain ⟨rfl, rfl, rfl, h2⟩ := h1
      go_enter Try.func15, Try.ntmps15
      go_wp2_with fail
      go_ret
      exact ⟨rfl, hbb _⟩
    · have HC : Hid (chkL true f t s n = 0) := Lib.hid (by unfold chkL; simp <;> omega)
      rw [HC.out]
      clear HC
      obtain ⟨rfl, rfl, rfl, rfl⟩ := h1
      go_enter Try.func15, Try.ntmps15
      go_wp2_with fail
      go_ret
      exact ⟨rfl, hbb _⟩

set_option maxHeartbeats 1600000 in
theorem refLetCheck_any (w : World) (cov : Bool) (f t : Int) (s n c : Nat) (A : Option Addr) :
    Calls Try.prog 29 #[leV cov f t s A n c] w fun e w' => e = .returned (.int .i64 (chkL cov f t s n)) ∧ Below w.heap.size w w' := by
  have hbb := fun (o : Obj) => (Below.refl w.heap.size w).alloc (Nat.le_refl _) o
  rcases cov with _ | _
  · have hcs : f < 0 ∨ (¬ f < 0 ∧ 7 < f) ∨ (¬ f < 0 ∧ ¬ 7 < f ∧ t < 0) ∨ (¬ f < 0 ∧ ¬ 7 < f ∧ ¬ t < 0 ∧ 7 < t) ∨ (¬ f < 0 ∧ ¬ 7 < f ∧ ¬ t < 0 ∧ ¬ 7 < t ∧ s = 0) ∨ (¬ f < 0 ∧ ¬ 7 < f ∧ ¬ t < 0 ∧ ¬ 7 < t ∧ 1 ≤ s ∧ 64 < n) ∨ (¬ f < 0 ∧ ¬ 7 < f ∧ ¬ t < 0 ∧ ¬ 7 < t ∧ 1 ≤ s ∧ ¬ 64 < n) := by omega
    rcases hcs with h1 | ⟨h1, h2⟩ | ⟨h1, h2, h3⟩ | ⟨h1, h2, h3, h4⟩ | ⟨h1, h2, h3, h4, rfl⟩ | ⟨h1, h2, h3, h4, h5, h6⟩ | ⟨h1, h2, h3, h4, h5, h6⟩
    · have HC : Hid (chkL false f t s n = 1) := Lib.hid (by unfold chkL; simp <;> omega)
      rw [HC.out]
      go_enter Try.func29, Try.ntmps29
      go_wp2_with fail
      go_ret
      exact ⟨rfl, hbb _⟩
    · have HC : Hid (chkL false f t s n = 1) := Lib.hid (by unfold chkL; simp <;> omega)
      rw [HC.out]
      go_enter Try.func29, Try.ntmps29
      go_wp2_with fail
      go_ret
      exact ⟨rfl, hbb _⟩
    · have HC : Hid (chkL false f t s n = 1) := Lib.hid (by unfold chkL; simp <;> omega)
      rw [HC.out]
      go_enter Try.func29, Try.ntmps29
      go_wp2_with fail
      go_ret
      exact ⟨rfl, hbb _⟩
    · have HC : Hid (chkL false f t s n = 1) := Lib.hid (by unfold chkL; simp <;> omega)
      rw [HC.out]
      go_enter Try.func29, Try.ntmps29
      go_wp2_with fail
      go_ret
      exact ⟨rfl, hbb _⟩
    · have HC : Hid (chkL false f t 0 n = 1) := Lib.hid (by unfold chkL; simp <;> omega)
      rw [HC.out]
      go_enter Try.func29, Try.ntmps29
      go_wp2_with fail
      go_ret
      exact ⟨rfl, hbb _⟩
    · have HC : Hid (chkL false f t s n = 2) := Lib.hid (by unfold chkL; simp <;> omega)
      rw [HC.out]
      have h5' : ¬ ((s : Int) < 1) := by omega
      go_enter Try.func29, Try.ntmps29
      go_wp2_with fail
      go_ret
      exact ⟨rfl, hbb _⟩
    · have HC : Hid (chkL false f t s n = 0) := Lib.hid (by unfold chkL; simp <;> omega)
      rw [HC.out]
      have h5' : ¬ ((s : Int) < 1) := by omega
      go_enter Try.func29, Try.ntmps29
      go_wp2_with fail
      go_ret
      exact ⟨rfl, hbb _⟩
  · have hcs : f ≠ 0 ∨ (f = 0 ∧ t ≠ 0) ∨ (f = 0 ∧ t = 0 ∧ s ≠ 0) ∨ (f = 0 ∧ t = 0 ∧ s = 0 ∧ 0 < n) ∨ (f = 0 ∧ t = 0 ∧ s = 0 ∧ n = 0) := by omega
    rcases hcs with h1 | h1 | h1 | h1 | h1
    · have HC : Hid (chkL true f t s n = 1) := Lib.hid (by unfold chkL; simp <;> omega)
      rw [HC.out]
      clear HC
      have b1 : (f != 0) = true := by simpa using h1
      go_enter Try.func29, Try.ntmps29
      go_wp2_with fail
      go_ret
      exact ⟨rfl, hbb _⟩
    · have HC : Hid (chkL true f t s n = 1) := Lib.hid (by unfold chkL; simp <;> omega)
      rw [HC.out]
      clear HC
      obtain ⟨rfl, h2⟩ := h1
      have b1 : (t != 0) = true := by simpa using h2
      go_enter Try.func29, Try.ntmps29
      go_wp2_with fail
      go_ret
      exact ⟨rfl, hbb _⟩
    · have HC : Hid (chkL true f t s n = 1) := Lib.hid (by unfold chkL; simp <;> omega)
      rw [HC.out]
      clear HC
      obtain ⟨rfl, rfl, h2⟩ := h1
      have b1 : ((s : Int) != 0) = true := by simpa using h2
      go_enter Try.func29, Try.ntmps29
      go_wp2_with fail
      go_ret
      exact ⟨rfl, hbb _⟩
    · have HC : Hid (chkL true f t s n = 1) := Lib.hid (by unfold chkL; simp <;> omega)
      rw [HC.out]
      clear HC
      obtain ⟨rfl, rfl, rfl, h2⟩ := h1
      go_enter Try.func29, Try.ntmps29
      go_wp2_with fail
      go_ret
      exact ⟨rfl, hbb _⟩
    · have HC : Hid (chkL true f t s n = 0) := Lib.hid (by unfold chkL; simp <;> omega)
      rw [HC.out]
      clear HC
      obtain ⟨rfl, rfl, rfl, rfl⟩ := h1
      go_enter Try.func29, Try.ntmps29
      go_wp2_with fail
      go_ret
      exact ⟨rfl, hbb _⟩

theorem bytesEqual_any (w : World) (B B' : Nat) (A A' : Option Addr) (n c n' c' : Nat) (a b : List UInt8) (ha : SlB w B A n c a) (hb : SlB w B' A' n' c' b) :
    Calls Try.prog 18 #[.slice A n c, .slice A' n' c'] w fun e w' => e = .returned (.bool (decide (a = b))) ∧ w = w' := by
  have h1 := run_string_of Try.underlying22 Try.underlying5 Try.underlying9 ha
  have h2 := run_string_of Try.underlying22 Try.underlying5 Try.underlying9 hb
  go_enter Try.func18, Try.ntmps18
  go_wp2
  go_ret
  refine ⟨?_, rfl⟩
  rw [← beq_bytes]
  rfl

/-- P10.1. -/
def sameL (c0 : Bool) (f0 t0 : Int) (s0 : Nat) (b0 : List UInt8) (c1 : Bool) (f1 t1 : Int) (s1 : Nat) (b1 : List UInt8) : Bool := decide (c0 = c1 ∧ f0 = f1 ∧ t0 = t1 ∧ s0 = s1 ∧ b0 = b1)

set_option maxHeartbeats 1600000 in
theorem letSame_any (w : World) (B B' : Nat) (c0 c1 : Bool) (f0 t0 f1 t1 : Int) (s0 s1 n0 g0 n1 g1 : Nat) (A0 A1 : Option Addr) (b0 b1 : List UInt8) (h0 : SlB w B A0 n0 g0 b0) (h1 : SlB w B' A1 n1 g1 b1) (hB : B ≤ w.heap.size) (hB' : B' ≤ w.heap.size) :
    Calls Try.prog 14 #[leV c0 f0 t0 s0 A0 n0 g0, leV c1 f1 t1 s1 A1 n1 g1] w fun e w' => e = .returned (.bool (sameL c0 f0 t0 s0 b0 c1 f1 t1 s1 b1)) ∧ Below w.heap.size w w' := by
  have hbb := fun (o o' : Obj) => ((Below.refl w.heap.size w).alloc (Nat.le_refl _) o).alloc (by simp) o'
  have no : ¬ (c0 = c1 ∧ f0 = f1 ∧ t0 = t1 ∧ s0 = s1) → Hid (sameL c0 f0 t0 s0 b0 c1 f1 t1 s1 b1 = false) := fun h => Lib.hid (by unfold sameL; exact decide_eq_false fun ⟨a, b, c, d, _⟩ => h ⟨a, b, c, d⟩)
  have hcs : c0 ≠ c1 ∨ (c0 = c1 ∧ f0 ≠ f1) ∨ (c0 = c1 ∧ f0 = f1 ∧ t0 ≠ t1) ∨ (c0 = c1 ∧ f0 = f1 ∧ t0 = t1 ∧ s0 ≠ s1) ∨ (c0 = c1 ∧ f0 = f1 ∧ t0 = t1 ∧ s0 = s1) := by
    by_cases a : c0 = c1 <;> by_cases b : f0 = f1 <;> by_cases c : t0 = t1 <;> by_cases d : s0 = s1 <;> simp [a, b, c, d]
  rcases hcs with h | ⟨rfl, h⟩ | ⟨rfl, rfl, h⟩ | ⟨rfl, rfl, rfl, h⟩ | ⟨rfl, rfl, rfl, rfl⟩
  · have HC := no (fun hh => h hh.1)
    rw [HC.out]
    have b1 : (c0 == c1) = false := beq_eq_false_iff_ne.2 (by first | exact h | omega)
    clear no
    go_enter Try.func14, Try.ntmps14
    go_wp2_with fail
    go_ret
    exact ⟨rfl, hbb _ _⟩
  · have HC := no (fun hh => h hh.2.1)
    rw [HC.out]
    have b1 : (f0 == f1) = false := beq_eq_false_iff_ne.2 (by first | exact h | omega)
    clear no
    go_enter Try.func14, Try.ntmps14
    go_wp2_with fail
    go_ret
    exact ⟨rfl, hbb _ _⟩
  · have HC := no (fun hh => h hh.2.2.1)
    rw [HC.out]
    have b1 : (t0 == t1) = false := beq_eq_false_iff_ne.2 (by first | exact h | omega)
    clear no
    go_enter Try.func14, Try.ntmps14
    go_wp2_with fail
    go_ret
    exact ⟨rfl, hbb _ _⟩
  · have HC := no (fun hh => h hh.2.2.2)
    rw [HC.out]
    have b1 : ((s0 : Int) == s1) = false := beq_eq_false_iff_ne.2 (by first | exact h | omega)
    clear no
    go_enter Try.func14, Try.ntmps14
    go_wp2_with fail
    go_ret
    exact ⟨rfl, hbb _ _⟩
  · have HC : Hid (sameL c0 f0 t0 s0 b0 c0 f0 t0 s0 b1 = decide (b0 = b1)) := Lib.hid (by unfold sameL; simp)
    rw [HC.out]
    clear no
    have b1 : (c0 == c0) = true := by simp
    go_enter Try.func14, Try.ntmps14
    go_wp2_with (go_at_call 18; refine (bytesEqual_any _ _ _ _ _ _ _ _ _ _ _ ((h0.alloc hB _).alloc (by simp; omega) _) ((h1.alloc hB' _).alloc (by simp; omega) _)).mono ?_; rintro e w1 ⟨rfl, rfl⟩)
    go_ret
    exact ⟨rfl, hbb _ _⟩

set_option maxHeartbeats 1600000 in
theorem refLetSame_any (w : World) (B B' : Nat) (c0 c1 : Bool) (f0 t0 f1 t1 : Int) (s0 s1 n0 g0 n1 g1 : Nat) (A0 A1 : Option Addr) (b0 b1 : List UInt8) (h0 : SlB w B A0 n0 g0 b0) (h1 : SlB w B' A1 n1 g1 b1) (hB : B ≤ w.heap.size) (hB' : B' ≤ w.heap.size) :
    Calls Try.prog 11 #[leV c0 f0 t0 s0 A0 n0 g0, leV c1 f1 t1 s1 A1 n1 g1] w fun e w' => e = .returned (.bool (sameL c0 f0 t0 s0 b0 c1 f1 t1 s1 b1)) ∧ Below w.heap.size w w' := by
  have hbb := fun (o o' : Obj) => ((Below.refl w.heap.size w).alloc (Nat.le_refl _) o).alloc (by simp) o'
  have no : ¬ (c0 = c1 ∧ f0 = f1 ∧ t0 = t1 ∧ s0 = s1) → Hid (sameL c0 f0 t0 s0 b0 c1 f1 t1 s1 b1 = false) := fun h => Lib.hid (by unfold sameL; exact decide_eq_false fun ⟨a, b, c, d, _⟩ => h ⟨a, b, c, d⟩)
  have hcs : c0 ≠ c1 ∨ (c0 = c1 ∧ f0 ≠ f1) ∨ (c0 = c1 ∧ f0 = f1 ∧ t0 ≠ t1) ∨ (c0 = c1 ∧ f0 = f1 ∧ t0 = t1 ∧ s0 ≠ s1) ∨ (c0 = c1 ∧ f0 = f1 ∧ t0 = t1 ∧ s0 = s1) := by
    by_cases a : c0 = c1 <;> by_cases b : f0 = f1 <;> by_cases c : t0 = t1 <;> by_cases d : s0 = s1 <;> simp [a, b, c, d]
  rcases hcs with h | ⟨rfl, h⟩ | ⟨rfl, rfl, h⟩ | ⟨rfl, rfl, rfl, h⟩ | ⟨rfl, rfl, rfl, rfl⟩
  · have HC := no (fun hh => h hh.1)
    rw [HC.out]
    have b1 : (c0 == c1) = false := beq_eq_false_iff_ne.2 (by first | exact h | omega)
    clear no
    go_enter Try.func11, Try.ntmps11
    go_wp2_with fail
    go_ret
    exact ⟨rfl, hbb _ _⟩
  · have HC := no (fun hh => h hh.2.1)
    rw [HC.out]
    have b1 : (f0 == f1) = false := beq_eq_false_iff_ne.2 (by first | exact h | omega)
    clear no
    go_enter Try.func11, Try.ntmps11
    go_wp2_with fail
    go_ret
    exact ⟨rfl, hbb _ _⟩
  · have HC := no (fun hh => h hh.2.2.1)
    rw [HC.out]
    have b1 : (t0 == t1) = false := beq_eq_false_iff_ne.2 (by first | exact h | omega)
    clear no
    go_enter Try.func11, Try.ntmps11
    go_wp2_with fail
    go_ret
    exact ⟨rfl, hbb _ _⟩
  · have HC := no (fun hh => h hh.2.2.2)
    rw [HC.out]
    have b1 : ((s0 : Int) == s1) = false := beq_eq_false_iff_ne.2 (by first | exact h | omega)
    clear no
    go_enter Try.func11, Try.ntmps11
    go_wp2_with fail
    go_ret
    exact ⟨rfl, hbb _ _⟩
  · have HC : Hid (sameL c0 f0 t0 s0 b0 c0 f0 t0 s0 b1 = decide (b0 = b1)) := Lib.hid (by unfold sameL; simp)
    rw [HC.out]
    clear no
    have b1 : (c0 == c0) = true := by simp
    go_enter Try.func11, Try.ntmps11
    go_wp2_with (go_at_call 12; refine (Same_any _ _ _ _ _ _ _ _ _ _ _ ((h0.alloc hB _).alloc (by simp; omega) _) ((h1.alloc hB' _).alloc (by simp; omega) _)).mono ?_; rintro e w1 ⟨rfl, rfl⟩)
    go_ret
    exact ⟨rfl, hbb _ _⟩
end Go.Proofs.Ytbmdmioikdbigaa
