/- Whether a configuration may be: the program's answer. -/
import Derived.Test.YtcpbheenmjekdaaCfg
namespace Go.Proofs.Ytcpbheenmjekdaa
set_option linter.unusedSimpArgs false
set_option linter.unusedVariables false
open Go.RowKit

theorem keyWithin_any (w : World) (n a b : Int) : Calls Try.prog 23 #[.int .i64 n, .int .i64 a, .int .i64 b] w fun e w' => e = .returned (.bool (inB n a b)) ∧ w = w' := by
  unfold inB
  by_cases h : a ≤ n
  · have h' : n ≥ a := h
    go_enter Try.func23, Try.ntmps23
    go_wp2_with fail
    go_ret
    exact ⟨by simp [h], rfl⟩
  · have h' : ¬ n ≥ a := h
    go_enter Try.func23, Try.ntmps23
    go_wp2_with fail
    go_ret
    exact ⟨by rw [decide_eq_false (show ¬ a ≤ n by omega)]; rfl, rfl⟩

set_option maxHeartbeats 3200000 in
theorem keyCheck_any (w : World) (A : Option Addr) (n g : Nat) (c : CfgD) :
    Calls Try.prog 8 #[cfV A n g c] w fun e w' => e = .returned (.int .i64 (chkC n c)) ∧ Below w.heap.size w w' := by
  have W1 := Lib.hid fun w => keyWithin_any w c.chain 1 8
  have W2 := Lib.hid fun w => keyWithin_any w c.standby 0 8
  have W3 := Lib.hid fun w => keyWithin_any w c.clients 1 8
  have W4 := Lib.hid fun w => keyWithin_any w c.queue 1 64
  have W5 := Lib.hid fun w => keyWithin_any w c.window 1 64
  have W6 := Lib.hid fun w => keyWithin_any w c.close 1 10000
  have W9 := Lib.hid fun w => keyWithin_any w c.again 1 10000
  have hb := (Below.refl w.heap.size w).alloc (Nat.le_refl _) (.cells #[.slice A n g, .int .i64 c.chain, .int .i64 c.standby, .int .i64 c.clients, .int .i64 c.queue, .int .i64 c.close, .int .i64 c.long, .int .i64 c.again, .int .i64 c.window, .int .u64 (c.round : Int), .int .u64 (c.seq : Int)] 25)
  have bad : (okCfg n c = false) → Hid (chkC n c = 1) := fun h => Lib.hid (by unfold chkC; rw [h]; rfl)
  have good : (okCfg n c = true) → Hid (chkC n c = 0) := fun h => Lib.hid (by unfold chkC; rw [h]; rfl)
  have hs : (¬ n ≤ 64) ∨
      (n ≤ 64 ∧ inB c.chain 1 8 = false) ∨
      (n ≤ 64 ∧ inB c.chain 1 8 = true ∧ inB c.standby 0 8 = false) ∨
      (n ≤ 64 ∧ inB c.chain 1 8 = true ∧ inB c.standby 0 8 = true ∧ inB c.clients 1 8 = false) ∨
      (n ≤ 64 ∧ inB c.chain 1 8 = true ∧ inB c.standby 0 8 = true ∧ inB c.clients 1 8 = true ∧ inB c.queue 1 64 = false) ∨
      (n ≤ 64 ∧ inB c.chain 1 8 = true ∧ inB c.standby 0 8 = true ∧ inB c.clients 1 8 = true ∧ inB c.queue 1 64 = true ∧ inB c.window 1 64 = false) ∨
      (n ≤ 64 ∧ inB c.chain 1 8 = true ∧ inB c.standby 0 8 = true ∧ inB c.clients 1 8 = true ∧ inB c.queue 1 64 = true ∧ inB c.window 1 64 = true) := by
    by_cases h0 : n ≤ 64
    case neg => exact .inl (by first | assumption | rfl)
    rcases h1 : inB c.chain 1 8 with _ | _
    · exact .inr (.inl ⟨by first | assumption | rfl, by first | assumption | rfl⟩)
    rcases h2 : inB c.standby 0 8 with _ | _
    · exact .inr (.inr (.inl ⟨by first | assumption | rfl, by first | assumption | rfl, by first | assumption | rfl⟩))
    rcases h3 : inB c.clients 1 8 with _ | _
    · exact .inr (.inr (.inr (.inl ⟨by first | assumption | rfl, by first | assumption | rfl, by first | assumption | rfl, by first | assumption | rfl⟩)))
    rcases h4 : inB c.queue 1 64 with _ | _
    · exact .inr (.inr (.inr (.inr (.inl ⟨by first | assumption | rfl, by first | assumption | rfl, by first | assumption | rfl, by first | assumption | rfl, by first | assumption | rfl⟩))))
    rcases h5 : inB c.window 1 64 with _ | _
    · exact .inr (.inr (.inr (.inr (.inr (.inl ⟨by first | assumption | rfl, by first | assumption | rfl, by first | assumption | rfl, by first | assumption | rfl, by first | assumption | rfl, by first | assumption | rfl⟩)))))
    exact .inr (.inr (.inr (.inr (.inr (.inr ⟨by first | assumption | rfl, by first | assumption | rfl, by first | assumption | rfl, by first | assumption | rfl, by first | assumption | rfl, by first | assumption | rfl⟩)))))
  have ht : (inB c.close 1 10000 = false) ∨
      (inB c.close 1 10000 = true ∧ ¬ c.close < c.long) ∨
      (inB c.close 1 10000 = true ∧ c.close < c.long ∧ ¬ c.long ≤ 10000) ∨
      (inB c.close 1 10000 = true ∧ c.close < c.long ∧ c.long ≤ 10000 ∧ inB c.again 1 10000 = false) ∨
      (inB c.close 1 10000 = true ∧ c.close < c.long ∧ c.long ≤ 10000 ∧ inB c.again 1 10000 = true) := by
    rcases h0 : inB c.close 1 10000 with _ | _
    · exact .inl (by first | assumption | rfl)
    by_cases h1 : c.close < c.long
    case neg => exact .inr (.inl ⟨by first | assumption | rfl, by first | assumption | rfl⟩)
    by_cases h2 : c.long ≤ 10000
    case neg => exact .inr (.inr (.inl ⟨by first | assumption | rfl, by first | assumption | rfl, by first | assumption | rfl⟩))
    rcases h3 : inB c.again 1 10000 with _ | _
    · exact .inr (.inr (.inr (.inl ⟨by first | assumption | rfl, by first | assumption | rfl, by first | assumption | rfl, by first | assumption | rfl⟩)))
    exact .inr (.inr (.inr (.inr ⟨by first | assumption | rfl, by first | assumption | rfl, by first | assumption | rfl, by first | assumption | rfl⟩)))
  have hl : (¬ 1 ≤ c.round) ∨
      (1 ≤ c.round ∧ ¬ 1 ≤ c.seq) ∨
      (1 ≤ c.round ∧ 1 ≤ c.seq) := by
    by_cases h0 : 1 ≤ c.round
    case neg => exact .inl (by first | assumption | rfl)
    by_cases h1 : 1 ≤ c.seq
    case neg => exact .inr (.inl ⟨by first | assumption | rfl, by first | assumption | rfl⟩)
    exact .inr (.inr ⟨by first | assumption | rfl, by first | assumption | rfl⟩)
  have hok : ∀ x, okCfg n c = x → x = (decide (n ≤ 64) && (inB c.chain 1 8 && inB c.standby 0 8 && inB c.clients 1 8 && inB c.queue 1 64 && inB c.window 1 64 && inB c.close 1 10000 && decide (c.close < c.long) && decide (c.long ≤ 10000) && inB c.again 1 10000 && decide (1 ≤ c.round) && decide (1 ≤ c.seq))) := by
    intro x hx
    rw [← hx]
    unfold okCfg inB
    rw [Bool.eq_iff_iff]
    simp only [decide_eq_true_eq, Bool.and_eq_true]
    constructor
    · intro h; simp only [h, and_self]
    · intro h; omega
  have hok2 := hok _ rfl
  clear hok
  generalize inB c.chain 1 8 = b1 at W1 hs ht hok2
  generalize inB c.standby 0 8 = b2 at W2 hs ht hok2
  generalize inB c.clients 1 8 = b3 at W3 hs ht hok2
  generalize inB c.queue 1 64 = b4 at W4 hs ht hok2
  generalize inB c.window 1 64 = b5 at W5 hs ht hok2
  generalize inB c.close 1 10000 = b6 at W6 hs ht hok2
  generalize inB c.again 1 10000 = b9 at W9 hs ht hok2
  rcases hs with p0 | ⟨p0, rfl⟩ | ⟨p0, rfl, rfl⟩ | ⟨p0, rfl, rfl, rfl⟩ | ⟨p0, rfl, rfl, rfl, rfl⟩ | ⟨p0, rfl, rfl, rfl, rfl, rfl⟩ | ⟨p0, rfl, rfl, rfl, rfl, rfl⟩
  all_goals rcases ht with rfl | ⟨rfl, p7⟩ | ⟨rfl, p7, p8⟩ | ⟨rfl, p7, p8, rfl⟩ | ⟨rfl, p7, p8, rfl⟩
  all_goals first
    | (have HC := bad (by rw [hok2]; first | (simp [*]; done) | (simp [*]; omega))
       clear hl bad good hok2)
    | (rcases hl with p10 | ⟨p10, p11⟩ | ⟨p10, p11⟩ <;> first
         | (have HC := bad (by rw [hok2]; first | (simp [*]; done) | (simp [*]; omega)); clear bad good hok2)
         | (have HC := good (by rw [hok2]; first | (simp [*]; done) | (simp [*]; omega)); clear bad good hok2))
  all_goals
    go_enter Try.func8, Try.ntmps8
    go_wp2_with (go_at_call 23; first | (with_reducible refine (W1.out _).mono ?_; rintro e w' ⟨rfl, rfl⟩) | (with_reducible refine (W2.out _).mono ?_; rintro e w' ⟨rfl, rfl⟩) | (with_reducible refine (W3.out _).mono ?_; rintro e w' ⟨rfl, rfl⟩) | (with_reducible refine (W4.out _).mono ?_; rintro e w' ⟨rfl, rfl⟩) | (with_reducible refine (W5.out _).mono ?_; rintro e w' ⟨rfl, rfl⟩) | (with_reducible refine (W6.out _).mono ?_; rintro e w' ⟨rfl, rfl⟩) | (with_reducible refine (W9.out _).mono ?_; rintro e w' ⟨rfl, rfl⟩))
    go_ret
    rw [HC.out]
    exact ⟨by simp, hb⟩
end Go.Proofs.Ytcpbheenmjekdaa
