/- A configuration that came in, and whether it may be: the document's answer. -/
import Derived.Test.YtcpbheenmjekdaaOpenF
import Derived.Test.YtcpbheenmjekdaaReg
namespace Go.Proofs.Ytcpbheenmjekdaa
set_option linter.unusedSimpArgs false
set_option linter.unusedVariables false
open Go.ChangeShapes Go.WideShapes Go.ChangeAt Go.RowKit

structure CfgD where
  chain : Int
  standby : Int
  clients : Int
  queue : Int
  close : Int
  long : Int
  again : Int
  window : Int
  round : Nat
  seq : Nat

abbrev cfV (A : Option Addr) (n g : Nat) (c : CfgD) : Value := .agg #[.slice A n g, .int .i64 c.chain, .int .i64 c.standby, .int .i64 c.clients, .int .i64 c.queue, .int .i64 c.close, .int .i64 c.long, .int .i64 c.again, .int .i64 c.window, .int .u64 (c.round : Int), .int .u64 (c.seq : Int)]

def i64in (z : Int) : Prop := -9223372036854775808 ≤ z ∧ z ≤ 9223372036854775807
def CfgD.fit (c : CfgD) : Prop := i64in c.chain ∧ i64in c.standby ∧ i64in c.clients ∧ i64in c.queue ∧ i64in c.close ∧ i64in c.long ∧ i64in c.again ∧ i64in c.window ∧ c.round < 18446744073709551616 ∧ c.seq < 18446744073709551616

/-- P7.1. -/
def okCfg (n : Nat) (c : CfgD) : Bool := decide (n ≤ 64 ∧ (1 ≤ c.chain ∧ c.chain ≤ 8) ∧ (0 ≤ c.standby ∧ c.standby ≤ 8) ∧ (1 ≤ c.clients ∧ c.clients ≤ 8) ∧ (1 ≤ c.queue ∧ c.queue ≤ 64) ∧ (1 ≤ c.close ∧ c.close ≤ 10000) ∧ c.close < c.long ∧ c.long ≤ 10000 ∧ (1 ≤ c.again ∧ c.again ≤ 10000) ∧ (1 ≤ c.window ∧ c.window ≤ 64) ∧ 1 ≤ c.round ∧ 1 ≤ c.seq)
def chkC (n : Nat) (c : CfgD) : Int := if okCfg n c then 0 else 1

theorem array11 {α : Type} {cs : Array α} (h : cs.size = 11) : ∃ c0 c1 c2 c3 c4 c5 c6 c7 c8 c9 c10, cs = #[c0, c1, c2, c3, c4, c5, c6, c7, c8, c9, c10] := by
  obtain ⟨l⟩ := cs
  match l, h with
  | [c0, c1, c2, c3, c4, c5, c6, c7, c8, c9, c10], _ => exact ⟨c0, c1, c2, c3, c4, c5, c6, c7, c8, c9, c10, rfl⟩

theorem Opn.cfg {W : World} {v : Value} (h : Opn W 25 v) : ∃ A n g s c, v = cfV A n g c ∧ SlB W W.heap.size A n g s ∧ g ≤ maxLen ∧ c.fit := by
  obtain ⟨H, enc, cs, rfl, hsz, hf⟩ := h.fields Try.underlying25 (by kernel_rfl)
  obtain ⟨v0, v1, v2, v3, v4, v5, v6, v7, v8, v9, v10, rfl⟩ := array11 (hsz.trans (by kernel_rfl))
  obtain ⟨n0, y0, h0⟩ := hf 0 _ rfl
  obtain ⟨n1, y1, h1⟩ := hf 1 _ rfl
  obtain ⟨n2, y2, h2⟩ := hf 2 _ rfl
  obtain ⟨n3, y3, h3⟩ := hf 3 _ rfl
  obtain ⟨n4, y4, h4⟩ := hf 4 _ rfl
  obtain ⟨n5, y5, h5⟩ := hf 5 _ rfl
  obtain ⟨n6, y6, h6⟩ := hf 6 _ rfl
  obtain ⟨n7, y7, h7⟩ := hf 7 _ rfl
  obtain ⟨n8, y8, h8⟩ := hf 8 _ rfl
  obtain ⟨n9, y9, h9⟩ := hf 9 _ rfl
  obtain ⟨n10, y10, h10⟩ := hf 10 _ rfl
  obtain ⟨A, n, g, s, rfl, hs, hg⟩ := trod_bytes Try.underlying22 Try.underlying5 (by kernel_rfl) (v := v0) h0
  obtain ⟨z1, rfl, r1⟩ := trod_i64 Try.underlying3 (v := v1) h1
  obtain ⟨z2, rfl, r2⟩ := trod_i64 Try.underlying3 (v := v2) h2
  obtain ⟨z3, rfl, r3⟩ := trod_i64 Try.underlying3 (v := v3) h3
  obtain ⟨z4, rfl, r4⟩ := trod_i64 Try.underlying3 (v := v4) h4
  obtain ⟨z5, rfl, r5⟩ := trod_i64 Try.underlying3 (v := v5) h5
  obtain ⟨z6, rfl, r6⟩ := trod_i64 Try.underlying3 (v := v6) h6
  obtain ⟨z7, rfl, r7⟩ := trod_i64 Try.underlying3 (v := v7) h7
  obtain ⟨z8, rfl, r8⟩ := trod_i64 Try.underlying3 (v := v8) h8
  obtain ⟨m9, rfl, r9⟩ := trod_u64 Try.underlying23 (v := v9) h9
  obtain ⟨m10, rfl, r10⟩ := trod_u64 Try.underlying23 (v := v10) h10
  exact ⟨A, n, g, s, ⟨z1, z2, z3, z4, z5, z6, z7, z8, m9, m10⟩, rfl, hs, hg, r1, r2, r3, r4, r5, r6, r7, r8, r9, r10⟩

def inB (n a b : Int) : Bool := decide (a ≤ n) && decide (n ≤ b)
theorem inB_true {n a b : Int} (h : inB n a b = true) : a ≤ n ∧ n ≤ b := by unfold inB at h; simpa using h
theorem inB_false {n a b : Int} (h : inB n a b = false) : ¬ (a ≤ n ∧ n ≤ b) := by unfold inB at h; simp at h; omega

theorem refWithin_any (w : World) (n a b : Int) : Calls Try.prog 24 #[.int .i64 n, .int .i64 a, .int .i64 b] w fun e w' => e = .returned (.bool (inB n a b)) ∧ w = w' := by
  unfold inB
  by_cases h : a ≤ n
  · have h' : n ≥ a := h
    go_enter Try.func24, Try.ntmps24
    go_wp2_with fail
    go_ret
    exact ⟨by simp [h], rfl⟩
  · have h' : ¬ n ≥ a := h
    go_enter Try.func24, Try.ntmps24
    go_wp2_with fail
    go_ret
    exact ⟨by rw [decide_eq_false (show ¬ a ≤ n by omega)]; rfl, rfl⟩

set_option maxHeartbeats 1600000 in
theorem refCfgCheck_any (w : World) (A : Option Addr) (n g : Nat) (c : CfgD) :
    Calls Try.prog 9 #[cfV A n g c] w fun e w' => e = .returned (.int .i64 (chkC n c)) ∧ Below w.heap.size w w' := by
  have W1 := Lib.hid fun w => refWithin_any w c.chain 1 8
  have W2 := Lib.hid fun w => refWithin_any w c.standby 0 8
  have W3 := Lib.hid fun w => refWithin_any w c.clients 1 8
  have W4 := Lib.hid fun w => refWithin_any w c.queue 1 64
  have W5 := Lib.hid fun w => refWithin_any w c.close 1 10000
  have W8 := Lib.hid fun w => refWithin_any w c.again 1 10000
  have W9 := Lib.hid fun w => refWithin_any w c.window 1 64
  have hb := (Below.refl w.heap.size w).alloc (Nat.le_refl _) (.cells #[.slice A n g, .int .i64 c.chain, .int .i64 c.standby, .int .i64 c.clients, .int .i64 c.queue, .int .i64 c.close, .int .i64 c.long, .int .i64 c.again, .int .i64 c.window, .int .u64 (c.round : Int), .int .u64 (c.seq : Int)] 25)
  have hor : 
      (¬ n ≤ 64 ∧ Hid (chkC n c = 1)) ∨
      (n ≤ 64 ∧ inB c.chain 1 8 = false ∧ Hid (chkC n c = 1)) ∨
      (n ≤ 64 ∧ inB c.chain 1 8 = true ∧ inB c.standby 0 8 = false ∧ Hid (chkC n c = 1)) ∨
      (n ≤ 64 ∧ inB c.chain 1 8 = true ∧ inB c.standby 0 8 = true ∧ inB c.clients 1 8 = false ∧ Hid (chkC n c = 1)) ∨
      (n ≤ 64 ∧ inB c.chain 1 8 = true ∧ inB c.standby 0 8 = true ∧ inB c.clients 1 8 = true ∧ inB c.queue 1 64 = false ∧ Hid (chkC n c = 1)) ∨
      (n ≤ 64 ∧ inB c.chain 1 8 = true ∧ inB c.standby 0 8 = true ∧ inB c.clients 1 8 = true ∧ inB c.queue 1 64 = true ∧ inB c.close 1 10000 = false ∧ Hid (chkC n c = 1)) ∨
      (n ≤ 64 ∧ inB c.chain 1 8 = true ∧ inB c.standby 0 8 = true ∧ inB c.clients 1 8 = true ∧ inB c.queue 1 64 = true ∧ inB c.close 1 10000 = true ∧ ¬ c.close < c.long ∧ Hid (chkC n c = 1)) ∨
      (n ≤ 64 ∧ inB c.chain 1 8 = true ∧ inB c.standby 0 8 = true ∧ inB c.clients 1 8 = true ∧ inB c.queue 1 64 = true ∧ inB c.close 1 10000 = true ∧ c.close < c.long ∧ ¬ c.long ≤ 10000 ∧ Hid (chkC n c = 1)) ∨
      (n ≤ 64 ∧ inB c.chain 1 8 = true ∧ inB c.standby 0 8 = true ∧ inB c.clients 1 8 = true ∧ inB c.queue 1 64 = true ∧ inB c.close 1 10000 = true ∧ c.close < c.long ∧ c.long ≤ 10000 ∧ inB c.again 1 10000 = false ∧ Hid (chkC n c = 1)) ∨
      (n ≤ 64 ∧ inB c.chain 1 8 = true ∧ inB c.standby 0 8 = true ∧ inB c.clients 1 8 = true ∧ inB c.queue 1 64 = true ∧ inB c.close 1 10000 = true ∧ c.close < c.long ∧ c.long ≤ 10000 ∧ inB c.again 1 10000 = true ∧ inB c.window 1 64 = false ∧ Hid (chkC n c = 1)) ∨
      (n ≤ 64 ∧ inB c.chain 1 8 = true ∧ inB c.standby 0 8 = true ∧ inB c.clients 1 8 = true ∧ inB c.queue 1 64 = true ∧ inB c.close 1 10000 = true ∧ c.close < c.long ∧ c.long ≤ 10000 ∧ inB c.again 1 10000 = true ∧ inB c.window 1 64 = true ∧ ¬ 1 ≤ c.round ∧ Hid (chkC n c = 1)) ∨
      (n ≤ 64 ∧ inB c.chain 1 8 = true ∧ inB c.standby 0 8 = true ∧ inB c.clients 1 8 = true ∧ inB c.queue 1 64 = true ∧ inB c.close 1 10000 = true ∧ c.close < c.long ∧ c.long ≤ 10000 ∧ inB c.again 1 10000 = true ∧ inB c.window 1 64 = true ∧ 1 ≤ c.round ∧ ¬ 1 ≤ c.seq ∧ Hid (chkC n c = 1)) ∨
      (n ≤ 64 ∧ inB c.chain 1 8 = true ∧ inB c.standby 0 8 = true ∧ inB c.clients 1 8 = true ∧ inB c.queue 1 64 = true ∧ inB c.close 1 10000 = true ∧ c.close < c.long ∧ c.long ≤ 10000 ∧ inB c.again 1 10000 = true ∧ inB c.window 1 64 = true ∧ 1 ≤ c.round ∧ 1 ≤ c.seq ∧ Hid (chkC n c = 0)) := by
    have bad : (okCfg n c = false) → Hid (chkC n c = 1) := fun h => Lib.hid (by unfold chkC; rw [h]; rfl)
    by_cases h0 : n ≤ 64
    case neg =>
      refine .inl ⟨by first | assumption | rfl, bad (decide_eq_false fun hh => ?_)⟩
      omega
    rcases h1 : inB c.chain 1 8 with _ | _
    · refine .inr (.inl ⟨by first | assumption | rfl, by first | assumption | rfl, bad (decide_eq_false fun hh => ?_)⟩)
      exact inB_false h1 (by omega)
    rcases h2 : inB c.standby 0 8 with _ | _
    · refine .inr (.inr (.inl ⟨by first | assumption | rfl, by first | assumption | rfl, by first | assumption | rfl, bad (decide_eq_false fun hh => ?_)⟩))
      exact inB_false h2 (by omega)
    rcases h3 : inB c.clients 1 8 with _ | _
    · refine .inr (.inr (.inr (.inl ⟨by first | assumption | rfl, by first | assumption | rfl, by first | assumption | rfl, by first | assumption | rfl, bad (decide_eq_false fun hh => ?_)⟩)))
      exact inB_false h3 (by omega)
    rcases h4 : inB c.queue 1 64 with _ | _
    · refine .inr (.inr (.inr (.inr (.inl ⟨by first | assumption | rfl, by first | assumption | rfl, by first | assumption | rfl, by first | assumption | rfl, by first | assumption | rfl, bad (decide_eq_false fun hh => ?_)⟩))))
      exact inB_false h4 (by omega)
    rcases h5 : inB c.close 1 10000 with _ | _
    · refine .inr (.inr (.inr (.inr (.inr (.inl ⟨by first | assumption | rfl, by first | assumption | rfl, by first | assumption | rfl, by first | assumption | rfl, by first | assumption | rfl, by first | assumption | rfl, bad (decide_eq_false fun hh => ?_)⟩)))))
      exact inB_false h5 (by omega)
    by_cases h6 : c.close < c.long
    case neg =>
      refine .inr (.inr (.inr (.inr (.inr (.inr (.inl ⟨by first | assumption | rfl, by first | assumption | rfl, by first | assumption | rfl, by first | assumption | rfl, by first | assumption | rfl, by first | assumption | rfl, by first | assumption | rfl, bad (decide_eq_false fun hh => ?_)⟩))))))
      omega
    by_cases h7 : c.long ≤ 10000
    case neg =>
      refine .inr (.inr (.inr (.inr (.inr (.inr (.inr (.inl ⟨by first | assumption | rfl, by first | assumption | rfl, by first | assumption | rfl, by first | assumption | rfl, by first | assumption | rfl, by first | assumption | rfl, by first | assumption | rfl, by first | assumption | rfl, bad (decide_eq_false fun hh => ?_)⟩)))))))
      omega
    rcases h8 : inB c.again 1 10000 with _ | _
    · refine .inr (.inr (.inr (.inr (.inr (.inr (.inr (.inr (.inl ⟨by first | assumption | rfl, by first | assumption | rfl, by first | assumption | rfl, by first | assumption | rfl, by first | assumption | rfl, by first | assumption | rfl, by first | assumption | rfl, by first | assumption | rfl, by first | assumption | rfl, bad (decide_eq_false fun hh => ?_)⟩))))))))
      exact inB_false h8 (by omega)
    rcases h9 : inB c.window 1 64 with _ | _
    · refine .inr (.inr (.inr (.inr (.inr (.inr (.inr (.inr (.inr (.inl ⟨by first | assumption | rfl, by first | assumption | rfl, by first | assumption | rfl, by first | assumption | rfl, by first | assumption | rfl, by first | assumption | rfl, by first | assumption | rfl, by first | assumption | rfl, by first | assumption | rfl, by first | assumption | rfl, bad (decide_eq_false fun hh => ?_)⟩)))))))))
      exact inB_false h9 (by omega)
    by_cases h10 : 1 ≤ c.round
    case neg =>
      refine .inr (.inr (.inr (.inr (.inr (.inr (.inr (.inr (.inr (.inr (.inl ⟨by first | assumption | rfl, by first | assumption | rfl, by first | assumption | rfl, by first | assumption | rfl, by first | assumption | rfl, by first | assumption | rfl, by first | assumption | rfl, by first | assumption | rfl, by first | assumption | rfl, by first | assumption | rfl, by first | assumption | rfl, bad (decide_eq_false fun hh => ?_)⟩))))))))))
      omega
    by_cases h11 : 1 ≤ c.seq
    case neg =>
      refine .inr (.inr (.inr (.inr (.inr (.inr (.inr (.inr (.inr (.inr (.inr (.inl ⟨by first | assumption | rfl, by first | assumption | rfl, by first | assumption | rfl, by first | assumption | rfl, by first | assumption | rfl, by first | assumption | rfl, by first | assumption | rfl, by first | assumption | rfl, by first | assumption | rfl, by first | assumption | rfl, by first | assumption | rfl, by first | assumption | rfl, bad (decide_eq_false fun hh => ?_)⟩)))))))))))
      omega
    refine .inr (.inr (.inr (.inr (.inr (.inr (.inr (.inr (.inr (.inr (.inr (.inr ⟨by first | assumption | rfl, by first | assumption | rfl, by first | assumption | rfl, by first | assumption | rfl, by first | assumption | rfl, by first | assumption | rfl, by first | assumption | rfl, by first | assumption | rfl, by first | assumption | rfl, by first | assumption | rfl, by first | assumption | rfl, by first | assumption | rfl, Lib.hid ?_⟩)))))))))))
    have q1 := inB_true h1
    have q2 := inB_true h2
    have q3 := inB_true h3
    have q4 := inB_true h4
    have q5 := inB_true h5
    have q8 := inB_true h8
    have q9 := inB_true h9
    unfold chkC
    rw [show okCfg n c = true from decide_eq_true (by omega)]
    rfl
  generalize inB c.chain 1 8 = b1 at W1 hor
  generalize inB c.standby 0 8 = b2 at W2 hor
  generalize inB c.clients 1 8 = b3 at W3 hor
  generalize inB c.queue 1 64 = b4 at W4 hor
  generalize inB c.close 1 10000 = b5 at W5 hor
  generalize inB c.again 1 10000 = b8 at W8 hor
  generalize inB c.window 1 64 = b9 at W9 hor
  rcases hor with ⟨h0, HC⟩ | ⟨h0, rfl, HC⟩ | ⟨h0, rfl, rfl, HC⟩ | ⟨h0, rfl, rfl, rfl, HC⟩ | ⟨h0, rfl, rfl, rfl, rfl, HC⟩ | ⟨h0, rfl, rfl, rfl, rfl, rfl, HC⟩ | ⟨h0, rfl, rfl, rfl, rfl, rfl, h6, HC⟩ | ⟨h0, rfl, rfl, rfl, rfl, rfl, h6, h7, HC⟩ | ⟨h0, rfl, rfl, rfl, rfl, rfl, h6, h7, rfl, HC⟩ | ⟨h0, rfl, rfl, rfl, rfl, rfl, h6, h7, rfl, rfl, HC⟩ | ⟨h0, rfl, rfl, rfl, rfl, rfl, h6, h7, rfl, rfl, h10, HC⟩ | ⟨h0, rfl, rfl, rfl, rfl, rfl, h6, h7, rfl, rfl, h10, h11, HC⟩ | ⟨h0, rfl, rfl, rfl, rfl, rfl, h6, h7, rfl, rfl, h10, h11, HC⟩
  all_goals
    go_enter Try.func9, Try.ntmps9
    go_wp2_with (go_at_call 24; first | (with_reducible refine (W1.out _).mono ?_; rintro e w' ⟨rfl, rfl⟩) | (with_reducible refine (W2.out _).mono ?_; rintro e w' ⟨rfl, rfl⟩) | (with_reducible refine (W3.out _).mono ?_; rintro e w' ⟨rfl, rfl⟩) | (with_reducible refine (W4.out _).mono ?_; rintro e w' ⟨rfl, rfl⟩) | (with_reducible refine (W5.out _).mono ?_; rintro e w' ⟨rfl, rfl⟩) | (with_reducible refine (W8.out _).mono ?_; rintro e w' ⟨rfl, rfl⟩) | (with_reducible refine (W9.out _).mono ?_; rintro e w' ⟨rfl, rfl⟩))
    go_ret
    rw [HC.out]
    exact ⟨by simp, hb⟩
end Go.Proofs.Ytcpbheenmjekdaa
