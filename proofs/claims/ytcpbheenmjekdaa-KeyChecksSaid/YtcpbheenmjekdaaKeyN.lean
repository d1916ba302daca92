/- Nodes, servers and clients of a configuration that may be. -/
import Derived.Test.YtcpbheenmjekdaaCfg
namespace Go.Proofs.Ytcpbheenmjekdaa
set_option linter.unusedSimpArgs false
set_option linter.unusedVariables false
open Go.RowKit

theorem keyWithinN_any (w : World) (n a b : Int) : Calls Try.prog 23 #[.int .i64 n, .int .i64 a, .int .i64 b] w fun e w' => e = .returned (.bool (inB n a b)) ∧ w = w' := by
  unfold inB
  by_cases h : a ≤ n
  · have h' : n ≥ a := h
    go_enter Try.func23, Try.ntmps23
    go_wp2_with fail
    go_ret
    exact ⟨by simp [h], rfl⟩
  · have h' : ¬ n ≥ a := h
    go_enter Try.func23, Try.ntmps23
    go_wp2_with fail
    go_ret
    exact ⟨by rw [decide_eq_false (show ¬ a ≤ n by omega)]; rfl, rfl⟩

structure CfgSmall (c : CfgD) : Prop where
  a0 : 1 ≤ c.chain
  a1 : c.chain ≤ 8
  b0 : 0 ≤ c.standby
  b1 : c.standby ≤ 8
  d0 : 1 ≤ c.clients
  d1 : c.clients ≤ 8
theorem okCfg_small {n : Nat} {c : CfgD} (h : okCfg n c = true) : CfgSmall c := by
  unfold okCfg at h
  have := of_decide_eq_true h
  exact ⟨by omega, by omega, by omega, by omega, by omega, by omega⟩

def nodesC (c : CfgD) : Int := 1 + c.chain + c.standby + c.clients
def clientC (c : CfgD) (n : Int) : Int × Bool := if n < 1 + c.chain + c.standby ∨ nodesC c ≤ n then (0, false) else (n - (1 + c.chain + c.standby), true)
def nodeC (c : CfgD) (k : Int) : Int := if k < 0 ∨ c.clients ≤ k then -1 else 1 + c.chain + c.standby + k

theorem keyNodes_any (w : World) (A : Option Addr) (n g : Nat) (c : CfgD) (hc : CfgSmall c) :
    Calls Try.prog 15 #[cfV A n g c] w fun e w' => e = .returned (.int .i64 (nodesC c)) ∧ Below w.heap.size w w' := by
  have ⟨a0, a1, b0, b1, d0, d1⟩ := hc
  have hb := (Below.refl w.heap.size w).alloc (Nat.le_refl _) (.cells #[.slice A n g, .int .i64 c.chain, .int .i64 c.standby, .int .i64 c.clients, .int .i64 c.queue, .int .i64 c.close, .int .i64 c.long, .int .i64 c.again, .int .i64 c.window, .int .u64 (c.round : Int), .int .u64 (c.seq : Int)] 25)
  have w1 : IntKind.i64.wrap (1 + c.chain) = 1 + c.chain := IntWalk.i64_in _ ⟨by omega, by omega⟩
  have w2 : IntKind.i64.wrap (1 + c.chain + c.standby) = 1 + c.chain + c.standby := IntWalk.i64_in _ ⟨by omega, by omega⟩
  have w3 : IntKind.i64.wrap (1 + c.chain + c.standby + c.clients) = 1 + c.chain + c.standby + c.clients := IntWalk.i64_in _ ⟨by omega, by omega⟩
  have w4 : IntKind.i64.wrap (c.chain + c.standby) = c.chain + c.standby := IntWalk.i64_in _ ⟨by omega, by omega⟩
  have w5 : IntKind.i64.wrap (c.chain + c.standby + c.clients) = c.chain + c.standby + c.clients := IntWalk.i64_in _ ⟨by omega, by omega⟩
  unfold nodesC
  go_enter Try.func15, Try.ntmps15
  go_wp2_with fail
  go_ret
  exact ⟨by simp [*], hb⟩

theorem refNodes_any (w : World) (A : Option Addr) (n g : Nat) (c : CfgD) (hc : CfgSmall c) :
    Calls Try.prog 16 #[cfV A n g c] w fun e w' => e = .returned (.int .i64 (nodesC c)) ∧ Below w.heap.size w w' := by
  have ⟨a0, a1, b0, b1, d0, d1⟩ := hc
  have hb := (Below.refl w.heap.size w).alloc (Nat.le_refl _) (.cells #[.slice A n g, .int .i64 c.chain, .int .i64 c.standby, .int .i64 c.clients, .int .i64 c.queue, .int .i64 c.close, .int .i64 c.long, .int .i64 c.again, .int .i64 c.window, .int .u64 (c.round : Int), .int .u64 (c.seq : Int)] 25)
  have w1 : IntKind.i64.wrap (1 + c.chain) = 1 + c.chain := IntWalk.i64_in _ ⟨by omega, by omega⟩
  have w2 : IntKind.i64.wrap (1 + c.chain + c.standby) = 1 + c.chain + c.standby := IntWalk.i64_in _ ⟨by omega, by omega⟩
  have w3 : IntKind.i64.wrap (1 + c.chain + c.standby + c.clients) = 1 + c.chain + c.standby + c.clients := IntWalk.i64_in _ ⟨by omega, by omega⟩
  have w4 : IntKind.i64.wrap (c.chain + c.standby) = c.chain + c.standby := IntWalk.i64_in _ ⟨by omega, by omega⟩
  have w5 : IntKind.i64.wrap (c.chain + c.standby + c.clients) = c.chain + c.standby + c.clients := IntWalk.i64_in _ ⟨by omega, by omega⟩
  unfold nodesC
  go_enter Try.func16, Try.ntmps16
  go_wp2_with fail
  go_ret
  exact ⟨by simp [*], hb⟩

theorem keyServer_any (w : World) (A : Option Addr) (n g : Nat) (c : CfgD) (hc : CfgSmall c) (x : Int) :
    Calls Try.prog 17 #[cfV A n g c, .int .i64 x] w fun e w' => e = .returned (.bool (inB x 1 (c.chain + c.standby))) ∧ Below w.heap.size w w' := by
  have ⟨a0, a1, b0, b1, d0, d1⟩ := hc
  have hb := (Below.refl w.heap.size w).alloc (Nat.le_refl _) (.cells #[.slice A n g, .int .i64 c.chain, .int .i64 c.standby, .int .i64 c.clients, .int .i64 c.queue, .int .i64 c.close, .int .i64 c.long, .int .i64 c.again, .int .i64 c.window, .int .u64 (c.round : Int), .int .u64 (c.seq : Int)] 25)
  have w1 : IntKind.i64.wrap (1 + c.chain) = 1 + c.chain := IntWalk.i64_in _ ⟨by omega, by omega⟩
  have w2 : IntKind.i64.wrap (1 + c.chain + c.standby) = 1 + c.chain + c.standby := IntWalk.i64_in _ ⟨by omega, by omega⟩
  have w3 : IntKind.i64.wrap (1 + c.chain + c.standby + c.clients) = 1 + c.chain + c.standby + c.clients := IntWalk.i64_in _ ⟨by omega, by omega⟩
  have w4 : IntKind.i64.wrap (c.chain + c.standby) = c.chain + c.standby := IntWalk.i64_in _ ⟨by omega, by omega⟩
  have w5 : IntKind.i64.wrap (c.chain + c.standby + c.clients) = c.chain + c.standby + c.clients := IntWalk.i64_in _ ⟨by omega, by omega⟩
  go_enter Try.func17, Try.ntmps17
  go_wp2_with (go_at_call 23; refine (keyWithinN_any _ _ _ _).mono ?_; rintro e w' ⟨rfl, rfl⟩)
  go_ret
  exact ⟨rfl, hb⟩

theorem refServer_any (w : World) (A : Option Addr) (n g : Nat) (c : CfgD) (hc : CfgSmall c) (x : Int) :
    Calls Try.prog 18 #[cfV A n g c, .int .i64 x] w fun e w' => e = .returned (.bool (inB x 1 (c.chain + c.standby))) ∧ Below w.heap.size w w' := by
  have ⟨a0, a1, b0, b1, d0, d1⟩ := hc
  have hb := (Below.refl w.heap.size w).alloc (Nat.le_refl _) (.cells #[.slice A n g, .int .i64 c.chain, .int .i64 c.standby, .int .i64 c.clients, .int .i64 c.queue, .int .i64 c.close, .int .i64 c.long, .int .i64 c.again, .int .i64 c.window, .int .u64 (c.round : Int), .int .u64 (c.seq : Int)] 25)
  have w1 : IntKind.i64.wrap (1 + c.chain) = 1 + c.chain := IntWalk.i64_in _ ⟨by omega, by omega⟩
  have w2 : IntKind.i64.wrap (1 + c.chain + c.standby) = 1 + c.chain + c.standby := IntWalk.i64_in _ ⟨by omega, by omega⟩
  have w3 : IntKind.i64.wrap (1 + c.chain + c.standby + c.clients) = 1 + c.chain + c.standby + c.clients := IntWalk.i64_in _ ⟨by omega, by omega⟩
  have w4 : IntKind.i64.wrap (c.chain + c.standby) = c.chain + c.standby := IntWalk.i64_in _ ⟨by omega, by omega⟩
  have w5 : IntKind.i64.wrap (c.chain + c.standby + c.clients) = c.chain + c.standby + c.clients := IntWalk.i64_in _ ⟨by omega, by omega⟩
  go_enter Try.func18, Try.ntmps18
  go_wp2_with (go_at_call 24; refine (refWithin_any _ _ _ _).mono ?_; rintro e w' ⟨rfl, rfl⟩)
  go_ret
  exact ⟨rfl, hb⟩

theorem keyNode_any (w : World) (A : Option Addr) (n g : Nat) (c : CfgD) (hc : CfgSmall c) (x : Int) :
    Calls Try.prog 19 #[cfV A n g c, .int .i64 x] w fun e w' => e = .returned (.int .i64 (nodeC c x)) ∧ Below w.heap.size w w' := by
  have ⟨a0, a1, b0, b1, d0, d1⟩ := hc
  have hb := (Below.refl w.heap.size w).alloc (Nat.le_refl _) (.cells #[.slice A n g, .int .i64 c.chain, .int .i64 c.standby, .int .i64 c.clients, .int .i64 c.queue, .int .i64 c.close, .int .i64 c.long, .int .i64 c.again, .int .i64 c.window, .int .u64 (c.round : Int), .int .u64 (c.seq : Int)] 25)
  have w1 : IntKind.i64.wrap (1 + c.chain) = 1 + c.chain := IntWalk.i64_in _ ⟨by omega, by omega⟩
  have w2 : IntKind.i64.wrap (1 + c.chain + c.standby) = 1 + c.chain + c.standby := IntWalk.i64_in _ ⟨by omega, by omega⟩
  have w3 : IntKind.i64.wrap (1 + c.chain + c.standby + c.clients) = 1 + c.chain + c.standby + c.clients := IntWalk.i64_in _ ⟨by omega, by omega⟩
  have w4 : IntKind.i64.wrap (c.chain + c.standby) = c.chain + c.standby := IntWalk.i64_in _ ⟨by omega, by omega⟩
  have w5 : IntKind.i64.wrap (c.chain + c.standby + c.clients) = c.chain + c.standby + c.clients := IntWalk.i64_in _ ⟨by omega, by omega⟩
  unfold nodeC
  by_cases h1 : x < 0
  · rw [if_pos (.inl h1)]
    go_enter Try.func19, Try.ntmps19
    go_wp2_with fail
    go_ret
    exact ⟨rfl, hb⟩
  by_cases h2 : x ≥ c.clients
  · rw [if_pos (.inr h2)]
    go_enter Try.func19, Try.ntmps19
    go_wp2_with fail
    go_ret
    exact ⟨rfl, hb⟩
  · rw [if_neg (by omega)]
    have w6 : IntKind.i64.wrap (1 + c.chain + c.standby + x) = 1 + c.chain + c.standby + x := IntWalk.i64_in _ ⟨by omega, by omega⟩
    go_enter Try.func19, Try.ntmps19
    go_wp2_with fail
    go_ret
    exact ⟨by simp [*], hb⟩

theorem refNode_any (w : World) (A : Option Addr) (n g : Nat) (c : CfgD) (hc : CfgSmall c) (x : Int) :
    Calls Try.prog 20 #[cfV A n g c, .int .i64 x] w fun e w' => e = .returned (.int .i64 (nodeC c x)) ∧ Below w.heap.size w w' := by
  have ⟨a0, a1, b0, b1, d0, d1⟩ := hc
  have hb := (Below.refl w.heap.size w).alloc (Nat.le_refl _) (.cells #[.slice A n g, .int .i64 c.chain, .int .i64 c.standby, .int .i64 c.clients, .int .i64 c.queue, .int .i64 c.close, .int .i64 c.long, .int .i64 c.again, .int .i64 c.window, .int .u64 (c.round : Int), .int .u64 (c.seq : Int)] 25)
  have w1 : IntKind.i64.wrap (1 + c.chain) = 1 + c.chain := IntWalk.i64_in _ ⟨by omega, by omega⟩
  have w2 : IntKind.i64.wrap (1 + c.chain + c.standby) = 1 + c.chain + c.standby := IntWalk.i64_in _ ⟨by omega, by omega⟩
  have w3 : IntKind.i64.wrap (1 + c.chain + c.standby + c.clients) = 1 + c.chain + c.standby + c.clients := IntWalk.i64_in _ ⟨by omega, by omega⟩
  have w4 : IntKind.i64.wrap (c.chain + c.standby) = c.chain + c.standby := IntWalk.i64_in _ ⟨by omega, by omega⟩
  have w5 : IntKind.i64.wrap (c.chain + c.standby + c.clients) = c.chain + c.standby + c.clients := IntWalk.i64_in _ ⟨by omega, by omega⟩
  unfold nodeC
  have W1 := Lib.hid fun w => refWithin_any w x 0 (c.clients - 1)
  have w7 : IntKind.i64.wrap (c.clients - 1) = c.clients - 1 := IntWalk.i64_in _ ⟨by omega, by omega⟩
  rcases h : inB x 0 (c.clients - 1) with _ | _
  · have h' := inB_false h
    rw [h] at W1
    rw [if_pos (by omega)]
    go_enter Try.func20, Try.ntmps20
    go_wp2_with (go_at_call 24; refine (W1.out _).mono ?_; rintro e w' ⟨rfl, rfl⟩)
    go_ret
    exact ⟨rfl, hb⟩
  · have h' := inB_true h
    rw [h] at W1
    rw [if_neg (by omega)]
    have w6 : IntKind.i64.wrap (1 + c.chain + c.standby + x) = 1 + c.chain + c.standby + x := IntWalk.i64_in _ ⟨by omega, by omega⟩
    go_enter Try.func20, Try.ntmps20
    go_wp2_with (go_at_call 24; refine (W1.out _).mono ?_; rintro e w' ⟨rfl, rfl⟩)
    go_ret
    exact ⟨by simp [*], hb⟩

theorem keyClient_any (w : World) (A : Option Addr) (n g : Nat) (c : CfgD) (hc : CfgSmall c) (x : Int) :
    Calls Try.prog 13 #[cfV A n g c, .int .i64 x] w fun e w' => e = .returned (.tuple #[.int .i64 (clientC c x).1, .bool (clientC c x).2]) ∧ Below w.heap.size w w' := by
  have ⟨a0, a1, b0, b1, d0, d1⟩ := hc
  have hb := (Below.refl w.heap.size w).alloc (Nat.le_refl _) (.cells #[.slice A n g, .int .i64 c.chain, .int .i64 c.standby, .int .i64 c.clients, .int .i64 c.queue, .int .i64 c.close, .int .i64 c.long, .int .i64 c.again, .int .i64 c.window, .int .u64 (c.round : Int), .int .u64 (c.seq : Int)] 25)
  have w1 : IntKind.i64.wrap (1 + c.chain) = 1 + c.chain := IntWalk.i64_in _ ⟨by omega, by omega⟩
  have w2 : IntKind.i64.wrap (1 + c.chain + c.standby) = 1 + c.chain + c.standby := IntWalk.i64_in _ ⟨by omega, by omega⟩
  have w3 : IntKind.i64.wrap (1 + c.chain + c.standby + c.clients) = 1 + c.chain + c.standby + c.clients := IntWalk.i64_in _ ⟨by omega, by omega⟩
  have w4 : IntKind.i64.wrap (c.chain + c.standby) = c.chain + c.standby := IntWalk.i64_in _ ⟨by omega, by omega⟩
  have w5 : IntKind.i64.wrap (c.chain + c.standby + c.clients) = c.chain + c.standby + c.clients := IntWalk.i64_in _ ⟨by omega, by omega⟩
  have R := Row.new w 25 #[.slice A n g, .int .i64 c.chain, .int .i64 c.standby, .int .i64 c.clients, .int .i64 c.queue, .int .i64 c.close, .int .i64 c.long, .int .i64 c.again, .int .i64 c.window, .int .u64 (c.round : Int), .int .u64 (c.seq : Int)]
  have ND := Lib.hid fun w => keyNodes_any w A n g c hc
  have HN : Hid (nodesC c = 1 + c.chain + c.standby + c.clients) := Lib.hid rfl
  rw [HN.out] at ND
  unfold clientC
  rw [HN.out]
  by_cases h1 : x < 1 + c.chain + c.standby
  · rw [if_pos (.inl h1)]
    go_enter Try.func13, Try.ntmps13
    go_wp2_with fail
    go_ret2
    exact ⟨rfl, hb⟩
  by_cases h2 : x ≥ 1 + c.chain + c.standby + c.clients
  · rw [if_pos (.inr h2)]
    go_enter Try.func13, Try.ntmps13
    go_wp2_with (go_at_call 15; refine (ND.out _).mono ?_; rintro e w2 ⟨rfl, hb2⟩)
    go_ret2
    exact ⟨rfl, after_next hb hb2⟩
  · rw [if_neg (by omega)]
    have w6 : IntKind.i64.wrap (x - (1 + c.chain + c.standby)) = x - (1 + c.chain + c.standby) := IntWalk.i64_in _ ⟨by omega, by omega⟩
    go_enter Try.func13, Try.ntmps13
    go_wp2_with (go_at_call 15; refine (ND.out _).mono ?_; rintro e w2 ⟨rfl, hb2⟩)
    go_ret2
    exact ⟨by simp [*], after_next hb hb2⟩

theorem refClient_any (w : World) (A : Option Addr) (n g : Nat) (c : CfgD) (hc : CfgSmall c) (x : Int) :
    Calls Try.prog 14 #[cfV A n g c, .int .i64 x] w fun e w' => e = .returned (.tuple #[.int .i64 (clientC c x).1, .bool (clientC c x).2]) ∧ Below w.heap.size w w' := by
  have ⟨a0, a1, b0, b1, d0, d1⟩ := hc
  have hb := (Below.refl w.heap.size w).alloc (Nat.le_refl _) (.cells #[.slice A n g, .int .i64 c.chain, .int .i64 c.standby, .int .i64 c.clients, .int .i64 c.queue, .int .i64 c.close, .int .i64 c.long, .int .i64 c.again, .int .i64 c.window, .int .u64 (c.round : Int), .int .u64 (c.seq : Int)] 25)
  have w1 : IntKind.i64.wrap (1 + c.chain) = 1 + c.chain := IntWalk.i64_in _ ⟨by omega, by omega⟩
  have w2 : IntKind.i64.wrap (1 + c.chain + c.standby) = 1 + c.chain + c.standby := IntWalk.i64_in _ ⟨by omega, by omega⟩
  have w3 : IntKind.i64.wrap (1 + c.chain + c.standby + c.clients) = 1 + c.chain + c.standby + c.clients := IntWalk.i64_in _ ⟨by omega, by omega⟩
  have w4 : IntKind.i64.wrap (c.chain + c.standby) = c.chain + c.standby := IntWalk.i64_in _ ⟨by omega, by omega⟩
  have w5 : IntKind.i64.wrap (c.chain + c.standby + c.clients) = c.chain + c.standby + c.clients := IntWalk.i64_in _ ⟨by omega, by omega⟩
  have W1 := Lib.hid fun w => refWithin_any w x (1 + c.chain + c.standby) (c.chain + c.standby + c.clients)
  unfold clientC nodesC
  rcases h : inB x (1 + c.chain + c.standby) (c.chain + c.standby + c.clients) with _ | _
  · have h' := inB_false h
    rw [h] at W1
    rw [if_pos (by omega)]
    go_enter Try.func14, Try.ntmps14
    go_wp2_with (go_at_call 24; refine (W1.out _).mono ?_; rintro e w' ⟨rfl, rfl⟩)
    go_ret2
    exact ⟨rfl, hb⟩
  · have h' := inB_true h
    rw [h] at W1
    rw [if_neg (by omega)]
    have w6 : IntKind.i64.wrap (x - 1) = x - 1 := IntWalk.i64_in _ ⟨by omega, by omega⟩
    have w7 : IntKind.i64.wrap (x - 1 - c.chain) = x - 1 - c.chain := IntWalk.i64_in _ ⟨by omega, by omega⟩
    have w8 : IntKind.i64.wrap (x - 1 - c.chain - c.standby) = x - 1 - c.chain - c.standby := IntWalk.i64_in _ ⟨by omega, by omega⟩
    have w9 : x - (1 + c.chain + c.standby) = x - 1 - c.chain - c.standby := by omega
    rw [w9]
    go_enter Try.func14, Try.ntmps14
    go_wp2_with (go_at_call 24; refine (W1.out _).mono ?_; rintro e w' ⟨rfl, rfl⟩)
    go_ret2
    exact ⟨by simp [*], hb⟩
end Go.Proofs.Ytcpbheenmjekdaa
