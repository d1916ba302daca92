/- The walk of the law KeyChecks. -/
import Derived.Test.YtcpbheenmjekdaaLive07
import Derived.Test.YtcpbheenmjekdaaKeyF
import Derived.Test.YtcpbheenmjekdaaStampK
import Derived.Test.YtcpbheenmjekdaaStampS
import Derived.Test.YtcpbheenmjekdaaCfg
namespace Go.Proofs.Ytcpbheenmjekdaa
set_option linter.unusedSimpArgs false
set_option linter.unusedVariables false
open Go.RowKit

theorem SlI.draw1 {w : World} {A : Option Addr} {n c : Nat} {zs : List Int} (h : SlI w w.heap.size A n c zs) : SlI w.drew w.drew.heap.size A n c zs := ⟨h.len, h.cap, h.rd⟩
theorem firstC_len (n : Nat) (c : CfgD) : (firstC n c).2.2.length ≤ 8 := by
  unfold firstC
  split
  · rename_i h
    have := (okCfg_small h).a1
    have := (okCfg_small h).a0
    simp only [chainL_len]; omega
  · simp

set_option maxHeartbeats 3200000 in
set_option maxRecDepth 100000 in
theorem walk_KeyChecks (W : World) (v0 : Value) (o0 : Opn W 25 v0) :
    Calls Try.prog 3 #[v0] W fun e w' => e = .returned (.bool true) ∧ Below W.heap.size W w' := by
  obtain ⟨A, n, g, s, c, rfl, hs, hm, hfit⟩ := o0.cfg
  clear o0 hs hm hfit
  have K1 := Lib.hid fun w => keyCheck_any w A n g c
  have K2 := Lib.hid fun w => refCfgCheck_any w A n g c
  have F1 := Lib.hid fun w => keyFirst_any w A n g c
  have F2 := Lib.hid fun w => refFirst_any w A n g c
  have hlen := firstC_len n c
  generalize firstC n c = r at *
  obtain ⟨ep, ro, l⟩ := r
  generalize chkC n c = ch at *
  replace hlen : l.length ≤ 8 := hlen
  have SELF : Hid (sameS ep ro l ep ro l = true) := Lib.hid (by unfold sameS; exact decide_eq_true ⟨rfl, rfl, rfl⟩)
  go_enter Try.func3, Try.ntmps3
  go_wp2_with (go_at_call 7; refine (live07_any _).mono ?_; rintro e w1 ⟨rfl, hb1⟩; simp only [World.size_alloc] at hb1; obtain ⟨R0, hbw⟩ := box1 hb1; have k00 := R0.cell 0; have k01 := R0.cell 1; have k02 := R0.cell 2; have k03 := R0.cell 3; have k04 := R0.cell 4; have k05 := R0.cell 5; have k06 := R0.cell 6; have k07 := R0.cell 7; have k08 := R0.cell 8; have k09 := R0.cell 9; have k10 := R0.cell 10; simp at k00 k01 k02 k03 k04 k05 k06 k07 k08 k09 k10)
  clear R0 hb1
  go_region_held3 (fun w' => w'.cell? ⟨W.heap.size, 0, none⟩ = some (.slice A n g) ∧ w'.cell? ⟨W.heap.size, 1, none⟩ = some (.int .i64 c.chain) ∧ w'.cell? ⟨W.heap.size, 2, none⟩ = some (.int .i64 c.standby) ∧ w'.cell? ⟨W.heap.size, 3, none⟩ = some (.int .i64 c.clients) ∧ w'.cell? ⟨W.heap.size, 4, none⟩ = some (.int .i64 c.queue) ∧ w'.cell? ⟨W.heap.size, 5, none⟩ = some (.int .i64 c.close) ∧ w'.cell? ⟨W.heap.size, 6, none⟩ = some (.int .i64 c.long) ∧ w'.cell? ⟨W.heap.size, 7, none⟩ = some (.int .i64 c.again) ∧ w'.cell? ⟨W.heap.size, 8, none⟩ = some (.int .i64 c.window) ∧ w'.cell? ⟨W.heap.size, 9, none⟩ = some (.int .u64 (c.round : Int)) ∧ w'.cell? ⟨W.heap.size, 10, none⟩ = some (.int .u64 (c.seq : Int))) (((repeat' apply And.intro) <;> first | (go_keep; done) | (refine cell_next (by assumption) ?_; go_keep; done))) (first | (go_at_call 8; refine (K1.out _).mono ?_; rintro e w2 ⟨rfl, hb2⟩) | (go_at_call 9; refine (K2.out _).mono ?_; rintro e w3 ⟨rfl, hb3⟩) | (go_at_call 11; refine (F1.out _).mono ?_; rintro e w4 ⟨A4, g4, rfl, s4, hb4⟩) | (go_at_call 12; refine (F2.out _).mono ?_; rintro e w5 ⟨A5, g5, rfl, s5, hb5⟩) | (go_at_call 10; refine (refStampSame_any _ _ _ ep ro ep ro l.length _ l.length _ A4 A5 l l ?_ ?_ (Nat.le_refl _) (Nat.le_refl _) (by omega)).mono ?_ <;> (first | (intro x w6 hh; rw [SELF.out] at hh; obtain ⟨rfl, hb6⟩ := hh) | (repeat' (first | exact s4 | exact s5 | apply SlI.draw1 | refine SlI.next ?_ (by assumption))))))
  all_goals
    have hbx : Below W.heap.size W w6 := by repeat' (first | exact hbw | apply after_lay | apply after_draw | refine after_next ?_ (by assumption))
    go_wp2_with fail
    go_ret
    exact ⟨by simp, hbx⟩
end Go.Proofs.Ytcpbheenmjekdaa
