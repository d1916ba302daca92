/- The first stamp, by the program and by the document. -/
import Derived.Test.YtcpbheenmjekdaaKeyC
import Derived.Test.YtcpbheenmjekdaaKeyN
import Derived.Test.YtcpbheenmjekdaaStampS
import Derived.Test.YtcpbheenmjekdaaReg
import Derived.Test.YtcpbheenmjekdaaInts
namespace Go.Proofs.Ytcpbheenmjekdaa
set_option linter.unusedSimpArgs false
set_option linter.unusedVariables false
open Go.RowKit

/-- The first servers' numbers. -/
def chainL (k : Nat) : List Int := (List.range k).map fun i : Nat => ((i + 1 : Nat) : Int)
theorem chainL_len (k : Nat) : (chainL k).length = k := by simp [chainL]
theorem chainL_next (k : Nat) : chainL (k + 1) = chainL k ++ [((k + 1 : Nat) : Int)] := by
  unfold chainL; rw [List.range_succ, List.map_append]; rfl
/-- P7.1: the first stamp. -/
def firstC (n : Nat) (c : CfgD) : Nat × Nat × List Int := if okCfg n c then (1, c.round, chainL c.chain.toNat) else (0, 0, [])

def TellsF (w : World) (r : Nat × Nat × List Int) (e : Ending) (w' : World) : Prop :=
  ∃ A c, e = .returned (stV r.1 r.2.1 A r.2.2.length c) ∧ SlI w' w'.heap.size A r.2.2.length c r.2.2 ∧ Below w.heap.size w w'

theorem box_cell {W w1 : World} {t0 t1 : TypeId} {cs0 cs1 : Array Value} (hb : Below ((W.alloc (.cells cs0 t0)).alloc (.cells cs1 t1)).heap.size ((W.alloc (.cells cs0 t0)).alloc (.cells cs1 t1)) w1) :
    Row w1 W.heap.size t0 cs0 ∧ Row w1 (W.heap.size + 1) t1 cs1 ∧ Below W.heap.size W w1 := by
  simp only [World.size_alloc] at hb
  exact box2 hb

set_option maxHeartbeats 400000 in
theorem keyFirst_any (w : World) (A : Option Addr) (n g : Nat) (c : CfgD) :
    Calls Try.prog 11 #[cfV A n g c] w (TellsF w (firstC n c)) := by
  have K := Lib.hid fun w => keyCheck_any w A n g c
  rcases hok : okCfg n c with _ | _
  · have HF : Hid (firstC n c = (0, 0, [])) := Lib.hid (by unfold firstC; rw [hok]; rfl)
    have HC : Hid (chkC n c = 1) := Lib.hid (by unfold chkC; rw [hok]; rfl)
    rw [HC.out] at K
    rw [HF.out]
    clear hok
    go_enter Try.func11, Try.ntmps11
    go_wp2_with fail
    with_reducible refine (K.out _).mono ?_
    rintro e w1 ⟨rfl, hb1⟩
    obtain ⟨R0, R1, hbw⟩ := box_cell hb1
    have c0 := R1.cell 0
    have c1 := R1.cell 1
    have c2 := R1.cell 2
    have f0 := R1.free 0
    have f1 := R1.free 1
    have f2 := R1.free 2
    simp at c0 c1 c2
    go_wp2_with fail
    refine bodyPost_ret (v := .agg #[.int .u64 0, .int .u64 0, .slice none 0 0]) (by simp [results, Try.results11, go_sem, c0, c1, c2, f0, f1, f2]) rfl ?_
    exact ⟨none, 0, rfl, SlI.none_ _ _ _ _, ((hbw.setCell (by simp) _).setCell (by simp) _).setCell (by simp) _⟩
  · have hsm := okCfg_small hok
    have ⟨a0, a1, _, _, _, _⟩ := hsm
    have HF : Hid (firstC n c = (1, c.round, chainL c.chain.toNat)) := Lib.hid (by unfold firstC; rw [hok]; rfl)
    have HC : Hid (chkC n c = 0) := Lib.hid (by unfold chkC; rw [hok]; rfl)
    rw [HC.out] at K
    clear hok hsm
    obtain ⟨m, hm⟩ := Int.eq_ofNat_of_zero_le (show 0 ≤ c.chain by omega)
    rw [hm, Int.toNat_natCast] at HF
    have hm8 : m ≤ 8 := by omega
    have HM := Lib.hid hm
    clear hm
    go_enter Try.func11, Try.ntmps11
    go_wp2_with fail
    with_reducible refine (K.out _).mono ?_
    rintro e w1 ⟨rfl, hb1⟩
    obtain ⟨R0, R1, hbw⟩ := box_cell hb1
    have hz1 := R1.lt
    have k1 := R0.cell 1
    have k9 := R0.cell 9
    simp at k1 k9
    rw [HM.out] at k1
    have S1 := Row.new w1 32 #[.int .u64 1, .int .u64 (c.round : Int), .slice none 0 0]
    replace R1 := R1.alloc (.cells #[.int .u64 1, .int .u64 (c.round : Int), .slice none 0 0] 32)
    replace hbw := after_lay hbw (.cells #[.int .u64 1, .int .u64 (c.round : Int), .slice none 0 0] 32)
    replace k1 := cell_lay (o := .cells #[.int .u64 1, .int .u64 (c.round : Int), .slice none 0 0] 32) k1
    have hzz : w1.heap.size + 1 ≤ (w1.alloc (.cells #[.int .u64 1, .int .u64 (c.round : Int), .slice none 0 0] 32)).heap.size := by simp
    go_wp2_with fail
    generalize (w1.alloc (.cells #[.int .u64 1, .int .u64 (c.round : Int), .slice none 0 0] 32)) = w2 at *
    generalize w1.heap.size = gs at *
    clear R0 K hb1 k9
    go_loopw [14] (fun i wr => ∃ (k c5 : Nat) (A5 : Option Addr), k ≤ m ∧ i = .int .i64 k ∧ Row wr (w.heap.size + 1) 32 #[.int .u64 0, .int .u64 0, .slice none 0 0] ∧ Row wr gs 32 #[.int .u64 1, .int .u64 (c.round : Int), .slice A5 k c5] ∧ OwnI wr (gs + 1) A5 k c5 (chainL k) ∧ Below w.heap.size w wr ∧ gs + 1 ≤ wr.heap.size) (fun i _ => m - (intOf i).toNat)
    case atStart => exact ⟨0, 0, none, Nat.zero_le _, rfl, R1, S1, OwnI.nil _ _, hbw, hzz⟩
    case round =>
      obtain ⟨k, c5, A5, hk, rfl, Q0, Q1, hown, hb, hz⟩ := hrel
      by_cases hlt : k < m
      · have hwk : IntKind.i64.wrap (1 + (k : Int)) = ((k + 1 : Nat) : Int) := by rw [IntWalk.i64_in _ ⟨by omega, by omega⟩]; omega
        have e0 := Q1.cell 0
        have e1 := Q1.cell 1
        have e2 := Q1.cell 2
        have e3 := Q1.free 2
        simp at e0 e1 e2
        go_wp2_with (at_builtin; go_loud (refine wpList_append_i rfl (.tmp 18) (.tmp 21) rfl (gs + 1) A5 _ c5 _ rfl (hown.alloc (.cells #[.int .i64 ((k : Int) + 1)] 3)) _ (some ⟨wr.heap.size, 0, none⟩) 1 1 [((k + 1 : Nat) : Int)] rfl (SlI.laid wr #[.int .i64 ((k : Int) + 1)] 3 (0, 0) _ 1 (by simp [iv]; try omega) rfl) (by omega) (by simp; omega) ?_); intro A6 c6 w6 hown6 hg6 hb6; replace Q0 := (Q0.alloc (.cells #[.int .i64 ((k : Int) + 1)] 3)).below hb6 (by omega); replace Q1 := (Q1.alloc (.cells #[.int .i64 ((k : Int) + 1)] 3)).below hb6 (by omega); replace hb := (hb.alloc hb.size (.cells #[.int .i64 ((k : Int) + 1)] 3)).trans (hb6.mono (by omega)); have hz6 := hb6.size; simp only [World.size_alloc] at hz6; clear e0 e1 e2 e3; have e0 := Q1.cell 0; have e1 := Q1.cell 1; have e2 := Q1.cell 2; have e3 := Q1.free 2; simp at e0 e1 e2)
        go_roundw
        case rel =>
          refine ⟨k + 1, c6, A6, by omega, by simp, Q0.far (by simp; omega) _, Q1.set_ 2 _, ?_, hb.setCell (by simp; omega) _, by simp only [World.size_setCell]; omega⟩
          exact ownsRow_setCell_below (OwnI.cast hown6 (chainL_next k).symm) (by simp) _
        case measure => simp [intOf]; omega
      · obtain rfl : k = m := by omega
        have e0 := Q1.cell 0
        have e1 := Q1.cell 1
        have e2 := Q1.cell 2
        have c0 := Q0.cell 0
        have c1 := Q0.cell 1
        have c2 := Q0.cell 2
        have f0 := Q0.free 0
        have f1 := Q0.free 1
        have f2 := Q0.free 2
        simp at e0 e1 e2 c0 c1 c2
        go_wp2_with fail
        refine bodyPost_ret (v := stV 1 c.round A5 k c5) (by simp [results, Try.results11, go_sem, c0, c1, c2, f0, f1, f2]) rfl ?_
        have hne : ∀ p', A5 = some p' → w.heap.size + 1 ≠ p'.block := by
          intro p' hp'
          rcases Own.block hown with ⟨h, _⟩ | ⟨g, h, hg, _⟩
          · rw [h] at hp'; cases hp'
          · rw [h] at hp'; cases hp'; simp at hg ⊢; omega
        rw [HF.out]
        refine ⟨A5, c5, ?_, ?_, ((hb.setCell (by simp) _).setCell (by simp) _).setCell (by simp) _⟩
        · simp [chainL_len]
        · simp only [World.size_setCell, chainL_len]
          exact ((hown.sl.store_ne hne _).store_ne hne _).store_ne hne _

set_option maxHeartbeats 400000 in
theorem refFirst_any (w : World) (A : Option Addr) (n g : Nat) (c : CfgD) :
    Calls Try.prog 12 #[cfV A n g c] w (TellsF w (firstC n c)) := by
  have K := Lib.hid fun w => refCfgCheck_any w A n g c
  rcases hok : okCfg n c with _ | _
  · have HF : Hid (firstC n c = (0, 0, [])) := Lib.hid (by unfold firstC; rw [hok]; rfl)
    have HC : Hid (chkC n c = 1) := Lib.hid (by unfold chkC; rw [hok]; rfl)
    rw [HC.out] at K
    rw [HF.out]
    clear hok
    go_enter Try.func12, Try.ntmps12
    go_wp2_with fail
    with_reducible refine (K.out _).mono ?_
    rintro e w1 ⟨rfl, hb1⟩
    obtain ⟨R0, R1, hbw⟩ := box_cell hb1
    have c0 := R1.cell 0
    have c1 := R1.cell 1
    have c2 := R1.cell 2
    have f0 := R1.free 0
    have f1 := R1.free 1
    have f2 := R1.free 2
    simp at c0 c1 c2
    go_wp2_with fail
    refine bodyPost_ret (v := .agg #[.int .u64 0, .int .u64 0, .slice none 0 0]) (by simp [results, Try.results12, go_sem, c0, c1, c2, f0, f1, f2]) rfl ?_
    exact ⟨none, 0, rfl, SlI.none_ _ _ _ _, ((hbw.setCell (by simp) _).setCell (by simp) _).setCell (by simp) _⟩
  · have hsm := okCfg_small hok
    have ⟨a0, a1, _, _, _, _⟩ := hsm
    have HF : Hid (firstC n c = (1, c.round, chainL c.chain.toNat)) := Lib.hid (by unfold firstC; rw [hok]; rfl)
    have HC : Hid (chkC n c = 0) := Lib.hid (by unfold chkC; rw [hok]; rfl)
    rw [HC.out] at K
    clear hok hsm
    obtain ⟨m, hm⟩ := Int.eq_ofNat_of_zero_le (show 0 ≤ c.chain by omega)
    rw [hm, Int.toNat_natCast] at HF
    have hm8 : m ≤ 8 := by omega
    have HM := Lib.hid hm
    clear hm
    go_enter Try.func12, Try.ntmps12
    go_wp2_with fail
    with_reducible refine (K.out _).mono ?_
    rintro e w1 ⟨rfl, hb1⟩
    obtain ⟨R0, R1, hbw⟩ := box_cell hb1
    have hz1 := R1.lt
    have k1 := R0.cell 1
    have k9 := R0.cell 9
    simp at k1 k9
    rw [HM.out] at k1
    have S1 := Row.new w1 32 #[.int .u64 1, .int .u64 (c.round : Int), .slice none 0 0]
    replace R1 := R1.alloc (.cells #[.int .u64 1, .int .u64 (c.round : Int), .slice none 0 0] 32)
    replace hbw := after_lay hbw (.cells #[.int .u64 1, .int .u64 (c.round : Int), .slice none 0 0] 32)
    replace k1 := cell_lay (o := .cells #[.int .u64 1, .int .u64 (c.round : Int), .slice none 0 0] 32) k1
    have hzz : w1.heap.size + 1 ≤ (w1.alloc (.cells #[.int .u64 1, .int .u64 (c.round : Int), .slice none 0 0] 32)).heap.size := by simp
    go_wp2_with fail
    generalize (w1.alloc (.cells #[.int .u64 1, .int .u64 (c.round : Int), .slice none 0 0] 32)) = w2 at *
    generalize w1.heap.size = gs at *
    clear R0 K hb1 k9
    go_loopw [14] (fun i wr => ∃ (k c5 : Nat) (A5 : Option Addr), k ≤ m ∧ i = .int .i64 k ∧ Row wr (w.heap.size + 1) 32 #[.int .u64 0, .int .u64 0, .slice none 0 0] ∧ Row wr gs 32 #[.int .u64 1, .int .u64 (c.round : Int), .slice A5 k c5] ∧ OwnI wr (gs + 1) A5 k c5 (chainL k) ∧ Below w.heap.size w wr ∧ gs + 1 ≤ wr.heap.size) (fun i _ => m - (intOf i).toNat)
    case atStart => exact ⟨0, 0, none, Nat.zero_le _, rfl, R1, S1, OwnI.nil _ _, hbw, hzz⟩
    case round =>
      obtain ⟨k, c5, A5, hk, rfl, Q0, Q1, hown, hb, hz⟩ := hrel
      by_cases hlt : k < m
      · have hwk : IntKind.i64.wrap ((k : Int) + 1) = ((k + 1 : Nat) : Int) := by rw [IntWalk.i64_in _ ⟨by omega, by omega⟩]; omega
        have e0 := Q1.cell 0
        have e1 := Q1.cell 1
        have e2 := Q1.cell 2
        have e3 := Q1.free 2
        simp at e0 e1 e2
        go_wp2_with (at_builtin; go_loud (refine wpList_append_i rfl (.tmp 18) (.tmp 21) rfl (gs + 1) A5 _ c5 _ rfl (hown.alloc (.cells #[.int .i64 ((k : Int) + 1)] 3)) _ (some ⟨wr.heap.size, 0, none⟩) 1 1 [((k + 1 : Nat) : Int)] rfl (SlI.laid wr #[.int .i64 ((k : Int) + 1)] 3 (0, 0) _ 1 (by simp [iv]; try omega) rfl) (by omega) (by simp; omega) ?_); intro A6 c6 w6 hown6 hg6 hb6; replace Q0 := (Q0.alloc (.cells #[.int .i64 ((k : Int) + 1)] 3)).below hb6 (by omega); replace Q1 := (Q1.alloc (.cells #[.int .i64 ((k : Int) + 1)] 3)).below hb6 (by omega); replace hb := (hb.alloc hb.size (.cells #[.int .i64 ((k : Int) + 1)] 3)).trans (hb6.mono (by omega)); have hz6 := hb6.size; simp only [World.size_alloc] at hz6; clear e0 e1 e2 e3; have e0 := Q1.cell 0; have e1 := Q1.cell 1; have e2 := Q1.cell 2; have e3 := Q1.free 2; simp at e0 e1 e2)
        go_roundw
        case rel =>
          refine ⟨k + 1, c6, A6, by omega, by simp, Q0.far (by simp; omega) _, Q1.set_ 2 _, ?_, hb.setCell (by simp; omega) _, by simp only [World.size_setCell]; omega⟩
          exact ownsRow_setCell_below (OwnI.cast hown6 (chainL_next k).symm) (by simp) _
        case measure => simp [intOf]; omega
      · obtain rfl : k = m := by omega
        have e0 := Q1.cell 0
        have e1 := Q1.cell 1
        have e2 := Q1.cell 2
        have c0 := Q0.cell 0
        have c1 := Q0.cell 1
        have c2 := Q0.cell 2
        have f0 := Q0.free 0
        have f1 := Q0.free 1
        have f2 := Q0.free 2
        simp at e0 e1 e2 c0 c1 c2
        go_wp2_with fail
        refine bodyPost_ret (v := stV 1 c.round A5 k c5) (by simp [results, Try.results12, go_sem, c0, c1, c2, f0, f1, f2]) rfl ?_
        have hne : ∀ p', A5 = some p' → w.heap.size + 1 ≠ p'.block := by
          intro p' hp'
          rcases Own.block hown with ⟨h, _⟩ | ⟨g, h, hg, _⟩
          · rw [h] at hp'; cases hp'
          · rw [h] at hp'; cases hp'; simp at hg ⊢; omega
        rw [HF.out]
        refine ⟨A5, c5, ?_, ?_, ((hb.setCell (by simp) _).setCell (by simp) _).setCell (by simp) _⟩
        · simp [chainL_len]
        · simp only [World.size_setCell, chainL_len]
          exact ((hown.sl.store_ne hne _).store_ne hne _).store_ne hne _
end Go.Proofs.Ytcpbheenmjekdaa
