/- The contracts of package stamp: bytes. -/
import Derived.Test.YtknkdkheaamglaaStampC
import Derived.Test.YtknkdkheaamglaaConcat
import Derived.Test.YtknkdkheaamglaaWord
namespace Go.Proofs.Ytknkdkheaamglaa
set_option linter.unusedSimpArgs false
set_option linter.unusedVariables false
open Go.RowKit

theorem number_any (w : World) (n : Nat) (hn : n < 18446744073709551616) :
    Calls Try.prog 23 #[.int .u64 (n : Int)] w fun e w' => ∃ A c, e = .returned (.slice A 8 c) ∧ OwnB w' w.heap.size A 8 c (beB 8 n) ∧ Below w.heap.size w w' := by
  have HP := Lib.hid (wordPut_any w n 8 hn)
  have HS : Hid (putS n 8 = (beB 8 n, 0)) := Lib.hid (putS_ok n 8 (by decide) (by decide) (Nat.div_eq_of_lt hn))
  have HL := Lib.hid (beB_len 8 n)
  clear hn
  go_enter Try.func23, Try.ntmps23
  go_wp2_with fail
  refine HP.out.mono ?_
  rw [HS.out]
  intro e w1 ht
  obtain ⟨A, c, rfl, ho, hb⟩ := ht.pair
  clear ht
  rw [HL.out] at ho
  go_wp2_with fail
  go_ret
  rw [HL.out]
  exact ⟨A, c, rfl, ho, hb⟩

/-- P4.2: a stamp's bytes. -/
def putSt (e r : Nat) (l : List Int) : List UInt8 := beB 8 e ++ (beB 8 r ++ (UInt8.ofNat l.length :: l.map fun z => UInt8.ofNat z.toNat))

set_option maxHeartbeats 3200000 in
set_option maxRecDepth 100000 in
theorem stampPut_ok (w : World) (B : Nat) (e r n c : Nat) (A : Option Addr) (l : List Int) (h : SlI w B A n c l) (hB : B ≤ w.heap.size) (hok : okChain l = true) (he : e < 18446744073709551616) (hr : r < 18446744073709551616) :
    Calls Try.prog 11 #[stV e r A n c] w (TellsB w (putSt e r l, 0)) := by
  have hlen := Lib.hid h.len
  have hfacts : n ≤ 8 ∧ Hid (∀ z ∈ l, 1 ≤ z ∧ z ≤ 16) := by
    unfold okChain at hok
    have := of_decide_eq_true hok
    rw [h.len] at this
    exact ⟨this.2.1, this.2.2.1⟩
  obtain ⟨hn8, HR⟩ := hfacts
  have HC : Hid (chkS l = 0) := Lib.hid (by unfold chkS; rw [hok]; rfl)
  clear hok
  have HNE := Lib.hid (fun w => number_any w e he)
  have HNR := Lib.hid (fun w => number_any w r hr)
  clear he hr
  go_enter Try.func11, Try.ntmps11
  go_wp2_with fail
  refine (stampCheck_any _ _ _ _ _ _ _ _ (h.alloc hB _) (by simp; omega) (by omega)).mono ?_
  rw [HC.out]
  rintro x w1 ⟨rfl, hb1⟩
  simp only [World.size_alloc] at hb1
  have hcs := below_cells hb1
  have hlt : w.heap.size < w1.heap.size := by have := hb1.size; simp at this; omega
  have hba : Below w.heap.size w w1 := ((Below.refl _ _).alloc (Nat.le_refl _) _).trans (hb1.mono (by omega))
  have k0 : w1.cell? ⟨w.heap.size, 0, none⟩ = some (.int .u64 (e : Int)) := by rw [hcs _ _ (by omega), (Row.new w 25 _).cell 0]; rfl
  have k1 : w1.cell? ⟨w.heap.size, 1, none⟩ = some (.int .u64 (r : Int)) := by rw [hcs _ _ (by omega), (Row.new w 25 _).cell 1]; rfl
  have k2 : w1.cell? ⟨w.heap.size, 2, none⟩ = some (.slice A n c) := by rw [hcs _ _ (by omega), (Row.new w 25 _).cell 2]; rfl
  clear hcs hb1
  go_wp2_with fail
  have hwr : IntKind.u8.wrap (n : Int) = n := by rw [IntKind.wrap_u8]; omega
  go_region_held3 (fun w' => w'.cell? ⟨w.heap.size, 0, none⟩ = some (.int .u64 (e : Int)) ∧ w'.cell? ⟨w.heap.size, 1, none⟩ = some (.int .u64 (r : Int)) ∧ w'.cell? ⟨w.heap.size, 2, none⟩ = some (.slice A n c) ∧ w.heap.size < w'.heap.size) (((repeat' apply And.intro) <;> first | (go_keep; done) | omega | (simp; omega) | (refine cell_next (by assumption) ?_; go_keep; done) | (refine Nat.lt_of_lt_of_le ?_ (Below.size (by assumption)); first | omega | (simp; omega))))
    (first | (go_at_call_of 23 (Value.int .u64 (e : Int)); refine (HNE.out _).mono ?_; rintro x w2 ⟨A2, c2, rfl, ho2, hb2⟩; have q2 : w.heap.size < w2.heap.size := (by have := hb2.size; first | omega | (simp at this ⊢; omega))) | (go_at_call_of 23 (Value.int .u64 (r : Int)); refine (HNR.out _).mono ?_; rintro x w3 ⟨A3, c3, rfl, ho3, hb3⟩; have q3 : w.heap.size < w3.heap.size := (by have := hb3.size; first | omega | (simp at this ⊢; omega))) | (go_at_call 22; refine (Concat_len _ _ _ _ _ [beB 8 e, beB 8 r, [UInt8.ofNat n]] 17 ?_ (Nat.le_refl _) (by omega) (by simp [beB_len]) (by omega)).mono ?_; (refine SlP.lit3 (by simp) ?_ ?_ ?_ <;> (repeat' (first | exact ho2.sl | exact ho3.sl | exact SlB.laidN (by simp) (by simp [bv_small (show n < 256 by omega)]) rfl | apply SlB.draw1 | apply SlB.lay | refine SlB.next ?_ (by assumption)))); rintro x w4 ⟨A4, c4, rfl, ho4, hb4⟩; have q4 : w.heap.size < w4.heap.size := (by have := hb4.size; first | omega | (simp at this ⊢; omega))))
  all_goals
    have d2 : w4.cell? ⟨w.heap.size, 2, none⟩ = some (.slice A n c) := by repeat' (first | exact k2 | (rw [World.cell?_drew]) | (refine cell_next (by assumption) ?_) | (refine cell_lay ?_))
    have hbw : Below w.heap.size w w4 := by repeat' (first | exact hba | apply after_lay | apply after_draw | refine after_next ?_ (by assumption))
    have hs := h.below (hbw.mono hB)
    have ho := ho4.down (base' := w.heap.size) (by have := hb4.size; have := hb3.size; have := hb2.size; simp at *; omega)
    have e4 : [beB 8 e, beB 8 r, [UInt8.ofNat n]].flatten = beB 8 e ++ (beB 8 r ++ [UInt8.ofNat n]) := by simp
    rw [e4] at ho
    clear ho4 ho2 ho3 e4 hwr
    clear hb4 hb3 hb2
    go_wp2_with fail
    go_loopw [5, 29] (fun o i wr => ∃ (k c5 : Nat) (A5 : Option Addr), k ≤ n ∧ i = .int .i64 k ∧ o = .slice A5 (17 + k) c5 ∧ OwnB wr w.heap.size A5 (17 + k) c5 (beB 8 e ++ (beB 8 r ++ (UInt8.ofNat n :: (l.take k).map fun z => UInt8.ofNat z.toNat))) ∧ Below w.heap.size w wr) (fun _ i _ => n - (intOf i).toNat)
    case atStart => exact ⟨0, c4, A4, Nat.zero_le _, rfl, rfl, ho.cast (by simp), hbw⟩
    case round =>
      obtain ⟨k, c5, A5, hk, rfl, rfl, hown, hb⟩ := hrel
      have hz := hb.size
      by_cases hlt : k < n
      · obtain ⟨p, z, rfl, _, hcell, hz⟩ := (h.below (hb.mono hB)).at_ hlt
        have HZ := Lib.hid hz
        have hzr := HR.out z (List.mem_of_getElem? hz)
        clear hz
        obtain ⟨m, rfl⟩ := Int.eq_ofNat_of_zero_le (show 0 ≤ z by omega)
        go_wp2_with (at_builtin; go_loud (refine wpList_append_b rfl (.tmp 33) (.tmp 36) rfl w.heap.size A5 _ c5 _ rfl (hown.alloc (.cells #[.int .u8 (m : Int)] 5)) _ (some ⟨wr.heap.size, 0, none⟩) 1 1 [UInt8.ofNat m] rfl (SlB.laid wr #[.int .u8 (m : Int)] 5 (0, 0) [UInt8.ofNat m] 1 (by simp [bv_small (show m < 256 by omega)]) rfl) (by omega) (by simp; omega) ?_); intro A6 c6 w6 hown6 hg6 hb6)
        go_roundw
        case rel =>
          refine ⟨k + 1, c6, A6, by omega, by simp, by rw [Nat.add_assoc], ?_, (hb.alloc (by omega) _).trans hb6⟩
          rw [← Nat.add_assoc]
          exact hown6.cast (by rw [take_nextI HZ.out, List.map_append]; simp)
        case measure => simp [intOf]; omega
      · obtain rfl : k = n := by omega
        go_wp2_with fail
        go_ret2
        rw [List.take_of_length_le (by rw [hlen.out]; exact Nat.le_refl _)] at hown
        unfold putSt
        rw [hlen.out]
        exact TellsB.ok hown hb

theorem stampPut_bad (w : World) (B : Nat) (e r n c : Nat) (A : Option Addr) (l : List Int) (h : SlI w B A n c l) (hB : B ≤ w.heap.size) (hn : n ≤ 140737488355328) (hc : chkS l = 1) :
    Calls Try.prog 11 #[stV e r A n c] w (TellsB w ([], 1)) := by
  have HC := Lib.hid hc
  clear hc
  go_enter Try.func11, Try.ntmps11
  go_wp2_with fail
  refine (stampCheck_any _ _ _ _ _ _ _ _ (h.alloc hB _) (by simp; omega) hn).mono ?_
  rw [HC.out]
  rintro x w1 ⟨rfl, hb1⟩
  simp only [World.size_alloc] at hb1
  have hba : Below w.heap.size w w1 := ((Below.refl _ _).alloc (Nat.le_refl _) _).trans (hb1.mono (by omega))
  go_wp2_with fail
  go_ret2
  exact TellsB.none_ hba
end Go.Proofs.Ytknkdkheaamglaa
