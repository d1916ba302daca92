/- The contracts of the document's answers for stamps: written and taken. -/
import Derived.Test.YtknkdkheaamglaaStampT
import Derived.Test.YtknkdkheaamglaaReg
namespace Go.Proofs.Ytknkdkheaamglaa
set_option linter.unusedSimpArgs false
set_option linter.unusedVariables false
open Go.RowKit

set_option maxHeartbeats 3200000 in
theorem refStampTake_any (w : World) (B : Nat) (A : Option Addr) (n c : Nat) (bs : List UInt8) (h : SlB w B A n c bs) (hB : B ≤ w.heap.size) (hn : n ≤ 140737488355328) :
    Calls Try.prog 21 #[.slice A n c] w (TellsSt w (takeSt bs)) := by
  have hlen := Lib.hid h.len
  have hcap := h.cap
  by_cases h17 : n < 17
  · rw [takeSt_short bs (by rw [hlen.out]; exact h17)]
    go_enter Try.func21, Try.ntmps21
    go_wp2_with fail
    refine bodyPost_ret (v := .tuple #[.agg #[.int .u64 0, .int .u64 0, .slice none 0 0], .int .i64 0, .int .i64 3]) (by simp [results, Try.results21, go_sem]) rfl ?_
    exact TellsSt.bad ((Below.refl _ _).alloc (Nat.le_refl _) _)
  have G1 : Hid (getS (bs.take 8) = (getN (bs.take 8), 0)) := Lib.hid (by unfold getS; rw [List.length_take, hlen.out, if_neg (by omega)])
  have G2 : Hid (getS ((bs.drop 8).take 8) = (getN ((bs.drop 8).take 8), 0)) := Lib.hid (by unfold getS; rw [List.length_take, List.length_drop, hlen.out, if_neg (by omega)])
  obtain ⟨p, x, rfl, hpB, hcell, hx, hx256⟩ := h.at_ (k := 16) (by omega)
  have HX : Hid (bs.getD 16 0 = x) := Lib.hid (by simp [List.getD, hx])
  clear hx
  have q1 := h.take (k := 8) (m := c) (by omega) (by omega)
  have q2 := (h.cut (l := 8) (by omega)).take (k := 8) (m := c - 8) (by omega) (by omega)
  have q3 := h.cut (l := 17) (by omega)
  have P1 := Lib.hid fun o1 o2 => refGet_any ((w.alloc o1).alloc o2) _ _ _ _ _ ((q1.alloc hB o1).alloc (by simp; omega) o2) (by omega)
  have P2 := Lib.hid fun o1 o2 => refGet_any ((w.alloc o1).alloc o2) _ _ _ _ _ ((q2.alloc hB o1).alloc (by simp; omega) o2) (by omega)
  rw [G1.out] at P1
  rw [G2.out] at P2
  clear q1 q2 G1 G2
  replace hcell : w.cell? ⟨p.block, p.off + 16, none⟩ = some (.int .u8 (x.toNat : Int)) := hcell
  have kx := cell_lay (o := .cells #[.int .u64 0, .int .u64 0, .slice none 0 0] 25) hcell
  have hi16 : (16 : Int) < n := by omega
  have hi17 : (17 : Int) ≤ n := by omega
  have hwx : IntKind.i64.wrap (x.toNat : Int) = x.toNat := IntWalk.i64_in _ ⟨by omega, by omega⟩
  have hwy : IntKind.i64.wrap (17 + (x.toNat : Int)) = 17 + x.toNat := IntWalk.i64_in _ ⟨by omega, by omega⟩
  by_cases hm : n - 17 < x.toNat
  · rw [takeSt_many bs (by rw [hlen.out]; omega) (by rw [hlen.out, HX.out]; omega)]
    have hm' : (n : Int) < 17 + x.toNat := by omega
    go_enter Try.func21, Try.ntmps21
    go_wp2_with fail
    refine bodyPost_ret (v := .tuple #[.agg #[.int .u64 0, .int .u64 0, .slice none 0 0], .int .i64 0, .int .i64 3]) (by simp [results, Try.results21, go_sem]) rfl ?_
    exact TellsSt.bad ((Below.refl _ _).alloc (Nat.le_refl _) _)
  have hm1 : x.toNat ≤ n - 17 := by omega
  have hm2 : 17 + (x.toNat : Int) ≤ n := by omega
  have hq := q3.take (k := x.toNat) (m := c - 17) hm1 (by omega)
  have hb0 := ((Below.refl w.heap.size w).alloc (Nat.le_refl _) (.cells #[.int .u64 0, .int .u64 0, .slice none 0 0] 25)).alloc (by simp) (.cells #[.int .u64 ((getN (bs.take 8) : Nat) : Int), .int .u64 ((getN ((bs.drop 8).take 8) : Nat) : Int), .slice none 0 0] 25)
  have R0 := (Row.new w 25 #[.int .u64 0, .int .u64 0, .slice none 0 0]).alloc (.cells #[.int .u64 ((getN (bs.take 8) : Nat) : Int), .int .u64 ((getN ((bs.drop 8).take 8) : Nat) : Int), .slice none 0 0] 25)
  have R1 := Row.new (w.alloc (.cells #[.int .u64 0, .int .u64 0, .slice none 0 0] 25)) 25 #[.int .u64 ((getN (bs.take 8) : Nat) : Int), .int .u64 ((getN ((bs.drop 8).take 8) : Nat) : Int), .slice none 0 0]
  rw [World.size_alloc] at R1
  have kx2 := cell_lay (o := .cells #[.int .u64 ((getN (bs.take 8) : Nat) : Int), .int .u64 ((getN ((bs.drop 8).take 8) : Nat) : Int), .slice none 0 0] 25) kx
  have HL : Hid ((numsOf ((bs.drop 17).take x.toNat)).length = x.toNat) := Lib.hid (by rw [numsOf_len, List.length_take, List.length_drop, hlen.out]; omega)
  go_enter Try.func21, Try.ntmps21
  go_wp2_with (go_at_call 30; first | (with_reducible refine (P1.out _ _).mono ?_; rintro e w1 ⟨rfl, rfl⟩) | (with_reducible refine (P2.out _ _).mono ?_; rintro e w2 ⟨rfl, rfl⟩))
  generalize hg1 : getN (bs.take 8) = g1 at *
  generalize hg2 : getN ((bs.drop 8).take 8) = g2 at *
  generalize cutA (some p) c 17 1 = A17 at *
  have hll := Lib.hid hq.len
  simp only [Nat.add_sub_cancel_left]
  go_loopw [45] (fun i wr => ∃ (k c5 : Nat) (A5 : Option Addr), k ≤ x.toNat ∧ i = .int .i64 k ∧ Row wr w.heap.size 25 #[.int .u64 0, .int .u64 0, .slice none 0 0] ∧ Row wr (w.heap.size + 1) 25 #[.int .u64 (g1 : Int), .int .u64 (g2 : Int), .slice A5 k c5] ∧ OwnI wr (w.heap.size + 2) A5 k c5 (numsOf ((bs.drop 17).take k)) ∧ Below w.heap.size w wr ∧ w.heap.size + 2 ≤ wr.heap.size) (fun i _ => x.toNat - (intOf i).toNat)
  case atStart => exact ⟨0, 0, none, Nat.zero_le _, rfl, R0, R1, OwnI.nil _ _, hb0, by simp⟩
  case round =>
    obtain ⟨k, c5, A5, hk, rfl, S0, S1, hown, hb, hz⟩ := hrel
    by_cases hlt : k < x.toNat
    · obtain ⟨p', y, rfl, _, hyc, hy, hy256⟩ := (hq.below (hb.mono hB)).at_ hlt
      have HY := Lib.hid hy
      clear hy
      have hwy2 : IntKind.i64.wrap (y.toNat : Int) = y.toNat := IntWalk.i64_in _ ⟨by omega, by omega⟩
      have e0 := S1.cell 0
      have e1 := S1.cell 1
      have e2 := S1.cell 2
      have e3 := S1.free 2
      simp at e0 e1 e2
      go_wp2_with (at_builtin; go_loud (refine wpList_append_i rfl (.tmp 50) (.tmp 53) rfl (w.heap.size + 2) A5 _ c5 _ rfl (hown.alloc (.cells #[.int .i64 (y.toNat : Int)] 3)) _ (some ⟨wr.heap.size, 0, none⟩) 1 1 [(y.toNat : Int)] rfl (SlI.laid wr #[.int .i64 (y.toNat : Int)] 3 (0, 0) _ 1 rfl rfl) (by omega) (by simp; omega) ?_); intro A6 c6 w6 hown6 hg6 hb6; replace S0 := (S0.alloc (.cells #[.int .i64 (y.toNat : Int)] 3)).below hb6 (by omega); replace S1 := (S1.alloc (.cells #[.int .i64 (y.toNat : Int)] 3)).below hb6 (by omega); replace hb := (hb.alloc hb.size (.cells #[.int .i64 (y.toNat : Int)] 3)).trans (hb6.mono (by omega)); have hz6 := hb6.size; simp only [World.size_alloc] at hz6; clear e0 e1 e2 e3; have e0 := S1.cell 0; have e1 := S1.cell 1; have e2 := S1.cell 2; have e3 := S1.free 2; simp at e0 e1 e2)
      go_roundw
      case rel =>
        refine ⟨k + 1, c6, A6, by omega, by simp, S0.far (by simp) _, S1.set_ 2 _, ?_, hb.setCell (by simp) _, by simp only [World.size_setCell]; omega⟩
        refine ownsRow_setCell_below (OwnI.cast hown6 ?_) (by simp) _
        rw [numsOf_next]
        rw [List.getElem?_take, if_pos hlt] at HY
        exact HY.out
      case measure => simp [intOf]; omega
    · obtain rfl : k = x.toNat := by omega
      have e0 := S1.cell 0
      have e1 := S1.cell 1
      have e2 := S1.cell 2
      simp at e0 e1 e2
      have HT : Hid (takeSt bs = if okChain (numsOf ((bs.drop 17).take x.toNat)) then ((g1, g2, numsOf ((bs.drop 17).take x.toNat)), 17 + x.toNat, 0) else ((0, 0, []), 0, 3)) := Lib.hid (by
        unfold takeSt; rw [if_neg (by rw [hlen.out]; omega), HX.out, if_neg (by rw [hlen.out]; omega), hg1, hg2])
      by_cases hok : okChain (numsOf ((bs.drop 17).take x.toNat)) = true
      · have HC : Hid (chkS (numsOf ((bs.drop 17).take x.toNat)) = 0) := Lib.hid (by unfold chkS; rw [hok]; rfl)
        rw [if_pos hok] at HT
        rw [HT.out]
        clear hok
        go_wp2_with fail
        refine (refCheck_any _ _ _ _ _ _ _ _ hown.sl (Nat.le_refl _) (by omega)).mono ?_
        rw [HC.out]
        rintro e w5 ⟨rfl, hb5⟩
        replace S0 := S0.below hb5 (by omega)
        replace S1 := S1.below hb5 (by omega)
        replace hb := after_next hb hb5
        have hs3 := hown.sl.next hb5
        clear e0 e1 e2
        have e0 := S1.cell 0
        have e1 := S1.cell 1
        have e2 := S1.cell 2
        have c0 := S0.cell 0
        have c1 := S0.cell 1
        have c2 := S0.cell 2
        have f0 := S0.free 0
        have f1 := S0.free 1
        have f2 := S0.free 2
        simp at c0 c1 c2 e0 e1 e2
        go_wp2_with fail
        go_region_held3 (fun w' => w'.cell? ⟨w.heap.size + 1, 0, none⟩ = some (.int .u64 (g1 : Int)) ∧ w'.cell? ⟨w.heap.size + 1, 1, none⟩ = some (.int .u64 (g2 : Int)) ∧ w'.cell? ⟨w.heap.size + 1, 2, none⟩ = some (.slice A5 x.toNat c5)) (go_keep) (fail)
        go_wp2_with fail
        refine bodyPost_ret (v := .tuple #[.agg #[.int .u64 (g1 : Int), .int .u64 (g2 : Int), .slice A5 x.toNat c5], .int .i64 (17 + (x.toNat : Int)), .int .i64 0]) (by simp [results, Try.results21, go_sem, c0, c1, c2, f0, f1, f2]) rfl ?_
        have hne : ∀ p', A5 = some p' → w.heap.size ≠ p'.block := by
          intro p' hp'
          rcases Own.block hown with ⟨h, _⟩ | ⟨g, h, hg, _⟩
          · rw [h] at hp'; cases hp'
          · rw [h] at hp'; cases hp'; simp at hg ⊢; omega
        try rw [HT.out]
        refine ⟨A5, c5, ?_, ?_, (((hb.trans (below_draws _ _ _)).setCell (Nat.le_refl _) _).setCell (Nat.le_refl _) _).setCell (Nat.le_refl _) _⟩
        · rw [HL.out]; simp
        · rw [HL.out]
          simp only [World.size_setCell]
          have hq3 := (((hs3.store_ne (q := ⟨w.heap.size, 0, none⟩) hne (.int .u64 (g1 : Int))).store_ne (q := ⟨w.heap.size, 1, none⟩) hne (.int .u64 (g2 : Int))).store_ne (q := ⟨w.heap.size, 2, none⟩) hne (.slice A5 x.toNat c5)).drewN 1
          exact hq3.up (Nat.le_of_eq (by simp))
      · have HC : Hid (chkS (numsOf ((bs.drop 17).take x.toNat)) = 1) := Lib.hid (by unfold chkS; rw [if_neg hok])
        rw [if_neg hok] at HT
        clear hok
        go_wp2_with fail
        refine (refCheck_any _ _ _ _ _ _ _ _ hown.sl (Nat.le_refl _) (by omega)).mono ?_
        rw [HC.out]
        rintro e w5 ⟨rfl, hb5⟩
        replace S0 := S0.below hb5 (by omega)
        replace hb := after_next hb hb5
        have c0 := S0.cell 0
        have c1 := S0.cell 1
        have c2 := S0.cell 2
        have f0 := S0.free 0
        have f1 := S0.free 1
        have f2 := S0.free 2
        simp at c0 c1 c2
        go_wp2_with fail
        refine bodyPost_ret (v := .tuple #[.agg #[.int .u64 0, .int .u64 0, .slice none 0 0], .int .i64 0, .int .i64 3]) (by simp [results, Try.results21, go_sem, c0, c1, c2, f0, f1, f2]) rfl ?_
        rw [HT.out]
        exact TellsSt.bad (((hb.setCell (Nat.le_refl _) _).setCell (Nat.le_refl _) _).setCell (Nat.le_refl _) _)

set_option maxHeartbeats 3200000 in
set_option maxRecDepth 100000 in
theorem refStampPut_ok (w : World) (B : Nat) (e r n c : Nat) (A : Option Addr) (l : List Int) (h : SlI w B A n c l) (hB : B ≤ w.heap.size) (hok : okChain l = true) (he : e < 18446744073709551616) (hr : r < 18446744073709551616) :
    Calls Try.prog 12 #[stV e r A n c] w (TellsB w (putSt e r l, 0)) := by
  have hlen := Lib.hid h.len
  have hfacts : n ≤ 8 ∧ Hid (∀ z ∈ l, 1 ≤ z ∧ z ≤ 16) := by
    unfold okChain at hok
    have := of_decide_eq_true hok
    rw [h.len] at this
    exact ⟨this.2.1, this.2.2.1⟩
  obtain ⟨hn8, HR⟩ := hfacts
  have HC : Hid (chkS l = 0) := Lib.hid (by unfold chkS; rw [hok]; rfl)
  clear hok
  have HS : ∀ m, m < 18446744073709551616 → putS m 8 = (beB 8 m, 0) := fun m hm => putS_ok m 8 (by decide) (by decide) (Nat.div_eq_of_lt hm)
  have HNE := Lib.hid (fun w => refPut_any w e 8 he)
  have HNR := Lib.hid (fun w => refPut_any w r 8 hr)
  rw [HS e he] at HNE
  rw [HS r hr] at HNR
  have L1 := Lib.hid (beB_len 8 e)
  have L2 := Lib.hid (beB_len 8 r)
  clear he hr HS
  go_enter Try.func12, Try.ntmps12
  go_wp2_with fail
  refine (refCheck_any _ _ _ _ _ _ _ _ (h.alloc hB _) (by simp; omega) (by omega)).mono ?_
  rw [HC.out]
  rintro x w1 ⟨rfl, hb1⟩
  simp only [World.size_alloc] at hb1
  have hlt1 : w.heap.size < w1.heap.size := by have := hb1.size; simp at this; omega
  obtain ⟨R1, hba⟩ := box1 hb1
  have k0 := R1.cell 0
  have k1 := R1.cell 1
  have k2 := R1.cell 2
  simp at k0 k1 k2
  go_wp2_with fail
  refine (HNE.out _).mono ?_
  intro x w2 ht
  obtain ⟨A2, c2, rfl, ho2, hb2⟩ := ht.pair
  clear ht
  rw [L1.out] at ho2
  replace k0 := cell_next hb2 k0
  replace k1 := cell_next hb2 k1
  replace k2 := cell_next hb2 k2
  rw [L1.out]
  go_wp2_with fail
  refine (HNR.out _).mono ?_
  intro x w3 ht
  obtain ⟨A3, c3, rfl, ho3, hb3⟩ := ht.pair
  clear ht
  rw [L2.out] at ho3
  replace k0 := cell_next hb3 k0
  replace k1 := cell_next hb3 k1
  replace k2 := cell_next hb3 k2
  rw [L2.out]
  go_wp2_with fail
  replace hba := after_next (after_next hba hb2) hb3
  have hs := h.below (hba.mono hB)
  have hz2 := hb2.size
  have hz3 := hb3.size
  have hwr : IntKind.u8.wrap (n : Int) = n := by rw [IntKind.wrap_u8]; omega
  have o2d : OwnB w3.drew w1.heap.size A2 8 c2 (beB 8 e) := OwnB.drew (ho2.below hb3 (Nat.le_refl _))
  have o3d := ho3.sl.drew
  go_region_held3 (fun w' => w'.cell? ⟨w.heap.size, 2, none⟩ = some (.slice A n c)) (first | (go_keep; done) | (refine (Below.cell (by assumption) (by simp; omega)).trans ?_; first | assumption | (go_keep; done)))
    (first | (rw [if_pos (by rfl)]; refine wp_append_rd tyU8 (.tmp 28) (.tmp 29) rfl w1.heap.size _ _ _ _ rfl o2d _ _ _ _ _ rfl o3d.rd (by simp [L2.out]) (bytes_one _) (by decide) (by decide) (by simp; omega) ?_; intro A4 c4 w4 ho4 hg4; have hb4 := Own.belowA o2d hg4 (by simp; omega))
                | (rw [if_pos (by rfl)]; refine wp_append_rd tyU8 (.tmp 28) (.tmp 29) rfl w1.heap.size _ _ _ _ rfl (o2d.alloc (.cells #[.int .u8 (n : Int)] 5)) _ _ _ _ _ rfl (o3d.alloc (Nat.le_refl _) (.cells #[.int .u8 (n : Int)] 5)).rd (by simp [L2.out]) (bytes_one _) (by decide) (by decide) (by simp; omega) ?_; intro A5 c5 w5 ho5 hg5; have hb5 := Own.belowA (o2d.alloc (.cells #[.int .u8 (n : Int)] 5)) hg5 (by simp; omega); have RL := (Row.new w3.drew 5 #[.int .u8 (n : Int)]).grown hg5 (o2d.notOwn (Nat.le_refl _)))
                | (rw [if_pos (by rfl)]; refine wp_append_rd tyU8 (.tmp 30) (.tmp 35) rfl w1.heap.size _ _ _ _ rfl (ho4.alloc (.cells #[.int .u8 (n : Int)] 5)) _ _ _ _ _ rfl (SlB.laid w4 #[.int .u8 (n : Int)] 5 (0, 0) [UInt8.ofNat n] 1 (by simp [bv_small (show n < 256 by omega)]) rfl).rd (by simp) (bytes_one _) (by decide) (by decide) (by have := hb4.size; simp at this ⊢; omega) ?_; intro A6 c6 w6 ho6 hg6; have hb6 := Own.belowA (ho4.alloc (.cells #[.int .u8 (n : Int)] 5)) hg6 (by have := hb4.size; simp at this ⊢; omega); have hb46 := (hb4.alloc (by have := hb4.size; simp at this ⊢; omega) (.cells #[.int .u8 (n : Int)] 5)).trans hb6)
                | (rw [if_pos (by rfl)]; refine wp_append_rd tyU8 (.tmp 30) (.tmp 35) rfl w1.heap.size _ _ _ _ rfl ho5 _ _ _ _ _ rfl (SlB.ofRow RL (bs := [UInt8.ofNat n]) (n := 1) (by simp [bv_small (show n < 256 by omega)]) rfl).rd (by simp) (bytes_one _) (by decide) (by decide) (by have := hb5.size; simp at this ⊢; omega) ?_; intro A6 c6 w6 ho6 hg6; have hb6 := Own.belowA ho5 hg6 (by have := hb5.size; simp at this ⊢; omega); have hb46 := hb5.trans hb6))
  all_goals
    have hbw : Below w.heap.size w w6 := by first | exact (after_draw hba).trans (hb46.mono (by omega)) | exact (after_lay (after_draw hba) _).trans (hb46.mono (by omega))
    have d2 : w6.cell? ⟨w.heap.size, 2, none⟩ = some (.slice A n c) := (hb46.cell (by simp; omega)).trans (by first | exact k2 | exact cell_lay k2)
    have hs := h.below (hbw.mono hB)
    have ho : OwnB w6 w.heap.size A6 17 c6 (beB 8 e ++ (beB 8 r ++ [UInt8.ofNat n])) := by
      have := Own.down (base' := w.heap.size) ho6 (by omega)
      unfold OwnB
      rw [List.map_append, List.map_append, ← List.append_assoc]
      exact this
    clear ho2 ho3 hwr o2d o3d hb46 hb3 hb2 hb1 R1 k0 k1 k2
    go_wp2_with fail
    try simp only [Nat.reduceAdd]
    go_loopw [5, 40] (fun o i wr => ∃ (k c5 : Nat) (A5 : Option Addr), k ≤ n ∧ i = .int .i64 k ∧ o = .slice A5 (17 + k) c5 ∧ OwnB wr w.heap.size A5 (17 + k) c5 (beB 8 e ++ (beB 8 r ++ (UInt8.ofNat n :: (l.take k).map fun z => UInt8.ofNat z.toNat))) ∧ Below w.heap.size w wr) (fun _ i _ => n - (intOf i).toNat)
    case atStart => exact ⟨0, c6, A6, Nat.zero_le _, rfl, rfl, ho.cast (by simp), hbw⟩
    case round =>
      obtain ⟨k, c5, A5, hk, rfl, rfl, hown, hb⟩ := hrel
      have hz := hb.size
      by_cases hlt : k < n
      · obtain ⟨p, z, rfl, _, hcell, hz⟩ := (h.below (hb.mono hB)).at_ hlt
        have HZ := Lib.hid hz
        have hzr := HR.out z (List.mem_of_getElem? hz)
        clear hz
        obtain ⟨m, rfl⟩ := Int.eq_ofNat_of_zero_le (show 0 ≤ z by omega)
        go_wp2_with (at_builtin; go_loud (refine wpList_append_b rfl (.tmp 44) (.tmp 47) rfl w.heap.size A5 _ c5 _ rfl (hown.alloc (.cells #[.int .u8 (m : Int)] 5)) _ (some ⟨wr.heap.size, 0, none⟩) 1 1 [UInt8.ofNat m] rfl (SlB.laid wr #[.int .u8 (m : Int)] 5 (0, 0) [UInt8.ofNat m] 1 (by simp [bv_small (show m < 256 by omega)]) rfl) (by omega) (by simp; omega) ?_); intro A6 c6 w6 hown6 hg6 hb6)
        go_roundw
        case rel =>
          refine ⟨k + 1, c6, A6, by omega, by simp, by rw [Nat.add_assoc], ?_, (hb.alloc (by omega) _).trans hb6⟩
          rw [← Nat.add_assoc]
          exact hown6.cast (by rw [take_nextI HZ.out, List.map_append]; simp)
        case measure => simp [intOf]; omega
      · obtain rfl : k = n := by omega
        go_wp2_with fail
        go_ret2
        rw [List.take_of_length_le (by rw [hlen.out]; exact Nat.le_refl _)] at hown
        unfold putSt
        rw [hlen.out]
        exact TellsB.ok hown hb

theorem refStampPut_bad (w : World) (B : Nat) (e r n c : Nat) (A : Option Addr) (l : List Int) (h : SlI w B A n c l) (hB : B ≤ w.heap.size) (hn : n ≤ 140737488355328) (hc : chkS l = 1) :
    Calls Try.prog 12 #[stV e r A n c] w (TellsB w ([], 1)) := by
  have HC := Lib.hid hc
  clear hc
  go_enter Try.func12, Try.ntmps12
  go_wp2_with fail
  refine (refCheck_any _ _ _ _ _ _ _ _ (h.alloc hB _) (by simp; omega) hn).mono ?_
  rw [HC.out]
  rintro x w1 ⟨rfl, hb1⟩
  simp only [World.size_alloc] at hb1
  obtain ⟨R1, hba⟩ := box1 hb1
  go_wp2_with fail
  go_ret2
  exact TellsB.none_ hba

/-- P4.2: written, or why not. -/
def putStS (e r : Nat) (l : List Int) : List UInt8 × Int := if chkS l = 0 then (putSt e r l, 0) else ([], chkS l)
theorem chkS_01 (l : List Int) : chkS l = 0 ∧ okChain l = true ∨ chkS l = 1 ∧ okChain l = false := by
  unfold chkS
  cases okChain l <;> simp
theorem stampPut_any (w : World) (B : Nat) (e r n c : Nat) (A : Option Addr) (l : List Int) (h : SlI w B A n c l) (hB : B ≤ w.heap.size) (hn : n ≤ 140737488355328) (he : e < 18446744073709551616) (hr : r < 18446744073709551616) :
    Calls Try.prog 11 #[stV e r A n c] w (TellsB w (putStS e r l)) := by
  unfold putStS
  rcases chkS_01 l with ⟨h0, hk⟩ | ⟨h0, hk⟩
  · rw [if_pos h0]; exact stampPut_ok w B e r n c A l h hB hk he hr
  · rw [h0]; exact stampPut_bad w B e r n c A l h hB hn h0
theorem refStampPut_any (w : World) (B : Nat) (e r n c : Nat) (A : Option Addr) (l : List Int) (h : SlI w B A n c l) (hB : B ≤ w.heap.size) (hn : n ≤ 140737488355328) (he : e < 18446744073709551616) (hr : r < 18446744073709551616) :
    Calls Try.prog 12 #[stV e r A n c] w (TellsB w (putStS e r l)) := by
  unfold putStS
  rcases chkS_01 l with ⟨h0, hk⟩ | ⟨h0, hk⟩
  · rw [if_pos h0]; exact refStampPut_ok w B e r n c A l h hB hk he hr
  · rw [h0]; exact refStampPut_bad w B e r n c A l h hB hn h0
end Go.Proofs.Ytknkdkheaamglaa
