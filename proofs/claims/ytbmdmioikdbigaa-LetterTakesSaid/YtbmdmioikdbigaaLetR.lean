/- The contract of the document's answer for letters: a body taken. -/
import Derived.Test.YtbmdmioikdbigaaLetT
namespace Go.Proofs.Ytbmdmioikdbigaa
set_option linter.unusedSimpArgs false
set_option linter.unusedVariables false
open Go.RowKit

theorem two_getN (bs : List UInt8) (k : Nat) (x y : UInt8) (hx : bs[k]? = some x) (hy : bs[k + 1]? = some y) : getN ((bs.drop k).take 2) = x.toNat * 256 + y.toNat := by
  have : (bs.drop k).take 2 = [x, y] := by
    apply List.ext_getElem?
    intro i
    rw [List.getElem?_take]
    rcases i with _ | _ | i
    · simp [hx]
    · simp [hy]
    · simp; intro h; omega
  rw [this]
  simp [getN]

set_option maxHeartbeats 3200000 in
set_option maxRecDepth 100000 in
theorem refLetTake_any (w : World) (B : Nat) (A : Option Addr) (n c : Nat) (bs : List UInt8) (h : SlB w B A n c bs) (hB : B ≤ w.heap.size) (hn : n ≤ 140737488355328) :
    Calls Try.prog 10 #[.slice A n c] w (TellsL w (takeL bs)) := by
  have hlen := Lib.hid h.len
  have hcap := h.cap
  by_cases h78 : n = 78
  case neg =>
    rw [takeL_len (by rw [hlen.out]; exact h78)]
    have hne : ((n : Int) != 78) = true := bne_iff_ne.2 (by omega)
    go_enter Try.func10, Try.ntmps10
    go_wp2_with fail
    refine bodyPost_ret (v := .tuple #[zeL, .int .i64 3]) (by simp [results, Try.results10, go_sem]) rfl ?_
    exact TellsL.bad ((Below.refl _ _).alloc (Nat.le_refl _) _)
  subst h78
  have EQ := Lib.hid fun w B B' A c A' c' xs h1 h2 => Same_any w B B' A A' 78 c 78 c' xs bs h1 h2
  obtain ⟨p, x, rfl, hpB, hcell, hx, hx256⟩ := h.at_ (k := 0) (by omega)
  have HX : Hid (bs.getD 0 0 = x) := Lib.hid (by simp [List.getD, hx])
  replace hcell : w.cell? p = some (.int .u8 (x.toNat : Int)) := hcell
  have kx := cell_lay (o := (.cells #[.bool true, .int .i64 0, .int .i64 0, .int .u64 0, .slice none 0 0] 26)) (cell_lay (o := zeO) hcell)
  have R0 := (Row.new w 26 zeC).alloc (.cells #[.bool true, .int .i64 0, .int .i64 0, .int .u64 0, .slice none 0 0] 26)
  have R1 := Row.new (w.alloc zeO) 26 #[.bool true, .int .i64 0, .int .i64 0, .int .u64 0, .slice none 0 0]
  rw [World.size_alloc] at R1
  have hb0 := after_lay (after_lay (Below.refl w.heap.size w) zeO) (.cells #[.bool true, .int .i64 0, .int .i64 0, .int .u64 0, .slice none 0 0] 26)
  by_cases hx1 : x = 1
  case neg =>
    have hne : ((x.toNat : Int) == 1) = false := beq_eq_false_iff_ne.2 (fun e => hx1 (UInt8.toNat_inj.1 (show x.toNat = (1 : UInt8).toNat from by have e1 : x.toNat = 1 := (by omega); rw [e1]; rfl)))
    have HP : Hid (putL true 0 0 0 [] = (List.replicate 78 0, 0)) := Lib.hid rfl
    have TK : Hid (takeL bs = if bs = List.replicate 78 0 then ((true, 0, 0, 0, []), 0) else badL) := Lib.hid (by
      by_cases hz : bs = List.replicate 78 0
      · rw [if_pos hz]; exact takeL_cov hz
      · rw [if_neg hz]; exact takeL_form hlen.out hz (.inl (by rw [HX.out]; exact hx1)))
    clear hx hx1
    have d0 := R1.cell 0
    have d1 := R1.cell 1
    have d2 := R1.cell 2
    have d3 := R1.cell 3
    have d4 := R1.cell 4
    simp at d0 d1 d2 d3 d4
    go_enter Try.func10, Try.ntmps10
    go_wp2_with fail
    refine (refLetPut_any _ 0 _ _ _ _ _ _ _ _ (SlB.none_ _ _ _ _) (Nat.zero_le _) (by decide)).mono ?_
    rw [HP.out]
    rintro e w1 ⟨A1, c1, rfl, ho1, hb1⟩
    replace ho1 : OwnB w1 _ A1 78 c1 (List.replicate 78 0) := ho1
    replace R1 := R1.below hb1 R1.lt
    replace R0 := R0.below hb1 R0.lt
    replace hb0 := after_next hb0 hb1
    clear d0 d1 d2 d3 d4 hb1 kx
    have d0 := R1.cell 0
    have d1 := R1.cell 1
    have d2 := R1.cell 2
    have d3 := R1.cell 3
    have d4 := R1.cell 4
    simp at d0 d1 d2 d3 d4
    have c0 := R0.cell 0
    have c1 := R0.cell 1
    have c2 := R0.cell 2
    have c3 := R0.cell 3
    have c4 := R0.cell 4
    have f0 := R0.free 0
    have f1 := R0.free 1
    have f2 := R0.free 2
    have f3 := R0.free 3
    have f4 := R0.free 4
    simp at c0 c1 c2 c3 c4
    go_wp2_with fail
    with_reducible refine (EQ.out _ _ _ _ _ _ _ _ ho1.sl ((h.below (hb0.mono hB)).up (Nat.le_trans hB hb0.size))).mono ?_
    by_cases hz : bs = List.replicate 78 0
    · rw [if_pos hz] at TK
      rw [decide_eq_true hz.symm]
      clear hz
      rintro e w2 ⟨rfl, rfl⟩
      go_wp2_with fail
      refine bodyPost_ret (v := .tuple #[.agg #[.bool true, .int .i64 0, .int .i64 0, .int .u64 0, .slice none 0 0], .int .i64 0]) (by simp [results, Try.results10, go_sem, c0, c1, c2, c3, c4, f0, f1, f2, f3, f4]) rfl ?_
      rw [TK.out]
      exact ⟨none, 0, rfl, OwnB.nil _ _, five_sets hb0 _ _ _ _ _⟩
    · rw [if_neg hz] at TK
      rw [decide_eq_false (fun e => hz e.symm)]
      clear hz
      rintro e w2 ⟨rfl, rfl⟩
      go_wp2_with fail
      refine bodyPost_ret (v := .tuple #[zeL, .int .i64 3]) (by simp [results, Try.results10, go_sem, c0, c1, c2, c3, c4, f0, f1, f2, f3, f4]) rfl ?_
      rw [TK.out]
      exact TellsL.bad (five_sets hb0 _ _ _ _ _)
  subst hx1
  have hpl : p.block < w.heap.size := World.block_lt_of_cell? w p hcell
  have hp1 : p.block ≠ w.heap.size + 1 := by omega
  have hp2 : w.heap.size + 1 ≠ p.block := by omega
  obtain ⟨p1, y1, e1, _, r1, u1, v1⟩ := h.at_ (k := 1) (by omega)
  obtain ⟨p2, y2, e2, _, r2, u2, v2⟩ := h.at_ (k := 2) (by omega)
  obtain ⟨p3, y3, e3, _, r3, u3, v3⟩ := h.at_ (k := 3) (by omega)
  obtain ⟨p4, y4, e4, _, r4, u4, v4⟩ := h.at_ (k := 4) (by omega)
  cases e1; cases e2; cases e3; cases e4
  replace r1 : w.cell? ⟨p.block, p.off + 1, none⟩ = some (.int .u8 (y1.toNat : Int)) := r1
  replace r2 : w.cell? ⟨p.block, p.off + 2, none⟩ = some (.int .u8 (y2.toNat : Int)) := r2
  replace r3 : w.cell? ⟨p.block, p.off + 3, none⟩ = some (.int .u8 (y3.toNat : Int)) := r3
  replace r4 : w.cell? ⟨p.block, p.off + 4, none⟩ = some (.int .u8 (y4.toNat : Int)) := r4
  have G1 := Lib.hid (two_getN bs 1 y1 y2 u1 u2)
  have G2 := Lib.hid (two_getN bs 3 y3 y4 u3 u4)
  replace r1 := cell_lay (o := (.cells #[.bool true, .int .i64 0, .int .i64 0, .int .u64 0, .slice none 0 0] 26)) (cell_lay (o := zeO) r1)
  replace r2 := cell_lay (o := (.cells #[.bool true, .int .i64 0, .int .i64 0, .int .u64 0, .slice none 0 0] 26)) (cell_lay (o := zeO) r2)
  replace r3 := cell_lay (o := (.cells #[.bool true, .int .i64 0, .int .i64 0, .int .u64 0, .slice none 0 0] 26)) (cell_lay (o := zeO) r3)
  replace r4 := cell_lay (o := (.cells #[.bool true, .int .i64 0, .int .i64 0, .int .u64 0, .slice none 0 0] 26)) (cell_lay (o := zeO) r4)
  have wr1 : IntKind.i64.wrap (y1.toNat : Int) = y1.toNat := IntWalk.i64_in _ ⟨by omega, by omega⟩
  have wr2 : IntKind.i64.wrap (y2.toNat : Int) = y2.toNat := IntWalk.i64_in _ ⟨by omega, by omega⟩
  have wr3 : IntKind.i64.wrap (y3.toNat : Int) = y3.toNat := IntWalk.i64_in _ ⟨by omega, by omega⟩
  have wr4 : IntKind.i64.wrap (y4.toNat : Int) = y4.toNat := IntWalk.i64_in _ ⟨by omega, by omega⟩
  have wr5 : IntKind.i64.wrap ((y1.toNat : Int) * 256) = y1.toNat * 256 := IntWalk.i64_in _ ⟨by omega, by omega⟩
  have wr6 : IntKind.i64.wrap ((y3.toNat : Int) * 256) = y3.toNat * 256 := IntWalk.i64_in _ ⟨by omega, by omega⟩
  obtain ⟨fr, hfr⟩ : ∃ fr : Nat, Hid (fr = y1.toNat * 256 + y2.toNat) := ⟨_, Lib.hid rfl⟩
  obtain ⟨tt, htt⟩ : ∃ tt : Nat, Hid (tt = y3.toNat * 256 + y4.toNat) := ⟨_, Lib.hid rfl⟩
  have wr7 : IntKind.i64.wrap ((y1.toNat : Int) * 256 + y2.toNat) = fr := by rw [IntWalk.i64_in _ ⟨by omega, by omega⟩, hfr.out]; simp
  have wr8 : IntKind.i64.wrap ((y3.toNat : Int) * 256 + y4.toNat) = tt := by rw [IntWalk.i64_in _ ⟨by omega, by omega⟩, htt.out]; simp
  have hcut := h.cut (l := 13) (by omega)
  have q3 := (h.cut (l := 5) (by omega)).take (k := 8) (m := c - 5) (by omega) (by omega)
  have m13 : (13 : Int) ≤ c := by omega
  have q3s : Hid (getS ((bs.drop 5).take 8) = (getN ((bs.drop 5).take 8), 0)) := Lib.hid (by unfold getS; rw [q3.len, if_neg (by omega)])
  have T3 := Lib.hid fun w' (hb : Below w.heap.size w w') => refGet_any w' _ _ _ _ _ (q3.below (hb.mono hB)) (by omega)
  rw [q3s.out] at T3
  have g3 := getN_lt ((bs.drop 5).take 8)
  rw [q3.len] at g3
  have U := Lib.hid fun w h => refUnfill_any w w.heap.size (cutA (some p) c 13 1) (78 - 13) (c - 13) (bs.drop 13) h (Nat.le_refl _) (by omega)
  rcases hu : unfillS (bs.drop 13) with ⟨tx, er⟩
  rw [hu] at U
  have hz := not_noughts HX.out
  have hbad : er ≠ 0 → Hid (takeL bs = badL) := fun hh => Lib.hid (takeL_form hlen.out hz (by rw [hu]; exact .inr hh))
  have TK : er = 0 → tx.length ≤ 64 ∧ bodyL (y1.toNat * 256 + y2.toNat) (y3.toNat * 256 + y4.toNat) (getN ((bs.drop 5).take 8)) tx = bs ∧ (takeL bs = if chkL false ((y1.toNat * 256 + y2.toNat : Nat) : Int) ((y3.toNat * 256 + y4.toNat : Nat) : Int) (getN ((bs.drop 5).take 8)) tx.length ≠ 0 then badL else ((false, (y1.toNat * 256 + y2.toNat), (y3.toNat * 256 + y4.toNat), getN ((bs.drop 5).take 8), tx), 0)) := fun e => by
    subst e
    have hb := body_back bs hlen.out HX.out tx hu
    rw [G1.out, G2.out] at hb
    refine ⟨hb.2, hb.1, ?_⟩
    unfold takeL partsL
    rw [if_neg (by simpa using hlen.out), if_neg hz, hu, G1.out, G2.out, if_neg (by rw [HX.out]; simp)]
  rw [← hfr.out, ← htt.out] at TK
  have TKH := Lib.hid TK
  generalize getN ((bs.drop 5).take 8) = sq at *
  clear TK hu hz u1 u2 u3 u4 G1 G2 hx q3s hcell q3
  go_enter Try.func10, Try.ntmps10
  go_wp2_with fail
  generalize hW : ((w.alloc zeO).alloc (.cells #[.bool true, .int .i64 0, .int .i64 0, .int .u64 0, .slice none 0 0] 26)) = w9 at *
  have d0 := R1.cell 0
  have d1 := R1.cell 1
  have d2 := R1.cell 2
  have d3 := R1.cell 3
  have d4 := R1.cell 4
  have f0 := R1.free 0
  have f1 := R1.free 1
  have f2 := R1.free 2
  have f3 := R1.free 3
  have f4 := R1.free 4
  simp at d0 d1 d2 d3 d4
  go_region_held3 (fun w' => w'.cell? ⟨p.block, p.off + 1, none⟩ = some (.int .u8 (y1.toNat : Int)) ∧ w'.cell? ⟨p.block, p.off + 2, none⟩ = some (.int .u8 (y2.toNat : Int)) ∧ w'.cell? ⟨p.block, p.off + 3, none⟩ = some (.int .u8 (y3.toNat : Int)) ∧ w'.cell? ⟨p.block, p.off + 4, none⟩ = some (.int .u8 (y4.toNat : Int))) (go_keep) (fail)
  clear d0 d1 d2 d3 d4 f0 f1 f2 f3 f4
  have S1 : Row (((((w9.setCell ⟨w.heap.size + 1, 0, none⟩ (.bool false)).setCell ⟨w.heap.size + 1, 1, none⟩ (.int .i64 (fr : Int))).setCell ⟨w.heap.size + 1, 2, none⟩ (.int .i64 (tt : Int))).setCell ⟨w.heap.size + 1, 3, none⟩ (.int .u64 0)).setCell ⟨w.heap.size + 1, 4, none⟩ (.slice none 0 0)).drew (w.heap.size + 1) 26 #[.bool false, .int .i64 (fr : Int), .int .i64 (tt : Int), .int .u64 0, .slice none 0 0] := ((((R1.set_ 0 (.bool false)).set_ 1 (.int .i64 (fr : Int))).set_ 2 (.int .i64 (tt : Int))).set_ 3 (.int .u64 0)).set_ 4 (.slice none 0 0)
  have S0 : Row (((((w9.setCell ⟨w.heap.size + 1, 0, none⟩ (.bool false)).setCell ⟨w.heap.size + 1, 1, none⟩ (.int .i64 (fr : Int))).setCell ⟨w.heap.size + 1, 2, none⟩ (.int .i64 (tt : Int))).setCell ⟨w.heap.size + 1, 3, none⟩ (.int .u64 0)).setCell ⟨w.heap.size + 1, 4, none⟩ (.slice none 0 0)).drew w.heap.size 26 zeC := ((((R0.far (by simp) _).far (by simp) _).far (by simp) _).far (by simp) _).far (by simp) _
  have hb5 : Below w.heap.size w (((((w9.setCell ⟨w.heap.size + 1, 0, none⟩ (.bool false)).setCell ⟨w.heap.size + 1, 1, none⟩ (.int .i64 (fr : Int))).setCell ⟨w.heap.size + 1, 2, none⟩ (.int .i64 (tt : Int))).setCell ⟨w.heap.size + 1, 3, none⟩ (.int .u64 0)).setCell ⟨w.heap.size + 1, 4, none⟩ (.slice none 0 0)).drew := after_draw (((((hb0.setCell (by simp) _).setCell (by simp) _).setCell (by simp) _).setCell (by simp) _).setCell (by simp) _)
  generalize (((((w9.setCell ⟨w.heap.size + 1, 0, none⟩ (.bool false)).setCell ⟨w.heap.size + 1, 1, none⟩ (.int .i64 (fr : Int))).setCell ⟨w.heap.size + 1, 2, none⟩ (.int .i64 (tt : Int))).setCell ⟨w.heap.size + 1, 3, none⟩ (.int .u64 0)).setCell ⟨w.heap.size + 1, 4, none⟩ (.slice none 0 0)).drew = w5 at *
  clear R0 R1 hb0 r1 r2 r3 r4 wr1 wr2 wr3 wr4 wr5 wr6 wr7 wr8 kx hW
  have d0 := S1.cell 0
  have d1 := S1.cell 1
  have d2 := S1.cell 2
  have d3 := S1.cell 3
  have d4 := S1.cell 4
  have f0 := S1.free 0
  have f1 := S1.free 1
  have f2 := S1.free 2
  have f3 := S1.free 3
  have f4 := S1.free 4
  simp at d0 d1 d2 d3 d4
  go_wp2_with fail
  with_reducible refine (T3.out _ hb5).mono ?_
  rintro e w' ⟨rfl, rfl⟩
  have S1' := S1.set_ 3 (.int .u64 (sq : Int))
  have S0' := S0.far (p := ⟨w.heap.size + 1, 3, none⟩) (by simp) (.int .u64 (sq : Int))
  have hb6 := hb5.setCell (p := ⟨w.heap.size + 1, 3, none⟩) (by simp) (.int .u64 (sq : Int))
  simp only [List.setIfInBounds_toArray, List.set_cons_zero, List.set_cons_succ] at S1'
  go_wp2_with fail
  generalize w5.setCell ⟨w.heap.size + 1, 3, none⟩ (.int .u64 (sq : Int)) = w6 at *
  clear d0 d1 d2 d3 d4 f0 f1 f2 f3 f4 S0 S1 hb5 T3
  refine (U.out _ ((hcut.below (hb6.mono hB)).up (Nat.le_trans hB hb6.size))).mono ?_
  intro e w7 ht
  obtain ⟨A7, c7, rfl, ho7, hb7⟩ := ht.pair
  clear ht U hcut
  have hz6 := S1'.lt
  replace S1 := S1'.below hb7 S1'.lt
  replace S0 := S0'.below hb7 S0'.lt
  replace hb7 := after_next hb6 hb7
  clear S1' S0' hb6
  have d0 := S1.cell 0
  have d1 := S1.cell 1
  have d2 := S1.cell 2
  have d3 := S1.cell 3
  have d4 := S1.cell 4
  have g0 := S1.free 0
  have g1 := S1.free 1
  have g2 := S1.free 2
  have g3 := S1.free 3
  have g4 := S1.free 4
  simp at d0 d1 d2 d3 d4
  by_cases he : er = 0
  case neg =>
    have HB := hbad he
    have hne : (er != 0) = true := bne_iff_ne.2 he
    clear he hbad TKH
    have c0 := S0.cell 0
    have c1 := S0.cell 1
    have c2 := S0.cell 2
    have c3 := S0.cell 3
    have c4 := S0.cell 4
    have f0 := S0.free 0
    have f1 := S0.free 1
    have f2 := S0.free 2
    have f3 := S0.free 3
    have f4 := S0.free 4
    simp at c0 c1 c2 c3 c4
    go_wp2_with fail
    refine bodyPost_ret (v := .tuple #[zeL, .int .i64 3]) (by simp [results, Try.results10, go_sem, c0, c1, c2, c3, c4, f0, f1, f2, f3, f4]) rfl ?_
    rw [HB.out]
    exact TellsL.bad (five_sets hb7 _ _ _ _ _)
  subst he
  obtain ⟨htx, hbody, TK⟩ := TKH.out rfl
  have TK' := Lib.hid TK
  have HBD := Lib.hid hbody
  clear TKH TK hbody hbad
  have ho8 : OwnB (w7.setCell ⟨w.heap.size + 1, 4, none⟩ (.slice A7 tx.length c7)) (w.heap.size + 2) A7 tx.length c7 tx := ownsRow_setCell_below (OwnB.down ho7 hz6) (by simp) _
  have hlt' : w.heap.size + 1 < w7.heap.size := S1.lt
  go_wp2_with fail
  have R1 := S1.set_ 4 (.slice A7 tx.length c7)
  have R0 := S0.far (p := ⟨w.heap.size + 1, 4, none⟩) (by simp) (.slice A7 tx.length c7)
  have hb8 := hb7.setCell (p := ⟨w.heap.size + 1, 4, none⟩) (by simp) (.slice A7 tx.length c7)
  simp only [List.setIfInBounds_toArray, List.set_cons_zero, List.set_cons_succ] at R1
  generalize w7.setCell ⟨w.heap.size + 1, 4, none⟩ (.slice A7 tx.length c7) = w8 at *
  clear d0 d1 d2 d3 d4 g0 g1 g2 g3 g4 S0 S1 hb7 ho7
  refine (refLetPut_any _ _ _ _ _ _ _ _ _ _ ho8.sl (Nat.le_refl _) (by omega)).mono ?_
  by_cases hc : chkL false (fr : Int) (tt : Int) sq tx.length = 0
  · rw [putL_ok hc, HBD.out]
    rw [if_neg (by simpa using hc)] at TK'
    clear hc
    intro e w10 ht
    obtain ⟨A9, c9, rfl, ho9, hb9⟩ := ht.pair
    clear ht
    rw [hlen.out] at *
    replace R1 := R1.below hb9 R1.lt
    replace R0 := R0.below hb9 R0.lt
    have ho10 := OwnB.below ho8 hb9 (Nat.le_refl _)
    replace hb9 := after_next hb8 hb9
    clear ho8 hb8
    have d0 := R1.cell 0
    have d1 := R1.cell 1
    have d2 := R1.cell 2
    have d3 := R1.cell 3
    have d4 := R1.cell 4
    have g0 := R1.free 0
    have g1 := R1.free 1
    have g2 := R1.free 2
    have g3 := R1.free 3
    have g4 := R1.free 4
    simp at d0 d1 d2 d3 d4
    have c0 := R0.cell 0
    have c1 := R0.cell 1
    have c2 := R0.cell 2
    have c3 := R0.cell 3
    have c4 := R0.cell 4
    have f0 := R0.free 0
    have f1 := R0.free 1
    have f2 := R0.free 2
    have f3 := R0.free 3
    have f4 := R0.free 4
    simp at c0 c1 c2 c3 c4
    go_wp2_with fail
    with_reducible refine (EQ.out _ _ _ _ _ _ _ _ ho9.sl ((h.below (hb9.mono hB)).up (Nat.le_trans hB hb9.size))).mono ?_
    rw [decide_eq_true rfl]
    rintro e w11 ⟨rfl, rfl⟩
    go_wp2_with fail
    refine bodyPost_ret (v := .tuple #[leV false (fr : Int) (tt : Int) sq A7 tx.length c7, .int .i64 0]) (by simp [results, Try.results10, go_sem, c0, c1, c2, c3, c4, f0, f1, f2, f3, f4]) rfl ?_
    rw [TK'.out]
    exact ⟨A7, c7, rfl, (OwnB.five ho10 (by omega) _ _ _ _ _).down (by omega), five_sets hb9 _ _ _ _ _⟩
  · have HC : Hid ((chkL false (fr : Int) (tt : Int) sq tx.length != 0) = true) := Lib.hid (by simpa using hc)
    rw [putL_bad hc]
    rw [if_pos hc] at TK'
    clear hc
    generalize chkL false (fr : Int) (tt : Int) sq tx.length = ch at *
    have HC' := HC.out
    intro e w10 ht
    obtain ⟨A9, c9, rfl, ho9, hb9⟩ := ht.pair
    clear ht
    replace R0 := R0.below hb9 R0.lt
    replace hb9 := after_next hb8 hb9
    clear ho8 hb8
    have c0 := R0.cell 0
    have c1 := R0.cell 1
    have c2 := R0.cell 2
    have c3 := R0.cell 3
    have c4 := R0.cell 4
    have f0 := R0.free 0
    have f1 := R0.free 1
    have f2 := R0.free 2
    have f3 := R0.free 3
    have f4 := R0.free 4
    simp at c0 c1 c2 c3 c4
    go_wp2_with fail
    refine bodyPost_ret (v := .tuple #[zeL, .int .i64 3]) (by simp [results, Try.results10, go_sem, c0, c1, c2, c3, c4, f0, f1, f2, f3, f4]) rfl ?_
    rw [TK'.out]
    exact TellsL.bad (five_sets hb9 _ _ _ _ _)
end Go.Proofs.Ytbmdmioikdbigaa
