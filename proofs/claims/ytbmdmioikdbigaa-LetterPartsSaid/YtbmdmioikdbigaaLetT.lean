/- The contracts of package letter: a body taken, by the program and by the document. -/
import Derived.Test.YtbmdmioikdbigaaLetP
import Derived.Test.YtbmdmioikdbigaaWordU
import Derived.Test.YtbmdmioikdbigaaWordP
namespace Go.Proofs.Ytbmdmioikdbigaa
set_option linter.unusedSimpArgs false
set_option linter.unusedVariables false
open Go.RowKit

/-! ### Bodies -/

theorem bodyL_len (f t s : Nat) (bs : List UInt8) (h : bs.length ≤ 64) : (bodyL f t s bs).length = 78 := by
  unfold bodyL fillL
  simp [beB_len]; omega
theorem split78 (bs : List UInt8) (h : bs.length = 78) : bs = bs.getD 0 0 :: ((bs.drop 1).take 2 ++ ((bs.drop 3).take 2 ++ ((bs.drop 5).take 8 ++ bs.drop 13))) := by
  have e1 : bs = bs.getD 0 0 :: bs.drop 1 := by
    rcases bs with _ | ⟨x, l⟩
    · simp at h
    · rfl
  have e2 : (bs.drop 1).take 2 ++ bs.drop 3 = bs.drop 1 := by
    have := List.take_append_drop 2 (bs.drop 1)
    rwa [List.drop_drop] at this
  have e3 : (bs.drop 3).take 2 ++ bs.drop 5 = bs.drop 3 := by
    have := List.take_append_drop 2 (bs.drop 3)
    rwa [List.drop_drop] at this
  have e4 : (bs.drop 5).take 8 ++ bs.drop 13 = bs.drop 5 := by
    have := List.take_append_drop 8 (bs.drop 5)
    rwa [List.drop_drop] at this
  rw [e4, e3, e2]
  exact e1
theorem body_back (bs : List UInt8) (h : bs.length = 78) (h0 : bs.getD 0 0 = 1) (tx : List UInt8) (hu : unfillS (bs.drop 13) = (tx, 0)) :
    bodyL (getN ((bs.drop 1).take 2)) (getN ((bs.drop 3).take 2)) (getN ((bs.drop 5).take 8)) tx = bs ∧ tx.length ≤ 64 := by
  obtain ⟨_, _, hx, hf⟩ := fill_unfill _ _ hu
  rw [List.length_drop, h] at hx hf
  refine ⟨?_, hx⟩
  rw [show ((78 - 13 - 1 : Nat) : Int) = ((64 : Nat) : Int) from rfl, fillS_ok tx 64 (by decide) (by decide) hx] at hf
  have hf' : fillL tx = bs.drop 13 := by unfold fillL; exact congrArg Prod.fst hf
  have b1 : beB 2 (getN ((bs.drop 1).take 2)) = (bs.drop 1).take 2 := by
    have := beB_getN ((bs.drop 1).take 2)
    rwa [show ((bs.drop 1).take 2).length = 2 from by simp; omega] at this
  have b2 : beB 2 (getN ((bs.drop 3).take 2)) = (bs.drop 3).take 2 := by
    have := beB_getN ((bs.drop 3).take 2)
    rwa [show ((bs.drop 3).take 2).length = 2 from by simp; omega] at this
  have b3 : beB 8 (getN ((bs.drop 5).take 8)) = (bs.drop 5).take 8 := by
    have := beB_getN ((bs.drop 5).take 8)
    rwa [show ((bs.drop 5).take 8).length = 8 from by simp; omega] at this
  unfold bodyL
  rw [b1, b2, b3, hf', ← h0]
  exact (split78 bs h).symm

abbrev LetT := (Bool × Nat × Nat × Nat × List UInt8) × Int
def badL : LetT := ((false, 0, 0, 0, []), 3)
def partsL (bs : List UInt8) : LetT := ((false, getN ((bs.drop 1).take 2), getN ((bs.drop 3).take 2), getN ((bs.drop 5).take 8), (unfillS (bs.drop 13)).1), 0)
/-- P10.2: the letter that a body holds, or why there is none. -/
def takeL (bs : List UInt8) : LetT :=
  if bs.length ≠ 78 then badL else if bs = List.replicate 78 0 then ((true, 0, 0, 0, []), 0)
  else if bs.getD 0 0 ≠ 1 ∨ (unfillS (bs.drop 13)).2 ≠ 0 then badL
  else if chkL false (getN ((bs.drop 1).take 2) : Nat) (getN ((bs.drop 3).take 2) : Nat) (getN ((bs.drop 5).take 8)) (unfillS (bs.drop 13)).1.length ≠ 0 then badL
  else partsL bs
theorem takeL_len {bs : List UInt8} (h : bs.length ≠ 78) : takeL bs = badL := by unfold takeL; rw [if_pos h]
theorem takeL_cov {bs : List UInt8} (h : bs = List.replicate 78 0) : takeL bs = ((true, 0, 0, 0, []), 0) := by
  unfold takeL; rw [if_neg (by rw [h]; simp), if_pos h]
theorem takeL_form {bs : List UInt8} (hl : bs.length = 78) (hz : bs ≠ List.replicate 78 0) (h : bs.getD 0 0 ≠ 1 ∨ (unfillS (bs.drop 13)).2 ≠ 0) : takeL bs = badL := by
  unfold takeL; rw [if_neg (by simpa using hl), if_neg hz, if_pos h]
theorem takeL_chk {bs : List UInt8} (hl : bs.length = 78) (hz : bs ≠ List.replicate 78 0) (h1 : bs.getD 0 0 = 1) (h2 : (unfillS (bs.drop 13)).2 = 0)
    (h : chkL false (getN ((bs.drop 1).take 2) : Nat) (getN ((bs.drop 3).take 2) : Nat) (getN ((bs.drop 5).take 8)) (unfillS (bs.drop 13)).1.length ≠ 0) : takeL bs = badL := by
  unfold takeL; rw [if_neg (by simpa using hl), if_neg hz, if_neg (by rw [h1, h2]; simp), if_pos h]
theorem takeL_ok {bs : List UInt8} (hl : bs.length = 78) (hz : bs ≠ List.replicate 78 0) (h1 : bs.getD 0 0 = 1) (h2 : (unfillS (bs.drop 13)).2 = 0)
    (h : chkL false (getN ((bs.drop 1).take 2) : Nat) (getN ((bs.drop 3).take 2) : Nat) (getN ((bs.drop 5).take 8)) (unfillS (bs.drop 13)).1.length = 0) : takeL bs = partsL bs := by
  unfold takeL; rw [if_neg (by simpa using hl), if_neg hz, if_neg (by rw [h1, h2]; simp), if_neg (by simpa using h)]
theorem not_noughts {bs : List UInt8} (h1 : bs.getD 0 0 = 1) : bs ≠ List.replicate 78 0 := by
  rintro rfl
  simp at h1

/-- What was put is taken. -/
theorem takeL_body (f t s : Nat) (bs : List UInt8) (hok : chkL false f t s bs.length = 0) (hs : s < 18446744073709551616) : takeL (bodyL f t s bs) = ((false, f, t, s, bs), 0) := by
  obtain ⟨⟨_, hf⟩, ⟨_, ht⟩, h1, hn⟩ := chkL_ok hok
  have hlen := bodyL_len f t s bs hn
  have L1 : (beB 2 f).length = 2 := beB_len _ _
  have L2 : (beB 2 t).length = 2 := beB_len _ _
  have L3 : (beB 8 s).length = 8 := beB_len _ _
  have d1 : (bodyL f t s bs).drop 1 = beB 2 f ++ (beB 2 t ++ (beB 8 s ++ fillL bs)) := rfl
  have d3 : (bodyL f t s bs).drop 3 = beB 2 t ++ (beB 8 s ++ fillL bs) := by
    rw [show (3 : Nat) = 1 + 2 from rfl, ← List.drop_drop, d1]; exact List.drop_left' L1
  have d5 : (bodyL f t s bs).drop 5 = beB 8 s ++ fillL bs := by
    rw [show (5 : Nat) = 3 + 2 from rfl, ← List.drop_drop, d3]; exact List.drop_left' L2
  have d13 : (bodyL f t s bs).drop 13 = fillL bs := by
    rw [show (13 : Nat) = 5 + 8 from rfl, ← List.drop_drop, d5]; exact List.drop_left' L3
  have g0 : (bodyL f t s bs).getD 0 0 = 1 := rfl
  have hu : unfillS (fillL bs) = (bs, 0) := unfill_fill bs 64 (by decide) (by decide) hn
  have e1 : getN (beB 2 f) = f := getN_beB_fit 2 f (fit_small (by omega) (by decide))
  have e2 : getN (beB 2 t) = t := getN_beB_fit 2 t (fit_small (by omega) (by decide))
  have e3 : getN (beB 8 s) = s := getN_beB_fit 8 s (Nat.div_eq_of_lt hs)
  have hp : partsL (bodyL f t s bs) = ((false, f, t, s, bs), 0) := by
    unfold partsL
    rw [d1, d3, d5, d13, List.take_left' L1, List.take_left' L2, List.take_left' L3, hu, e1, e2, e3]
  rw [takeL_ok hlen (not_noughts g0) g0 (by rw [d13, hu]) (by rw [d1, d3, d5, d13, List.take_left' L1, List.take_left' L2, List.take_left' L3, hu, e1, e2, e3]; exact hok), hp]

def TellsL (w : World) (r : LetT) (e : Ending) (w' : World) : Prop :=
  ∃ A c, e = .returned (.tuple #[leV r.1.1 (r.1.2.1 : Nat) (r.1.2.2.1 : Nat) r.1.2.2.2.1 A r.1.2.2.2.2.length c, .int .i64 r.2]) ∧ OwnB w' w.heap.size A r.1.2.2.2.2.length c r.1.2.2.2.2 ∧ Below w.heap.size w w'
abbrev zeL : Value := .agg #[.bool false, .int .i64 0, .int .i64 0, .int .u64 0, .slice none 0 0]
theorem TellsL.bad {w w' : World} (hb : Below w.heap.size w w') : TellsL w badL (.returned (.tuple #[zeL, .int .i64 3])) w' := ⟨none, 0, rfl, OwnB.nil _ _, hb⟩

theorem letTold_any (w : World) (B : Nat) (A : Option Addr) (n c : Nat) (bs : List UInt8) (h : SlB w B A n c bs) (h1 : 1 ≤ n) (h8 : n ≤ 8) :
    Calls Try.prog 20 #[.slice A n c] w fun e w' => e = .returned (.int .u64 ((getN bs : Nat) : Int)) ∧ w = w' := by
  have HG := Lib.hid (wordGet_any w B A n c bs h (by omega))
  have HS : Hid (getS bs = (getN bs, 0)) := Lib.hid (by unfold getS; rw [h.len, if_neg (by omega)])
  rw [HS.out] at HG
  clear HS h1 h8
  go_enter Try.func20, Try.ntmps20
  go_wp2_with fail
  refine HG.out.mono ?_
  rintro e w1 ⟨rfl, rfl⟩
  go_wp2_with fail
  go_ret
  exact ⟨rfl, rfl⟩

abbrev zeO : Obj := .cells #[.bool false, .int .i64 0, .int .i64 0, .int .u64 0, .slice none 0 0] 26
abbrev zeC : Array Value := #[.bool false, .int .i64 0, .int .i64 0, .int .u64 0, .slice none 0 0]
theorem five_sets {w w0 : World} {g : Nat} (hb : Below g w0 w) (u0 u1 u2 u3 u4 : Value) :
    Below g w0 (((((w.setCell ⟨g, 0, none⟩ u0).setCell ⟨g, 1, none⟩ u1).setCell ⟨g, 2, none⟩ u2).setCell ⟨g, 3, none⟩ u3).setCell ⟨g, 4, none⟩ u4) :=
  ((((hb.setCell (Nat.le_refl _) _).setCell (Nat.le_refl _) _).setCell (Nat.le_refl _) _).setCell (Nat.le_refl _) _).setCell (Nat.le_refl _) _
theorem OwnB.five {w : World} {g base n c : Nat} {A : Option Addr} {bs : List UInt8} (h : OwnB w base A n c bs) (hg : g < base) (u0 u1 u2 u3 u4 : Value) :
    OwnB (((((w.setCell ⟨g, 0, none⟩ u0).setCell ⟨g, 1, none⟩ u1).setCell ⟨g, 2, none⟩ u2).setCell ⟨g, 3, none⟩ u3).setCell ⟨g, 4, none⟩ u4) base A n c bs :=
  ownsRow_setCell_below (ownsRow_setCell_below (ownsRow_setCell_below (ownsRow_setCell_below (ownsRow_setCell_below h (by exact hg) _) (by exact hg) _) (by exact hg) _) (by exact hg) _) (by exact hg) _

set_option maxHeartbeats 3200000 in
set_option maxRecDepth 100000 in
theorem letTake_any (w : World) (B : Nat) (A : Option Addr) (n c : Nat) (bs : List UInt8) (h : SlB w B A n c bs) (hB : B ≤ w.heap.size) (hn : n ≤ 140737488355328) :
    Calls Try.prog 9 #[.slice A n c] w (TellsL w (takeL bs)) := by
  have hlen := Lib.hid h.len
  have hcap := h.cap
  by_cases h78 : n = 78
  case neg =>
    rw [takeL_len (by rw [hlen.out]; exact h78)]
    have hne : ((n : Int) != 78) = true := bne_iff_ne.2 (by omega)
    go_enter Try.func9, Try.ntmps9
    go_wp2_with fail
    refine bodyPost_ret (v := .tuple #[zeL, .int .i64 3]) (by simp [results, Try.results9, go_sem]) rfl ?_
    exact TellsL.bad ((Below.refl _ _).alloc (Nat.le_refl _) _)
  subst h78
  have EQ := Lib.hid fun w B A c A' c' h1 h2 => bytesEqual_any w B w.heap.size A A' 78 c 78 c' bs (List.replicate 78 0) h1 h2
  by_cases hz : bs = List.replicate 78 0
  · rw [takeL_cov hz]
    have HZ : Hid (decide (bs = List.replicate 78 0) = true) := Lib.hid (decide_eq_true hz)
    rw [HZ.out] at EQ
    clear hz
    go_enter Try.func9, Try.ntmps9
    go_wp2_with (at_make; refine wpList_make_b rfl _ _ rfl (w.heap.size + 1) 78 rfl rfl (by omega) (by simp) ?_; intro w1 ho1 hb1 hlt1; simp only [World.size_alloc] at ho1)
    with_reducible refine (EQ.out _ _ _ _ _ _ ((h.alloc hB _).below (hb1.mono (by simp; omega))) ho1.sl).mono ?_
    rintro e w2 ⟨rfl, rfl⟩
    have R0 := (Row.new w 26 zeC).below hb1 (by simp)
    have hbw := ((Below.refl w.heap.size w).alloc (Nat.le_refl _) zeO).trans (hb1.mono (by simp))
    have c0 := R0.cell 0
    have c1 := R0.cell 1
    have c2 := R0.cell 2
    have c3 := R0.cell 3
    have c4 := R0.cell 4
    have f0 := R0.free 0
    have f1 := R0.free 1
    have f2 := R0.free 2
    have f3 := R0.free 3
    have f4 := R0.free 4
    simp at c0 c1 c2 c3 c4
    go_wp2_with fail
    refine bodyPost_ret (v := .tuple #[.agg #[.bool true, .int .i64 0, .int .i64 0, .int .u64 0, .slice none 0 0], .int .i64 0]) (by simp [results, Try.results9, go_sem, c0, c1, c2, c3, c4, f0, f1, f2, f3, f4]) rfl ?_
    exact ⟨none, 0, rfl, OwnB.nil _ _, five_sets hbw _ _ _ _ _⟩
  have HZ : Hid (decide (bs = List.replicate 78 0) = false) := Lib.hid (decide_eq_false hz)
  rw [HZ.out] at EQ
  have U := Lib.hid fun w h => wordUnfill_any w w.heap.size (cutA A c 13 1) (78 - 13) (c - 13) (bs.drop 13) h (Nat.le_refl _) (by omega)
  rcases hu : unfillS (bs.drop 13) with ⟨tx, er⟩
  rw [hu] at U
  have h65 : 65 = (78 : Nat) - 13 := rfl
  have hcut := h.cut (l := 13) (by omega)
  obtain ⟨p, x, rfl, hpB, hcell, hx, hx256⟩ := h.at_ (k := 0) (by omega)
  have HX : Hid (bs.getD 0 0 = x) := Lib.hid (by simp [List.getD, hx])
  replace hcell : w.cell? p = some (.int .u8 (x.toNat : Int)) := hcell
  clear hx
  have hbad : (bs.getD 0 0 ≠ 1 ∨ er ≠ 0) → Hid (takeL bs = badL) := fun hh => Lib.hid (takeL_form hlen.out hz (by rw [hu]; exact hh))
  -- the way to region 6
  by_cases hx1 : x = 1
  case neg =>
    have HB := hbad (.inl (by rw [HX.out]; exact hx1))
    rw [HB.out]
    have hne : ((x.toNat : Int) != 1) = true := bne_iff_ne.2 (fun e => hx1 (UInt8.toNat_inj.1 (show x.toNat = (1 : UInt8).toNat from by have e1 : x.toNat = 1 := (by omega); rw [e1]; rfl)))
    clear hbad hz hu hx1
    go_enter Try.func9, Try.ntmps9
    go_wp2_with (at_make; refine wpList_make_b rfl _ _ rfl (w.heap.size + 1) 78 rfl rfl (by omega) (by simp) ?_; intro w1 ho1 hb1 hlt1; simp only [World.size_alloc] at ho1)
    have hs1 := (h.alloc hB zeO).below (hb1.mono (by simp; omega))
    have hcut1 := ((hcut.alloc hB zeO).below (hb1.mono (by simp; omega))).up (B' := w1.heap.size) (by have := hb1.size; simp at this; omega)
    replace hcell := cell_next hb1 (cell_lay (o := zeO) hcell)
    with_reducible refine (EQ.out _ _ _ _ _ _ hs1 ho1.sl).mono ?_
    rintro e w2 ⟨rfl, rfl⟩
    have R0 := (Row.new w 26 zeC).below hb1 (by simp)
    have hbw := ((Below.refl w.heap.size w).alloc (Nat.le_refl _) zeO).trans (hb1.mono (by simp))
    clear hb1 ho1
    go_wp2_with fail
    refine (U.out _ hcut1).mono ?_
    intro e w3 ht
    obtain ⟨A3, c3, rfl, ho3, hb3⟩ := ht.pair
    clear ht
    replace hcell := cell_next hb3 hcell
    replace R0 := R0.below hb3 R0.lt
    replace hbw := after_next hbw hb3
    have c0 := R0.cell 0
    have c1 := R0.cell 1
    have c2 := R0.cell 2
    have c3 := R0.cell 3
    have c4 := R0.cell 4
    have f0 := R0.free 0
    have f1 := R0.free 1
    have f2 := R0.free 2
    have f3 := R0.free 3
    have f4 := R0.free 4
    simp at c0 c1 c2 c3 c4
    go_wp2_with fail
    refine bodyPost_ret (v := .tuple #[zeL, .int .i64 3]) (by simp [results, Try.results9, go_sem, c0, c1, c2, c3, c4, f0, f1, f2, f3, f4]) rfl ?_
    exact TellsL.bad (five_sets hbw _ _ _ _ _)
  subst hx1
  by_cases he : er = 0
  case neg =>
    have HB := hbad (.inr he)
    rw [HB.out]
    have hne : (er != 0) = true := bne_iff_ne.2 he
    clear hbad hz hu he
    go_enter Try.func9, Try.ntmps9
    go_wp2_with (at_make; refine wpList_make_b rfl _ _ rfl (w.heap.size + 1) 78 rfl rfl (by omega) (by simp) ?_; intro w1 ho1 hb1 hlt1; simp only [World.size_alloc] at ho1)
    have hs1 := (h.alloc hB zeO).below (hb1.mono (by simp; omega))
    have hcut1 := ((hcut.alloc hB zeO).below (hb1.mono (by simp; omega))).up (B' := w1.heap.size) (by have := hb1.size; simp at this; omega)
    replace hcell := cell_next hb1 (cell_lay (o := zeO) hcell)
    with_reducible refine (EQ.out _ _ _ _ _ _ hs1 ho1.sl).mono ?_
    rintro e w2 ⟨rfl, rfl⟩
    have R0 := (Row.new w 26 zeC).below hb1 (by simp)
    have hbw := ((Below.refl w.heap.size w).alloc (Nat.le_refl _) zeO).trans (hb1.mono (by simp))
    clear hb1 ho1
    go_wp2_with fail
    refine (U.out _ hcut1).mono ?_
    intro e w3 ht
    obtain ⟨A3, c3, rfl, ho3, hb3⟩ := ht.pair
    clear ht
    replace hcell := cell_next hb3 hcell
    replace R0 := R0.below hb3 R0.lt
    replace hbw := after_next hbw hb3
    have c0 := R0.cell 0
    have c1 := R0.cell 1
    have c2 := R0.cell 2
    have c3 := R0.cell 3
    have c4 := R0.cell 4
    have f0 := R0.free 0
    have f1 := R0.free 1
    have f2 := R0.free 2
    have f3 := R0.free 3
    have f4 := R0.free 4
    simp at c0 c1 c2 c3 c4
    go_wp2_with fail
    refine bodyPost_ret (v := .tuple #[zeL, .int .i64 3]) (by simp [results, Try.results9, go_sem, c0, c1, c2, c3, c4, f0, f1, f2, f3, f4]) rfl ?_
    exact TellsL.bad (five_sets hbw _ _ _ _ _)
  subst he
  have htx : Hid (tx.length ≤ 64) := Lib.hid (body_back bs hlen.out HX.out tx hu).2
  have q1 := (h.cut (l := 1) (by omega)).take (k := 2) (m := c - 1) (by omega) (by omega)
  have q2 := (h.cut (l := 3) (by omega)).take (k := 2) (m := c - 3) (by omega) (by omega)
  have q3 := (h.cut (l := 5) (by omega)).take (k := 8) (m := c - 5) (by omega) (by omega)
  have T1 := Lib.hid fun w' (hb : Below w.heap.size w w') => letTold_any w' _ _ _ _ _ (q1.below (hb.mono hB)) (by omega) (by omega)
  have T2 := Lib.hid fun w' (hb : Below w.heap.size w w') => letTold_any w' _ _ _ _ _ (q2.below (hb.mono hB)) (by omega) (by omega)
  have T3 := Lib.hid fun w' (hb : Below w.heap.size w w') => letTold_any w' _ _ _ _ _ (q3.below (hb.mono hB)) (by omega) (by omega)
  have g1 := getN_lt ((bs.drop 1).take 2)
  have g2 := getN_lt ((bs.drop 3).take 2)
  have g3 := getN_lt ((bs.drop 5).take 8)
  have hl1 : ((bs.drop 1).take 2).length = 2 := by rw [List.length_take, List.length_drop, hlen.out]; omega
  have hl2 : ((bs.drop 3).take 2).length = 2 := by rw [List.length_take, List.length_drop, hlen.out]; omega
  have hl3 : ((bs.drop 5).take 8).length = 8 := by rw [List.length_take, List.length_drop, hlen.out]; omega
  rw [hl1] at g1
  rw [hl2] at g2
  rw [hl3] at g3
  have TK : Hid (takeL bs = if chkL false (getN ((bs.drop 1).take 2) : Nat) (getN ((bs.drop 3).take 2) : Nat) (getN ((bs.drop 5).take 8)) tx.length ≠ 0 then badL else ((false, getN ((bs.drop 1).take 2), getN ((bs.drop 3).take 2), getN ((bs.drop 5).take 8), tx), 0)) := Lib.hid (by
    unfold takeL partsL; rw [if_neg (by simpa using hlen.out), if_neg hz, hu, if_neg (by rw [HX.out]; simp)])
  generalize getN ((bs.drop 1).take 2) = fr at *
  generalize getN ((bs.drop 3).take 2) = tt at *
  generalize getN ((bs.drop 5).take 8) = sq at *
  clear hl1 hl2 hl3 q1 q2 q3 hu hbad hz
  have hwf : IntKind.i64.wrap (fr : Int) = fr := IntWalk.i64_in _ ⟨by omega, by omega⟩
  have hwt : IntKind.i64.wrap (tt : Int) = tt := IntWalk.i64_in _ ⟨by omega, by omega⟩
  go_enter Try.func9, Try.ntmps9
  go_wp2_with (at_make; refine wpList_make_b rfl _ _ rfl (w.heap.size + 1) 78 rfl rfl (by omega) (by simp) ?_; intro w1 ho1 hb1 hlt1; simp only [World.size_alloc] at ho1)
  have hs1 := (h.alloc hB zeO).below (hb1.mono (by simp; omega))
  have hcut1 := ((hcut.alloc hB zeO).below (hb1.mono (by simp; omega))).up (B' := w1.heap.size) (by have := hb1.size; simp at this; omega)
  replace hcell := cell_next hb1 (cell_lay (o := zeO) hcell)
  with_reducible refine (EQ.out _ _ _ _ _ _ hs1 ho1.sl).mono ?_
  rintro e w2 ⟨rfl, rfl⟩
  have R0 := (Row.new w 26 zeC).below hb1 (by simp)
  have hbw := ((Below.refl w.heap.size w).alloc (Nat.le_refl _) zeO).trans (hb1.mono (by simp))
  clear hb1 ho1 hs1 EQ
  go_wp2_with fail
  refine (U.out _ hcut1).mono ?_
  intro e w3 ht
  obtain ⟨A3, c3, rfl, ho3, hb3⟩ := ht.pair
  clear ht hcut1 U
  have hz3 := hb3.size
  have hz1 := R0.lt
  replace hcell := cell_next hb3 hcell
  replace R0 := R0.below hb3 R0.lt
  replace hbw := after_next hbw hb3
  clear hb3
  have ho4 := ho3.down (base' := w.heap.size + 1) (by omega)
  clear ho3
  go_wp2_with fail
  have m3 : (3 : Int) ≤ c := by omega
  have m5 : (5 : Int) ≤ c := by omega
  have m13 : (13 : Int) ≤ c := by omega
  go_region_held3 (fun w' => Below w3.heap.size w3 w') (repeat' (first | assumption | exact Below.refl _ _ | apply after_draw | apply after_lay | refine Below.setCell ?_ (by simp) _)) (first | (go_at_call 20; first | (with_reducible refine (T1.out _ (after_next hbw (by assumption))).mono ?_; rintro e w' ⟨rfl, rfl⟩) | (with_reducible refine (T2.out _ (after_next hbw (by assumption))).mono ?_; rintro e w' ⟨rfl, rfl⟩) | (with_reducible refine (T3.out _ (after_next hbw (by assumption))).mono ?_; rintro e w' ⟨rfl, rfl⟩)))
  all_goals
    have R1 : Row (w3.alloc (.cells #[.bool false, .int .i64 (fr : Int), .int .i64 (tt : Int), .int .u64 (sq : Int), .slice A3 tx.length c3] 26)).drew w3.heap.size 26 #[.bool false, .int .i64 (fr : Int), .int .i64 (tt : Int), .int .u64 (sq : Int), .slice A3 tx.length c3] := Row.new w3 _ _
    have S0 : Row (w3.alloc (.cells #[.bool false, .int .i64 (fr : Int), .int .i64 (tt : Int), .int .u64 (sq : Int), .slice A3 tx.length c3] 26)).drew w.heap.size 26 zeC := R0.alloc (.cells #[.bool false, .int .i64 (fr : Int), .int .i64 (tt : Int), .int .u64 (sq : Int), .slice A3 tx.length c3] 26)
    have ho5 : OwnB (w3.alloc (.cells #[.bool false, .int .i64 (fr : Int), .int .i64 (tt : Int), .int .u64 (sq : Int), .slice A3 tx.length c3] 26)).drew (w.heap.size + 1) A3 tx.length c3 tx := (ho4.alloc (.cells #[.bool false, .int .i64 (fr : Int), .int .i64 (tt : Int), .int .u64 (sq : Int), .slice A3 tx.length c3] 26)).drew
    have hb5 : Below w.heap.size w (w3.alloc (.cells #[.bool false, .int .i64 (fr : Int), .int .i64 (tt : Int), .int .u64 (sq : Int), .slice A3 tx.length c3] 26)).drew := after_draw (after_lay hbw (.cells #[.bool false, .int .i64 (fr : Int), .int .i64 (tt : Int), .int .u64 (sq : Int), .slice A3 tx.length c3] 26))
    have hg : w3.heap.size ≠ w.heap.size := by omega
    generalize w3.heap.size = g3 at *
    generalize (World.drew (w3.alloc (.cells #[.bool false, .int .i64 (fr : Int), .int .i64 (tt : Int), .int .u64 (sq : Int), .slice A3 tx.length c3] 26))) = w5 at *
    clear hbw ho4 hcell hz3 hz1
    have d0 := R1.cell 0
    have d1 := R1.cell 1
    have d2 := R1.cell 2
    have d3 := R1.cell 3
    have d4 := R1.cell 4
    simp at d0 d1 d2 d3 d4
    by_cases hc : chkL false (fr : Int) (tt : Int) sq tx.length = 0
    · have HC := Lib.hid hc
      rw [if_neg (by simpa using hc)] at TK
      clear hc
      go_wp2_with fail
      refine (letCheck_any _ _ _ _ _ _ _ _).mono ?_
      rw [HC.out]
      rintro e w6 ⟨rfl, hb6⟩
      replace R0 := S0.below hb6 S0.lt
      replace R1 := R1.below hb6 R1.lt
      replace ho5 := OwnB.below ho5 hb6 (Nat.le_refl _)
      replace hb5 := after_next hb5 hb6
      clear d0 d1 d2 d3 d4 S0 hb6
      have d0 := R1.cell 0
      have d1 := R1.cell 1
      have d2 := R1.cell 2
      have d3 := R1.cell 3
      have d4 := R1.cell 4
      simp at d0 d1 d2 d3 d4
      have c0 := R0.cell 0
      have c1 := R0.cell 1
      have c2 := R0.cell 2
      have c3' := R0.cell 3
      have c4 := R0.cell 4
      have f0 := R0.free 0
      have f1 := R0.free 1
      have f2 := R0.free 2
      have f3 := R0.free 3
      have f4 := R0.free 4
      simp at c0 c1 c2 c3' c4
      go_wp2_with fail
      refine bodyPost_ret (v := .tuple #[leV false (fr : Int) (tt : Int) sq A3 tx.length c3, .int .i64 0]) (by simp [results, Try.results9, go_sem, c0, c1, c2, c3', c4, f0, f1, f2, f3, f4]) rfl ?_
      rw [TK.out]
      exact ⟨A3, c3, rfl, (OwnB.five ho5 (Nat.lt_succ_self _) _ _ _ _ _).down (Nat.le_succ _), five_sets hb5 _ _ _ _ _⟩
    · have HC : Hid ((chkL false (fr : Int) (tt : Int) sq tx.length != 0) = true) := Lib.hid (by simpa using hc)
      have K := Lib.hid fun w => letCheck_any w false fr tt sq tx.length c3 A3
      rw [if_pos hc] at TK
      clear hc
      generalize chkL false (fr : Int) (tt : Int) sq tx.length = ch at *
      have HC' := HC.out
      go_wp2_with fail
      refine (K.out _).mono ?_
      rintro e w6 ⟨rfl, hb6⟩
      replace R0 := S0.below hb6 S0.lt
      replace hb5 := after_next hb5 hb6
      clear d0 d1 d2 d3 d4 S0 hb6
      have c0 := R0.cell 0
      have c1 := R0.cell 1
      have c2 := R0.cell 2
      have c3' := R0.cell 3
      have c4 := R0.cell 4
      have f0 := R0.free 0
      have f1 := R0.free 1
      have f2 := R0.free 2
      have f3 := R0.free 3
      have f4 := R0.free 4
      simp at c0 c1 c2 c3' c4
      go_wp2_with fail
      refine bodyPost_ret (v := .tuple #[zeL, .int .i64 3]) (by simp [results, Try.results9, go_sem, c0, c1, c2, c3', c4, f0, f1, f2, f3, f4]) rfl ?_
      rw [TK.out]
      exact TellsL.bad (five_sets hb5 _ _ _ _ _)
end Go.Proofs.Ytbmdmioikdbigaa
