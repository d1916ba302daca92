/- The contracts of package stamp: bytes taken. -/
import Derived.Test.YtknkdkheaamglaaStampP
import Derived.Test.YtknkdkheaamglaaInts
namespace Go.Proofs.Ytknkdkheaamglaa
set_option linter.unusedSimpArgs false
set_option linter.unusedVariables false
open Go.RowKit

/-- Bytes as numbers. -/
def numsOf (bs : List UInt8) : List Int := bs.map fun x => (x.toNat : Int)
theorem numsOf_len (bs : List UInt8) : (numsOf bs).length = bs.length := List.length_map _
theorem numsOf_next {bs : List UInt8} {k : Nat} {x : UInt8} (h : bs[k]? = some x) : numsOf (bs.take (k + 1)) = numsOf (bs.take k) ++ [(x.toNat : Int)] := by
  rw [take_nextI h]; unfold numsOf; rw [List.map_append]; rfl

theorem servers_any (w : World) (B : Nat) (A : Option Addr) (n c : Nat) (bs : List UInt8) (h : SlB w B A n c bs) (hB : B ≤ w.heap.size) (hn : n ≤ 1000) :
    Calls Try.prog 29 #[.slice A n c] w fun e w' => ∃ A2 c2, e = .returned (.slice A2 n c2) ∧ OwnI w' w.heap.size A2 n c2 (numsOf bs) ∧ Below w.heap.size w w' := by
  have hlen := Lib.hid h.len
  go_enter Try.func29, Try.ntmps29
  go_wp2_with fail
  go_loopw [3, 8] (fun o i wr => ∃ (k c5 : Nat) (A5 : Option Addr), k ≤ n ∧ i = .int .i64 k ∧ o = .slice A5 k c5 ∧ OwnI wr w.heap.size A5 k c5 (numsOf (bs.take k)) ∧ Below w.heap.size w wr) (fun _ i _ => n - (intOf i).toNat)
  case atStart => exact ⟨0, 0, none, Nat.zero_le _, rfl, rfl, OwnI.nil _ _, Below.refl _ _⟩
  case round =>
    obtain ⟨k, c5, A5, hk, rfl, rfl, hown, hb⟩ := hrel
    have hz := hb.size
    by_cases hlt : k < n
    · obtain ⟨p, x, rfl, _, hcell, hx, hx256⟩ := (h.below (hb.mono hB)).at_ hlt
      have HX := Lib.hid hx
      clear hx
      have hwr : IntKind.i64.wrap (x.toNat : Int) = x.toNat := IntWalk.i64_in _ ⟨by omega, by omega⟩
      go_wp2_with (at_builtin; go_loud (refine wpList_append_i rfl (.tmp 12) (.tmp 15) rfl w.heap.size A5 _ c5 _ rfl (hown.alloc (.cells #[.int .i64 (x.toNat : Int)] 3)) _ (some ⟨wr.heap.size, 0, none⟩) 1 1 [(x.toNat : Int)] rfl (SlI.laid wr #[.int .i64 (x.toNat : Int)] 3 (0, 0) _ 1 rfl rfl) (by omega) (by simp; omega) ?_); intro A6 c6 w6 hown6 hg6 hb6)
      go_roundw
      case rel => exact ⟨k + 1, c6, A6, by omega, by simp, rfl, hown6.cast (by rw [numsOf_next HX.out]), (hb.alloc (by omega) _).trans hb6⟩
      case measure => simp [intOf]; omega
    · obtain rfl : k = n := by omega
      go_wp2_with fail
      go_ret
      rw [List.take_of_length_le (by rw [hlen.out]; exact Nat.le_refl _)] at hown
      exact ⟨A5, c5, rfl, hown, hb⟩

/-- P4.2: the stamp that bytes begin with, how many of them it has, or why there is none. -/
def takeSt (bs : List UInt8) : (Nat × Nat × List Int) × Nat × Int :=
  if bs.length < 17 then ((0, 0, []), 0, 3)
  else if bs.length < 17 + (bs.getD 16 0).toNat then ((0, 0, []), 0, 3)
  else if okChain (numsOf ((bs.drop 17).take (bs.getD 16 0).toNat)) then ((getN (bs.take 8), getN ((bs.drop 8).take 8), numsOf ((bs.drop 17).take (bs.getD 16 0).toNat)), 17 + (bs.getD 16 0).toNat, 0)
  else ((0, 0, []), 0, 3)
theorem takeSt_short (bs : List UInt8) (h : bs.length < 17) : takeSt bs = ((0, 0, []), 0, 3) := by unfold takeSt; rw [if_pos h]
theorem takeSt_many (bs : List UInt8) (h1 : 17 ≤ bs.length) (h : bs.length < 17 + (bs.getD 16 0).toNat) : takeSt bs = ((0, 0, []), 0, 3) := by unfold takeSt; rw [if_neg (by omega), if_pos h]
theorem takeSt_bad (bs : List UInt8) (h1 : 17 ≤ bs.length) (h2 : 17 + (bs.getD 16 0).toNat ≤ bs.length) (h : okChain (numsOf ((bs.drop 17).take (bs.getD 16 0).toNat)) = false) : takeSt bs = ((0, 0, []), 0, 3) := by
  unfold takeSt; rw [if_neg (by omega), if_neg (by omega), h]; rfl
theorem takeSt_ok (bs : List UInt8) (h1 : 17 ≤ bs.length) (h2 : 17 + (bs.getD 16 0).toNat ≤ bs.length) (h : okChain (numsOf ((bs.drop 17).take (bs.getD 16 0).toNat)) = true) :
    takeSt bs = ((getN (bs.take 8), getN ((bs.drop 8).take 8), numsOf ((bs.drop 17).take (bs.getD 16 0).toNat)), 17 + (bs.getD 16 0).toNat, 0) := by
  unfold takeSt; rw [if_neg (by omega), if_neg (by omega), h]; rfl

def TellsSt (w : World) (r : (Nat × Nat × List Int) × Nat × Int) (e : Ending) (w' : World) : Prop :=
  ∃ A c, e = .returned (.tuple #[stV r.1.1 r.1.2.1 A r.1.2.2.length c, .int .i64 (r.2.1 : Int), .int .i64 r.2.2]) ∧ SlI w' w'.heap.size A r.1.2.2.length c r.1.2.2 ∧ Below w.heap.size w w'

theorem TellsSt.bad {w w' : World} (hb : Below w.heap.size w w') : TellsSt w ((0, 0, []), 0, 3) (.returned (.tuple #[.agg #[.int .u64 0, .int .u64 0, .slice none 0 0], .int .i64 0, .int .i64 3])) w' :=
  ⟨none, 0, rfl, SlI.none_ _ _ _ _, hb⟩

theorem stampTake_any (w : World) (B : Nat) (A : Option Addr) (n c : Nat) (bs : List UInt8) (h : SlB w B A n c bs) (hB : B ≤ w.heap.size) (hn : n ≤ 140737488355328) :
    Calls Try.prog 20 #[.slice A n c] w (TellsSt w (takeSt bs)) := by
  have hlen := Lib.hid h.len
  have hcap := h.cap
  by_cases h17 : n < 17
  · rw [takeSt_short bs (by rw [hlen.out]; exact h17)]
    go_enter Try.func20, Try.ntmps20
    go_wp2_with fail
    refine bodyPost_ret (v := .tuple #[.agg #[.int .u64 0, .int .u64 0, .slice none 0 0], .int .i64 0, .int .i64 3]) (by simp [results, Try.results20, go_sem]) rfl ?_
    exact TellsSt.bad ((Below.refl _ _).alloc (Nat.le_refl _) _)
  have G1 : Hid (getS (bs.take 8) = (getN (bs.take 8), 0)) := Lib.hid (by unfold getS; rw [List.length_take, hlen.out, if_neg (by omega)])
  have G2 : Hid (getS ((bs.drop 8).take 8) = (getN ((bs.drop 8).take 8), 0)) := Lib.hid (by unfold getS; rw [List.length_take, List.length_drop, hlen.out, if_neg (by omega)])
  obtain ⟨p, x, rfl, hpB, hcell, hx, hx256⟩ := h.at_ (k := 16) (by omega)
  have HX : Hid (bs.getD 16 0 = x) := Lib.hid (by simp [List.getD, hx])
  clear hx
  have q1 := h.take (k := 8) (m := c) (by omega) (by omega)
  have q2 := (h.cut (l := 8) (by omega)).take (k := 8) (m := c - 8) (by omega) (by omega)
  have q3 := h.cut (l := 17) (by omega)
  have P1 := Lib.hid fun o => wordGet_any (w.alloc o) _ _ _ _ _ (q1.alloc hB o) (by omega)
  have P2 := Lib.hid fun o => wordGet_any (w.alloc o) _ _ _ _ _ (q2.alloc hB o) (by omega)
  rw [G1.out] at P1
  rw [G2.out] at P2
  clear q1 q2 G1 G2
  replace hcell : w.cell? ⟨p.block, p.off + 16, none⟩ = some (.int .u8 (x.toNat : Int)) := hcell
  have kx := cell_lay (o := .cells #[.int .u64 0, .int .u64 0, .slice none 0 0] 25) hcell
  have hi16 : (16 : Int) < n := by omega
  have hi17 : (17 : Int) ≤ n := by omega
  have hwx : IntKind.i64.wrap (x.toNat : Int) = x.toNat := IntWalk.i64_in _ ⟨by omega, by omega⟩
  by_cases hm : n - 17 < x.toNat
  · rw [takeSt_many bs (by rw [hlen.out]; omega) (by rw [hlen.out, HX.out]; omega)]
    have hm' : (n : Int) - 17 < x.toNat := by omega
    go_enter Try.func20, Try.ntmps20
    go_wp2_with (go_at_call 28; first | (with_reducible refine (P1.out _).mono ?_; rintro e w1 ⟨rfl, rfl⟩) | (with_reducible refine (P2.out _).mono ?_; rintro e w2 ⟨rfl, rfl⟩))
    go_quiet (fail)
    go_wp2_with fail
    refine bodyPost_ret (v := .tuple #[.agg #[.int .u64 0, .int .u64 0, .slice none 0 0], .int .i64 0, .int .i64 3]) (by simp [results, Try.results20, go_sem]) rfl ?_
    have hb0 := ((Below.refl w.heap.size w).alloc (Nat.le_refl _) (.cells #[.int .u64 0, .int .u64 0, .slice none 0 0] 25)).trans (below_draws _ _ nq)
    exact TellsSt.bad (((hb0.setCell (Nat.le_refl _) _).setCell (Nat.le_refl _) _).setCell (Nat.le_refl _) _)
  have hm1 : x.toNat ≤ n - 17 := by omega
  have hm2 : (x.toNat : Int) ≤ (n : Int) - 17 := by omega
  have SV := Lib.hid fun o nq => servers_any ((w.alloc o).drewN nq) B _ _ _ _ (((q3.take (k := x.toNat) (m := c - 17) hm1 (by omega)).alloc hB o).drewN nq) (by simp; omega) (by omega)
  by_cases hk : okChain (numsOf ((bs.drop 17).take x.toNat)) = true
  · have HT := Lib.hid (takeSt_ok bs (by rw [hlen.out]; omega) (by rw [hlen.out, HX.out]; omega) (by rw [HX.out]; exact hk))
    rw [HX.out] at HT
    have HC : Hid (chkS (numsOf ((bs.drop 17).take x.toNat)) = 0) := Lib.hid (by unfold chkS; rw [hk]; rfl)
    have HL : Hid ((numsOf ((bs.drop 17).take x.toNat)).length = x.toNat) := Lib.hid (by rw [numsOf_len, List.length_take, List.length_drop, hlen.out]; omega)
    rw [HT.out]
    go_enter Try.func20, Try.ntmps20
    go_wp2_with (go_at_call 28; first | (with_reducible refine (P1.out _).mono ?_; rintro e w1 ⟨rfl, rfl⟩) | (with_reducible refine (P2.out _).mono ?_; rintro e w2 ⟨rfl, rfl⟩))
    go_quiet (fail)
    go_wp2_with fail
    refine (SV.out _ _).mono ?_
    rintro e w3 ⟨A3, c3, rfl, ho3, hb3⟩
    have hz3 := hb3.size
    simp at hz3
    have R0 := ((Row.new w 25 #[.int .u64 0, .int .u64 0, .slice none 0 0]).drewN nq).below hb3 (by simp)
    have hbw := (((Below.refl w.heap.size w).alloc (Nat.le_refl _) (.cells #[.int .u64 0, .int .u64 0, .slice none 0 0] 25)).trans (below_draws _ _ nq)).trans (hb3.mono (by simp))
    go_wp2_with fail
    have R1 := Row.new w3 25 #[.int .u64 ((getN (bs.take 8) : Nat) : Int), .int .u64 ((getN ((bs.drop 8).take 8) : Nat) : Int), .slice A3 x.toNat c3]
    replace R0 := R0.alloc (.cells #[.int .u64 ((getN (bs.take 8) : Nat) : Int), .int .u64 ((getN ((bs.drop 8).take 8) : Nat) : Int), .slice A3 x.toNat c3] 25)
    replace hbw := hbw.alloc hbw.size (.cells #[.int .u64 ((getN (bs.take 8) : Nat) : Int), .int .u64 ((getN ((bs.drop 8).take 8) : Nat) : Int), .slice A3 x.toNat c3] 25)
    have hs3 := ho3.sl.lay (.cells #[.int .u64 ((getN (bs.take 8) : Nat) : Int), .int .u64 ((getN ((bs.drop 8).take 8) : Nat) : Int), .slice A3 x.toNat c3] 25)
    refine (stampCheck_any _ _ _ _ _ _ _ _ hs3 (Nat.le_refl _) (by omega)).mono ?_
    rw [HC.out]
    rintro e w5 ⟨rfl, hb5⟩
    replace R0 := R0.below hb5 (by simp; omega)
    replace R1 := R1.below hb5 (by simp)
    replace hbw := after_next hbw hb5
    replace hs3 := hs3.next hb5
    have c0 := R0.cell 0
    have c1 := R0.cell 1
    have c2 := R0.cell 2
    have f0 := R0.free 0
    have f1 := R0.free 1
    have f2 := R0.free 2
    have d0 := R1.cell 0
    have d1 := R1.cell 1
    have d2 := R1.cell 2
    simp at c0 c1 c2 d0 d1 d2
    go_wp2_with fail
    refine bodyPost_ret (v := .tuple #[.agg #[.int .u64 ((getN (bs.take 8) : Nat) : Int), .int .u64 ((getN ((bs.drop 8).take 8) : Nat) : Int), .slice A3 x.toNat c3], .int .i64 (17 + (x.toNat : Int)), .int .i64 0]) (by simp [results, Try.results20, go_sem, c0, c1, c2, f0, f1, f2]) rfl ?_
    have hne : ∀ p', A3 = some p' → w.heap.size ≠ p'.block := by
      intro p' hp'
      rcases Own.block ho3 with ⟨h, _⟩ | ⟨g, h, hg, _⟩
      · rw [h] at hp'; cases hp'
      · rw [h] at hp'; cases hp'; simp at hg ⊢; omega
    refine ⟨A3, c3, ?_, ?_, ((hbw.setCell (Nat.le_refl _) _).setCell (Nat.le_refl _) _).setCell (Nat.le_refl _) _⟩
    · rw [HL.out]; simp
    · rw [HL.out]
      simp only [World.size_setCell]
      exact ((hs3.store_ne hne _).store_ne hne _).store_ne hne _
  · have hk' : okChain (numsOf ((bs.drop 17).take x.toNat)) = false := by simpa using hk
    have HT := Lib.hid (takeSt_bad bs (by rw [hlen.out]; omega) (by rw [hlen.out, HX.out]; omega) (by rw [HX.out]; exact hk'))
    have HC : Hid (chkS (numsOf ((bs.drop 17).take x.toNat)) = 1) := Lib.hid (by unfold chkS; rw [hk']; rfl)
    rw [HT.out]
    clear hk hk'
    go_enter Try.func20, Try.ntmps20
    go_wp2_with (go_at_call 28; first | (with_reducible refine (P1.out _).mono ?_; rintro e w1 ⟨rfl, rfl⟩) | (with_reducible refine (P2.out _).mono ?_; rintro e w2 ⟨rfl, rfl⟩))
    go_quiet (fail)
    go_wp2_with fail
    refine (SV.out _ _).mono ?_
    rintro e w3 ⟨A3, c3, rfl, ho3, hb3⟩
    have hz3 := hb3.size
    simp at hz3
    have R0 := ((Row.new w 25 #[.int .u64 0, .int .u64 0, .slice none 0 0]).drewN nq).below hb3 (by simp)
    have hbw := (((Below.refl w.heap.size w).alloc (Nat.le_refl _) (.cells #[.int .u64 0, .int .u64 0, .slice none 0 0] 25)).trans (below_draws _ _ nq)).trans (hb3.mono (by simp))
    go_wp2_with fail
    replace R0 := R0.alloc (.cells #[.int .u64 ((getN (bs.take 8) : Nat) : Int), .int .u64 ((getN ((bs.drop 8).take 8) : Nat) : Int), .slice A3 x.toNat c3] 25)
    replace hbw := hbw.alloc hbw.size (.cells #[.int .u64 ((getN (bs.take 8) : Nat) : Int), .int .u64 ((getN ((bs.drop 8).take 8) : Nat) : Int), .slice A3 x.toNat c3] 25)
    have hs3 := ho3.sl.lay (.cells #[.int .u64 ((getN (bs.take 8) : Nat) : Int), .int .u64 ((getN ((bs.drop 8).take 8) : Nat) : Int), .slice A3 x.toNat c3] 25)
    refine (stampCheck_any _ _ _ _ _ _ _ _ hs3 (Nat.le_refl _) (by omega)).mono ?_
    rw [HC.out]
    rintro e w5 ⟨rfl, hb5⟩
    replace R0 := R0.below hb5 (by simp; omega)
    replace hbw := after_next hbw hb5
    have c0 := R0.cell 0
    have c1 := R0.cell 1
    have c2 := R0.cell 2
    have f0 := R0.free 0
    have f1 := R0.free 1
    have f2 := R0.free 2
    simp at c0 c1 c2
    go_wp2_with fail
    refine bodyPost_ret (v := .tuple #[.agg #[.int .u64 0, .int .u64 0, .slice none 0 0], .int .i64 0, .int .i64 3]) (by simp [results, Try.results20, go_sem, c0, c1, c2, f0, f1, f2]) rfl ?_
    exact TellsSt.bad (((hbw.setCell (Nat.le_refl _) _).setCell (Nat.le_refl _) _).setCell (Nat.le_refl _) _)
end Go.Proofs.Ytknkdkheaamglaa
