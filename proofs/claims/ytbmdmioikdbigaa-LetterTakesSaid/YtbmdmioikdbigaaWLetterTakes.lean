/- The walk of the law LetterTakes. -/
import Derived.Test.YtbmdmioikdbigaaOpen
import Derived.Test.YtbmdmioikdbigaaLive10
import Derived.Test.YtbmdmioikdbigaaLetR
namespace Go.Proofs.Ytbmdmioikdbigaa
set_option linter.unusedSimpArgs false
set_option linter.unusedVariables false
open Go.RowKit

theorem takeL_text (bs : List UInt8) : (takeL bs).1.2.2.2.2.length ≤ 64 := by
  unfold takeL
  split
  · simp [badL]
  · split
    · simp
    · split
      · simp [badL]
      · split
        · simp [badL]
        · rename_i h
          unfold partsL
          exact (chkL_ok (by simpa using h)).2.2.2

set_option maxHeartbeats 1600000 in
theorem walk_LetterTakes (W : World) (v0 : Value) (o0 : Opn W 22 v0) :
    Calls Try.prog 3 #[v0] W fun e w' => e = .returned (.bool true) ∧ Below W.heap.size W w' := by
  obtain ⟨A, m, c, b, rfl, hs, hm⟩ := o0.bytes
  unfold maxLen at hm
  have hcap := hs.cap
  by_cases hl : 300 < m
  · go_enter Try.func3, Try.ntmps3
    go_wp2_with (go_at_call 8; refine (live10_any _).mono ?_; rintro e w1 ⟨rfl, hb1⟩)
    go_ret
    exact ⟨rfl, hb1⟩
  have T1 := Lib.hid fun w (hb : Below W.heap.size W w) => letTake_any w _ _ _ _ _ (hs.below hb) hb.size (by omega)
  have T2 := Lib.hid fun w (hb : Below W.heap.size W w) => refLetTake_any w _ _ _ _ _ (hs.below hb) hb.size (by omega)
  have hlen := takeL_text b
  generalize takeL b = r at T1 T2 hlen
  obtain ⟨⟨cov, f, t, s, tx⟩, err⟩ := r
  replace hlen : tx.length ≤ 64 := hlen
  have S1 : Hid (sameL cov f t s tx cov f t s tx = true) := Lib.hid (by unfold sameL; exact decide_eq_true ⟨rfl, rfl, rfl, rfl, rfl⟩)
  go_enter Try.func3, Try.ntmps3
  go_wp2_with (first | (go_at_call 8; refine (live10_any _).mono ?_; rintro e w1 ⟨rfl, hb1⟩) | (at_builtin; refine wpList_append_b rfl (.const (.slice none 0 0)) (.tmp 15) rfl W.heap.size none 0 0 [] rfl (OwnB.nil _ _) _ A m c b rfl (hs.below hb1) (by omega) hb1.size ?_; intro Aw cw w2 how hgw hbw; replace hbw := hb1.trans hbw))
  refine (T1.out _ hbw).mono ?_
  rintro x w3 ⟨A1, g1, rfl, ho1, hb3⟩
  replace ho1 : OwnB w3 w2.heap.size A1 tx.length g1 tx := ho1
  have hlk := Lib.hid hbw
  replace hbw := after_next hbw hb3
  go_wp2_with fail
  have R1 := Row.new w3 26 #[.bool cov, .int .i64 (f : Int), .int .i64 (t : Int), .int .u64 (s : Int), .slice A1 tx.length g1]
  replace hb3 := after_lay hb3 (.cells #[.bool cov, .int .i64 (f : Int), .int .i64 (t : Int), .int .u64 (s : Int), .slice A1 tx.length g1] 26)
  replace hbw := after_lay hbw (.cells #[.bool cov, .int .i64 (f : Int), .int .i64 (t : Int), .int .u64 (s : Int), .slice A1 tx.length g1] 26)
  have hlt1 : ∀ g, A1 = some ⟨g, 0, none⟩ → g ≠ w3.heap.size := fun g hg => by
    rcases ho1.block with ⟨h, _⟩ | ⟨g', h, _, hg'⟩
    · rw [h] at hg; cases hg
    · rw [h] at hg; cases hg; omega
  replace ho1 := ho1.alloc (.cells #[.bool cov, .int .i64 (f : Int), .int .i64 (t : Int), .int .u64 (s : Int), .slice A1 tx.length g1] 26)
  refine (T2.out _ hbw).mono ?_
  rintro x w4 ⟨A2, g2, rfl, ho2, hb4⟩
  replace ho2 : OwnB w4 _ A2 tx.length g2 tx := ho2
  replace R1 := R1.below hb4 (by simp)
  replace ho1 := OwnB.below ho1 hb4 (Nat.le_refl _)
  replace hb3 := after_next hb3 hb4
  replace hbw := after_next hbw hb4
  have c0 := R1.cell 0
  have c1 := R1.cell 1
  have c2 := R1.cell 2
  have c3 := R1.cell 3
  have c4 := R1.cell 4
  simp at c0 c1 c2 c3 c4
  replace c0 := cell_lay (o := .cells #[.bool cov, .int .i64 (f : Int), .int .i64 (t : Int), .int .u64 (s : Int), .slice A2 tx.length g2] 26) c0
  replace c1 := cell_lay (o := .cells #[.bool cov, .int .i64 (f : Int), .int .i64 (t : Int), .int .u64 (s : Int), .slice A2 tx.length g2] 26) c1
  replace c2 := cell_lay (o := .cells #[.bool cov, .int .i64 (f : Int), .int .i64 (t : Int), .int .u64 (s : Int), .slice A2 tx.length g2] 26) c2
  replace c3 := cell_lay (o := .cells #[.bool cov, .int .i64 (f : Int), .int .i64 (t : Int), .int .u64 (s : Int), .slice A2 tx.length g2] 26) c3
  replace c4 := cell_lay (o := .cells #[.bool cov, .int .i64 (f : Int), .int .i64 (t : Int), .int .u64 (s : Int), .slice A2 tx.length g2] 26) c4
  replace R1 := R1.alloc (.cells #[.bool cov, .int .i64 (f : Int), .int .i64 (t : Int), .int .u64 (s : Int), .slice A2 tx.length g2] 26)
  replace ho1 := ho1.alloc (.cells #[.bool cov, .int .i64 (f : Int), .int .i64 (t : Int), .int .u64 (s : Int), .slice A2 tx.length g2] 26)
  replace hb3 := after_lay hb3 (.cells #[.bool cov, .int .i64 (f : Int), .int .i64 (t : Int), .int .u64 (s : Int), .slice A2 tx.length g2] 26)
  replace hbw := after_lay hbw (.cells #[.bool cov, .int .i64 (f : Int), .int .i64 (t : Int), .int .u64 (s : Int), .slice A2 tx.length g2] 26)
  have s2 := ho2.sl.lay (.cells #[.bool cov, .int .i64 (f : Int), .int .i64 (t : Int), .int .u64 (s : Int), .slice A2 tx.length g2] 26)
  go_wp2_with fail
  refine (refLetSame_any _ _ _ _ _ _ _ _ _ _ _ _ _ _ _ _ _ _ _ ho1.sl s2 (Nat.le_refl _) (Nat.le_refl _)).mono ?_
  rw [S1.out]
  rintro x w6 ⟨rfl, hb6⟩
  replace R1 := R1.below hb6 R1.lt
  replace ho1 := OwnB.below ho1 hb6 (Nat.le_refl _)
  replace hb3 := after_next hb3 hb6
  replace hbw := after_next hbw hb6
  clear c0 c1 c2 c3 c4 hb4 hb6 s2 ho2 T1 T2
  have c4 := R1.cell 4
  simp at c4
  have sw := how.sl
  simp only [Nat.zero_add, List.nil_append] at sw
  generalize w3.heap.size = gl at *
  go_wp2_with fail
  go_loopw [38] (fun i wr => ∃ (k : Nat) (xs : List UInt8), k ≤ tx.length ∧ i = .int .i64 k ∧ Row wr gl 26 #[.bool cov, .int .i64 (f : Int), .int .i64 (t : Int), .int .u64 (s : Int), .slice A1 tx.length g1] ∧ OwnB wr w2.heap.size A1 tx.length g1 xs ∧ Below w2.heap.size w2 wr) (fun i _ => tx.length - (intOf i).toNat)
  case atStart => exact ⟨0, tx, Nat.zero_le _, rfl, R1, ho1, hb3⟩
  case round =>
    obtain ⟨k, xs, hk, rfl, RR, hown, hbr⟩ := hrel
    by_cases hlt : k < tx.length
    · obtain ⟨ga, rfl, hga, _⟩ := hown.head (by omega)
      have hne := hlt1 ga rfl
      obtain ⟨y, hyc, _, hy256⟩ := hown.cell hlt
      have hyf := hown.free k
      have e4 := RR.cell 4
      simp at e4
      go_wp2_with fail
      go_roundw
      case rel => exact ⟨k + 1, _, by omega, by simp, RR.far (fun h => hne h.symm) _, hown.store k (x := UInt8.ofNat (y.toNat + 1)) (by rw [bv_ofNat]; simp), hbr.setCell hga _⟩
      case measure => simp [intOf]; omega
    · obtain rfl : k = tx.length := by omega
      go_wp2_with fail
      refine (Same_any _ _ _ _ _ _ _ _ _ _ _ (hs.below (after_next hlk.out hbr)) (sw.below hbr)).mono ?_
      rw [decide_eq_true rfl]
      rintro e w7 ⟨rfl, rfl⟩
      go_wp2_with fail
      go_ret
      exact ⟨by simp, after_next hlk.out hbr⟩
end Go.Proofs.Ytbmdmioikdbigaa
