/- The contracts of package letter: a body written, by the program and by the document. -/
import Derived.Test.YtbmdmioikdbigaaLet
import Derived.Test.YtbmdmioikdbigaaConcat
import Derived.Test.YtbmdmioikdbigaaWordF
import Derived.Test.YtbmdmioikdbigaaInts
import Derived.Test.YtbmdmioikdbigaaReg
namespace Go.Proofs.Ytbmdmioikdbigaa
set_option linter.unusedSimpArgs false
set_option linter.unusedVariables false
open Go.RowKit

theorem letNumber_any (w : World) (n k : Nat) (hn : n < 18446744073709551616) (h1 : 1 ≤ k) (h8 : k ≤ 8) (hk : n / 256 ^ k = 0) :
    Calls Try.prog 25 #[.int .u64 (n : Int), .int .i64 (k : Int)] w fun e w' => ∃ A c, e = .returned (.slice A k c) ∧ OwnB w' w.heap.size A k c (beB k n) ∧ Below w.heap.size w w' := by
  have HP := Lib.hid (wordPut_any w n k hn)
  have HS : Hid (putS n k = (beB k n, 0)) := Lib.hid (putS_ok n k h1 h8 hk)
  have HL := Lib.hid (beB_len k n)
  clear hn h1 h8 hk
  go_enter Try.func25, Try.ntmps25
  go_wp2_with fail
  refine HP.out.mono ?_
  rw [HS.out]
  intro e w1 ht
  obtain ⟨A, c, rfl, ho, hb⟩ := ht.pair
  clear ht
  rw [HL.out] at ho
  go_wp2_with fail
  go_ret
  rw [HL.out]
  exact ⟨A, c, rfl, ho, hb⟩

/-- P10.2: the body of a letter. -/
def fillL (bs : List UInt8) : List UInt8 := UInt8.ofNat bs.length :: bs ++ List.replicate (64 - bs.length) 0
def bodyL (f t s : Nat) (bs : List UInt8) : List UInt8 := 1 :: (beB 2 f ++ (beB 2 t ++ (beB 8 s ++ fillL bs)))
def putL (cov : Bool) (f t : Int) (s : Nat) (bs : List UInt8) : List UInt8 × Int :=
  if chkL cov f t s bs.length ≠ 0 then ([], chkL cov f t s bs.length) else if cov then (List.replicate 78 0, 0) else (bodyL f.toNat t.toNat s bs, 0)
theorem putL_bad {cov : Bool} {f t : Int} {s : Nat} {bs : List UInt8} (h : chkL cov f t s bs.length ≠ 0) : putL cov f t s bs = ([], chkL cov f t s bs.length) := by unfold putL; rw [if_pos h]
theorem putL_cov {f t : Int} {s : Nat} {bs : List UInt8} (h : chkL true f t s bs.length = 0) : putL true f t s bs = (List.replicate 78 0, 0) := by unfold putL; rw [if_neg (by simpa using h)]; rfl
theorem putL_ok {f t s : Nat} {bs : List UInt8} (h : chkL false f t s bs.length = 0) : putL false f t s bs = (bodyL f t s bs, 0) := by
  unfold putL; rw [if_neg (by simpa using h)]; simp
theorem chkL_ok {f t : Int} {s n : Nat} (h : chkL false f t s n = 0) : (0 ≤ f ∧ f ≤ 7) ∧ (0 ≤ t ∧ t ≤ 7) ∧ 1 ≤ s ∧ n ≤ 64 := by
  unfold chkL at h
  rw [if_neg (by simp)] at h
  split at h
  · simp at h
  · split at h
    · simp at h
    · omega

theorem SlP.lit5 {w : World} {t : TypeId} {g : Nat} (hg : g = w.heap.size) {A1 A2 A3 A4 A5 : Option Addr} {n1 n2 n3 n4 n5 c1 c2 c3 c4 c5 : Nat} {b1 b2 b3 b4 b5 : List UInt8} (h1 : SlB w w.heap.size A1 n1 c1 b1) (h2 : SlB w w.heap.size A2 n2 c2 b2) (h3 : SlB w w.heap.size A3 n3 c3 b3) (h4 : SlB w w.heap.size A4 n4 c4 b4) (h5 : SlB w w.heap.size A5 n5 c5 b5) :
    SlP (w.alloc (.cells #[.slice A1 n1 c1, .slice A2 n2 c2, .slice A3 n3 c3, .slice A4 n4 c4, .slice A5 n5 c5] t)) (w.alloc (.cells #[.slice A1 n1 c1, .slice A2 n2 c2, .slice A3 n3 c3, .slice A4 n4 c4, .slice A5 n5 c5] t)).heap.size (some ⟨g, 0, none⟩) 5 5 [b1, b2, b3, b4, b5] := hg ▸
  SlP.laid w _ t _ 5 rfl rfl fun i bs hi => by
    match i, hi with
    | 0, hi => injection hi with hi; subst hi; exact ⟨_, _, _, rfl, h1⟩
    | 1, hi => injection hi with hi; subst hi; exact ⟨_, _, _, rfl, h2⟩
    | 2, hi => injection hi with hi; subst hi; exact ⟨_, _, _, rfl, h3⟩
    | 3, hi => injection hi with hi; subst hi; exact ⟨_, _, _, rfl, h4⟩
    | 4, hi => injection hi with hi; subst hi; exact ⟨_, _, _, rfl, h5⟩

theorem fit_small {n k : Nat} (h : n ≤ 7) (hk : 1 ≤ k) : n / 256 ^ k = 0 := Nat.div_eq_of_lt (Nat.lt_of_lt_of_le (show n < 256 ^ 1 by omega) (Nat.pow_le_pow_right (by decide) hk))

set_option maxHeartbeats 3200000 in
set_option maxRecDepth 100000 in
theorem letPut_ok (w : World) (B : Nat) (f t s n c : Nat) (A : Option Addr) (bs : List UInt8) (h : SlB w B A n c bs) (hB : B ≤ w.heap.size) (hok : chkL false f t s n = 0) (hs : s < 18446744073709551616) :
    Calls Try.prog 13 #[leV false f t s A n c] w (TellsB w (bodyL f t s bs, 0)) := by
  have hlen := Lib.hid h.len
  have HC := Lib.hid hok
  obtain ⟨⟨_, hf⟩, ⟨_, ht⟩, h1, hn⟩ := chkL_ok hok
  have HF : Hid (fillS bs 64 = (fillL bs, 0)) := Lib.hid (fillS_ok bs 64 (by decide) (by decide) (by rw [h.len]; exact hn))
  have HL : Hid ((fillL bs).length = 65) := Lib.hid (by unfold fillL; simp [hlen.out]; omega)
  have N1 := Lib.hid fun w => letNumber_any w f 2 (by omega) (by decide) (by decide) (fit_small (by omega) (by decide))
  have N2 := Lib.hid fun w => letNumber_any w t 2 (by omega) (by decide) (by decide) (fit_small (by omega) (by decide))
  have N3 := Lib.hid fun w => letNumber_any w s 8 hs (by decide) (by decide) (Nat.div_eq_of_lt hs)
  have hwf : IntKind.u64.wrap (f : Int) = f := IntWalk.u64_in _ ⟨by omega, by omega⟩
  have hwt : IntKind.u64.wrap (t : Int) = t := IntWalk.u64_in _ ⟨by omega, by omega⟩
  have E1 : Hid (bodyL f t s bs = [[(1 : UInt8)], beB 2 f, beB 2 t, beB 8 s, fillL bs].flatten) := Lib.hid (by unfold bodyL; simp)
  have E2 : Hid ([[(1 : UInt8)], beB 2 f, beB 2 t, beB 8 s, fillL bs].flatten.length = 78) := Lib.hid (by simp [beB_len, HL.out])
  clear hok
  rw [E1.out]
  have HOK := Lib.hid (fun w' A' c' (ho : OwnB w' w.heap.size A' 78 c' [[(1 : UInt8)], beB 2 f, beB 2 t, beB 8 s, fillL bs].flatten) (hb : Below w.heap.size w w') => TellsB.ok (err := 0) ho hb)
  have HCC := Lib.hid (fun w B A hp hB => Concat_len w B A 5 5 [[(1 : UInt8)], beB 2 f, beB 2 t, beB 8 s, fillL bs] 78 hp hB (by decide) E2.out (by decide))
  generalize fillL bs = fl at *
  go_enter Try.func13, Try.ntmps13
  go_wp2_with fail
  refine (letCheck_any _ _ _ _ _ _ _ _).mono ?_
  rw [HC.out]
  rintro x w1 ⟨rfl, hb1⟩
  simp only [World.size_alloc] at hb1
  obtain ⟨R0, hbw⟩ := box1 hb1
  have k0 := R0.cell 0
  have k1 := R0.cell 1
  have k2 := R0.cell 2
  have k3 := R0.cell 3
  have k4 := R0.cell 4
  simp at k0 k1 k2 k3 k4
  have hlt := R0.lt
  clear R0 hb1
  go_wp2_with fail
  refine (wordFill_any _ _ _ _ _ _ _ (h.below (hbw.mono hB)) (Nat.le_trans hB hbw.size) (by omega)).mono ?_
  rw [HF.out]
  intro x w2 ht'
  obtain ⟨A2, c2, rfl, ho2, hb2⟩ := ht'.pair
  clear ht'
  rw [HL.out] at *
  replace k0 := cell_next hb2 k0
  replace k1 := cell_next hb2 k1
  replace k2 := cell_next hb2 k2
  replace k3 := cell_next hb2 k3
  replace hlt := Nat.lt_of_lt_of_le hlt hb2.size
  replace hbw := after_next hbw hb2
  clear k4 hb2
  have s2 := ho2.sl
  clear ho2
  go_wp2_with fail
  go_region_held3 (fun w' => w'.cell? ⟨w.heap.size, 1, none⟩ = some (.int .i64 (f : Int)) ∧ w'.cell? ⟨w.heap.size, 2, none⟩ = some (.int .i64 (t : Int)) ∧ w'.cell? ⟨w.heap.size, 3, none⟩ = some (.int .u64 (s : Int)) ∧ w.heap.size < w'.heap.size) (((repeat' apply And.intro) <;> first | (go_keep; done) | omega | (simp; omega) | (refine cell_next (by assumption) ?_; go_keep; done) | (refine Nat.lt_of_lt_of_le ?_ (Below.size (by assumption)); first | omega | (simp; omega))))
    (first | (go_at_call_of 25 (Value.int .u64 (f : Int)); refine (N1.out _).mono ?_; rintro x w3 ⟨A3, c3, rfl, ho3, hb3⟩; have q3 : w.heap.size < w3.heap.size := (by have := hb3.size; first | omega | (simp at this ⊢; omega))) | (go_at_call_of 25 (Value.int .u64 (t : Int)); refine (N2.out _).mono ?_; rintro x w4 ⟨A4, c4, rfl, ho4, hb4⟩; have q4 : w.heap.size < w4.heap.size := (by have := hb4.size; first | omega | (simp at this ⊢; omega))) | (go_at_call_of 25 (Value.int .u64 (s : Int)); refine (N3.out _).mono ?_; rintro x w5 ⟨A5, c5, rfl, ho5, hb5⟩; have q5 : w.heap.size < w5.heap.size := (by have := hb5.size; first | omega | (simp at this ⊢; omega))) | (go_at_call 24; refine (HCC.out _ _ _ ?_ (Nat.le_refl _)).mono ?_; (refine SlP.lit5 (by simp) ?_ ?_ ?_ ?_ ?_ <;> (repeat' (first | exact s2 | exact ho3.sl | exact ho4.sl | exact ho5.sl | exact SlB.laidN (by simp) rfl rfl | apply SlB.draw1 | apply SlB.lay | refine SlB.next ?_ (by assumption)))); rintro x w6 ⟨A6, c6, rfl, ho6, hb6⟩))
  all_goals
    have hbw' : Below w.heap.size w w6 := by repeat' (first | exact hbw | apply after_lay | apply after_draw | refine after_next ?_ (by assumption))
    have ho := ho6.down (base' := w.heap.size) (by have := hb6.size; have := hb5.size; have := hb4.size; have := hb3.size; simp at *; omega)
    go_wp2_with fail
    go_ret2
    exact HOK.out _ _ _ ho hbw'

theorem letPut_any (w : World) (B : Nat) (cov : Bool) (f t : Int) (s n c : Nat) (A : Option Addr) (bs : List UInt8) (h : SlB w B A n c bs) (hB : B ≤ w.heap.size) (hs : s < 18446744073709551616) :
    Calls Try.prog 13 #[leV cov f t s A n c] w (TellsB w (putL cov f t s bs)) := by
  have hlen := Lib.hid h.len
  by_cases hc : chkL cov f t s n = 0
  · rcases cov with _ | _
    · obtain ⟨⟨h0, hf⟩, ⟨h0', ht⟩, h1, hn⟩ := chkL_ok hc
      obtain ⟨f, rfl⟩ := Int.eq_ofNat_of_zero_le h0
      obtain ⟨t, rfl⟩ := Int.eq_ofNat_of_zero_le h0'
      rw [putL_ok (by rw [hlen.out]; exact hc)]
      exact letPut_ok w B f t s n c A bs h hB hc hs
    · rw [putL_cov (by rw [hlen.out]; exact hc)]
      have HC := Lib.hid hc
      clear hc
      go_enter Try.func13, Try.ntmps13
      go_wp2_with fail
      refine (letCheck_any _ _ _ _ _ _ _ _).mono ?_
      rw [HC.out]
      rintro x w1 ⟨rfl, hb1⟩
      simp only [World.size_alloc] at hb1
      obtain ⟨R0, hbw⟩ := box1 hb1
      have k0 := R0.cell 0
      simp at k0
      clear R0 hb1
      have hz := hbw.size
      go_wp2_with (at_make; refine wpList_make_b rfl _ _ rfl w.heap.size 78 rfl rfl (by omega) hz ?_; intro w2 hown2 hb2 hlt2)
      go_ret2
      exact TellsB.ok hown2 (after_next hbw hb2)
  · rw [putL_bad (by rw [hlen.out]; exact hc), hlen.out]
    have HC : Hid ((chkL cov f t s n != 0) = true) := Lib.hid (by simpa using hc)
    clear hc
    have K := Lib.hid fun w => letCheck_any w cov f t s n c A
    generalize chkL cov f t s n = ch at *
    have HC' := HC.out
    go_enter Try.func13, Try.ntmps13
    go_wp2_with fail
    refine (K.out _).mono ?_
    rintro x w1 ⟨rfl, hb1⟩
    simp only [World.size_alloc] at hb1
    obtain ⟨R0, hbw⟩ := box1 hb1
    go_wp2_with fail
    go_ret2
    exact TellsB.none_ hbw

theorem refMust_any (w : World) (n k : Nat) (hn : n < 9223372036854775808) (h1 : 1 ≤ k) (h8 : k ≤ 8) (hk : n / 256 ^ k = 0) :
    Calls Try.prog 30 #[.int .i64 (n : Int), .int .i64 (k : Int)] w fun e w' => ∃ A c, e = .returned (.slice A k c) ∧ OwnB w' w.heap.size A k c (beB k n) ∧ Below w.heap.size w w' := by
  have HP := Lib.hid (refPut_any w n k (by omega))
  have HS : Hid (putS n k = (beB k n, 0)) := Lib.hid (putS_ok n k h1 h8 hk)
  have HL := Lib.hid (beB_len k n)
  have hw : IntKind.u64.wrap (n : Int) = n := IntWalk.u64_in _ ⟨by omega, by omega⟩
  clear hn h1 h8 hk
  go_enter Try.func30, Try.ntmps30
  go_wp2_with fail
  refine HP.out.mono ?_
  rw [HS.out]
  intro e w1 ht
  obtain ⟨A, c, rfl, ho, hb⟩ := ht.pair
  clear ht
  rw [HL.out] at ho
  go_wp2_with fail
  go_ret
  rw [HL.out]
  exact ⟨A, c, rfl, ho, hb⟩

set_option maxHeartbeats 1600000 in
theorem refLetPut_ok (w : World) (B : Nat) (f t s n c : Nat) (A : Option Addr) (bs : List UInt8) (h : SlB w B A n c bs) (hB : B ≤ w.heap.size) (hok : chkL false f t s n = 0) (hs : s < 18446744073709551616) :
    Calls Try.prog 23 #[leV false f t s A n c] w (TellsB w (bodyL f t s bs, 0)) := by
  have hlen := Lib.hid h.len
  have HC := Lib.hid hok
  obtain ⟨⟨_, hf⟩, ⟨_, ht⟩, h1, hn⟩ := chkL_ok hok
  have HF : Hid (fillS bs 64 = (fillL bs, 0)) := Lib.hid (fillS_ok bs 64 (by decide) (by decide) (by rw [h.len]; exact hn))
  have HL : Hid ((fillL bs).length = 65) := Lib.hid (by unfold fillL; simp [hlen.out]; omega)
  have N1 := Lib.hid fun w => refMust_any w f 2 (by omega) (by decide) (by decide) (fit_small (by omega) (by decide))
  have N2 := Lib.hid fun w => refMust_any w t 2 (by omega) (by decide) (by decide) (fit_small (by omega) (by decide))
  have N3 : Hid (∀ w, Calls Try.prog 31 #[.int .u64 (s : Int), .int .i64 8] w (TellsB w (beB 8 s, 0))) := Lib.hid fun w => by
    have := refPut_any w s 8 hs
    rw [show (8 : Int) = ((8 : Nat) : Int) from rfl, putS_ok s 8 (by decide) (by decide) (Nat.div_eq_of_lt hs)] at this
    exact this
  have B8 : Hid ((beB 8 s).length = 8) := Lib.hid (beB_len _ _)
  have E1 : Hid (bodyL f t s bs = ((([(1 : UInt8)] ++ beB 2 f) ++ beB 2 t) ++ beB 8 s) ++ fillL bs) := Lib.hid (by unfold bodyL; simp)
  clear hok
  rw [E1.out]
  have HOK := Lib.hid (fun w' A' n' c' bs' (ho : OwnB w' w.heap.size A' n' c' bs') (hb : Below w.heap.size w w') => TellsB.ok (err := 0) ho hb)
  generalize fillL bs = fl at *
  generalize beB 8 s = b8 at *
  go_enter Try.func23, Try.ntmps23
  go_wp2_with fail
  refine (refLetCheck_any _ _ _ _ _ _ _ _).mono ?_
  rw [HC.out]
  rintro x w1 ⟨rfl, hb1⟩
  simp only [World.size_alloc] at hb1
  obtain ⟨R0, hbw⟩ := box1 hb1
  have hz := R0.lt
  have L1 := OwnB.lit (w := w1) (base := w.heap.size + 1) #[.int .u8 1] [1] 1 rfl rfl (by decide) hz
  replace R0 := R0.alloc (.cells #[.int .u8 1] 5)
  replace hbw := after_lay hbw (.cells #[.int .u8 1] 5)
  have k0 := (box1 hb1).1.cell 0
  have k1 := R0.cell 1
  simp at k0 k1
  clear hb1
  go_wp2_with fail
  refine (N1.out _).mono ?_
  rintro x w2 ⟨A2, c2, rfl, ho2, hb2⟩
  replace R0 := R0.below hb2 (by simp; omega)
  replace hbw := after_next hbw hb2
  have L2 := L1.below hb2 (Nat.le_refl _)
  clear L1 k0 k1 hb2
  have hz2 := R0.lt
  go_wp2_with (at_builtin; refine wpList_append_b rfl (.tmp 18) (.tmp 21) rfl (w.heap.size + 1) _ 1 1 [1] rfl L2 _ A2 2 c2 (beB 2 f) rfl ho2.sl (by omega) hz2 ?_; intro A3 c3 w3 ho3 hg3 hb3; replace R0 := R0.below hb3 (by omega); replace hbw := hbw.trans (hb3.mono (by omega)); clear hg3 hb3 L2 ho2 hz2; have hz3 := R0.lt; have k2 := R0.cell 2; simp at k2)
  refine (N2.out _).mono ?_
  rintro x w4 ⟨A4, c4, rfl, ho4, hb4⟩
  replace R0 := R0.below hb4 hz3
  replace hbw := after_next hbw hb4
  have L4 := OwnB.below ho3 hb4 (Nat.le_refl _)
  clear k2 hb4 ho3 hz3
  have hz4 := R0.lt
  go_wp2_with (at_builtin; refine wpList_append_b rfl (.tmp 23) (.tmp 26) rfl (w.heap.size + 1) _ _ _ _ rfl L4 _ A4 2 c4 (beB 2 t) rfl ho4.sl (by omega) hz4 ?_; intro A5 c5 w5 ho5 hg5 hb5; replace R0 := R0.below hb5 (by omega); replace hbw := hbw.trans (hb5.mono (by omega)); clear hg5 hb5 L4 ho4 hz4; have hz5 := R0.lt; have k3 := R0.cell 3; simp at k3)
  refine (N3.out _).mono ?_
  intro x w6 ht'
  obtain ⟨A6, c6, rfl, ho6, hb6⟩ := ht'.pair
  clear ht'
  rw [B8.out] at *
  replace R0 := R0.below hb6 hz5
  replace hbw := after_next hbw hb6
  have L6 := OwnB.below ho5 hb6 (Nat.le_refl _)
  clear k3 hb6 ho5 hz5
  have hz6 := R0.lt
  have k4 := R0.cell 4
  simp at k4
  go_wp2_with fail
  refine (refFill_any _ _ _ _ _ _ _ (h.below (hbw.mono hB)) (Nat.le_trans hB hbw.size) (by omega)).mono ?_
  rw [HF.out]
  intro x w7 ht'
  obtain ⟨A7, c7, rfl, ho7, hb7⟩ := ht'.pair
  clear ht'
  rw [HL.out] at *
  replace R0 := R0.below hb7 hz6
  replace hbw := after_next hbw hb7
  have L7 := OwnB.below L6 hb7 (Nat.le_refl _)
  have s6 := ho6.sl.next hb7
  have hne7 : ∀ g, A7 = some ⟨g, 0, none⟩ → (Value.slice A5 (1 + 2 + 2) c5).ownBlock ≠ some g := fun g hA => L6.notOwn (by
    rcases ho7.block with ⟨h, _⟩ | ⟨g', h, hg, _⟩
    · rw [h] at hA; cases hA
    · rw [h] at hA; cases hA; exact hg)
  clear k4 L6 ho6 hb7 hz6
  have hz7 := R0.lt
  go_wp2_with (first | (at_builtin; refine wpList_append_b rfl (.tmp 40) (.tmp 41) rfl (w.heap.size + 1) _ _ _ _ rfl L7 _ A6 8 c6 b8 rfl s6 (by omega) hz7 ?_; intro A8 c8 w8 ho8 hg8 hb8; have s7 := (OwnB.kept ho7 hg8 hne7).sl; have hz8 := hb8.size) | (at_builtin; refine wpList_append_b rfl (.tmp 42) (.tmp 43) rfl (w.heap.size + 1) _ _ _ _ rfl ho8 _ A7 65 c7 fl rfl s7 (by omega) (by omega) ?_; intro A9 c9 w9 ho9 hg9 hb9))
  go_ret2
  exact HOK.out _ _ _ _ _ (ho9.down (by omega)) ((hbw.trans (hb8.mono (by omega))).trans (hb9.mono (by omega)))

theorem refLetPut_any (w : World) (B : Nat) (cov : Bool) (f t : Int) (s n c : Nat) (A : Option Addr) (bs : List UInt8) (h : SlB w B A n c bs) (hB : B ≤ w.heap.size) (hs : s < 18446744073709551616) :
    Calls Try.prog 23 #[leV cov f t s A n c] w (TellsB w (putL cov f t s bs)) := by
  have hlen := Lib.hid h.len
  by_cases hc : chkL cov f t s n = 0
  · rcases cov with _ | _
    · obtain ⟨⟨h0, hf⟩, ⟨h0', ht⟩, h1, hn⟩ := chkL_ok hc
      obtain ⟨f, rfl⟩ := Int.eq_ofNat_of_zero_le h0
      obtain ⟨t, rfl⟩ := Int.eq_ofNat_of_zero_le h0'
      rw [putL_ok (by rw [hlen.out]; exact hc)]
      exact refLetPut_ok w B f t s n c A bs h hB hc hs
    · rw [putL_cov (by rw [hlen.out]; exact hc)]
      have HC := Lib.hid hc
      clear hc
      go_enter Try.func23, Try.ntmps23
      go_wp2_with fail
      refine (refLetCheck_any _ _ _ _ _ _ _ _).mono ?_
      rw [HC.out]
      rintro x w1 ⟨rfl, hb1⟩
      simp only [World.size_alloc] at hb1
      obtain ⟨R0, hbw⟩ := box1 hb1
      have k0 := R0.cell 0
      simp at k0
      clear R0 hb1
      have hz := hbw.size
      go_wp2_with (at_make; refine wpList_make_b rfl _ _ rfl w.heap.size 78 rfl rfl (by omega) hz ?_; intro w2 hown2 hb2 hlt2)
      go_ret2
      exact TellsB.ok hown2 (after_next hbw hb2)
  · rw [putL_bad (by rw [hlen.out]; exact hc), hlen.out]
    have HC : Hid ((chkL cov f t s n != 0) = true) := Lib.hid (by simpa using hc)
    clear hc
    have K := Lib.hid fun w => refLetCheck_any w cov f t s n c A
    generalize chkL cov f t s n = ch at *
    have HC' := HC.out
    go_enter Try.func23, Try.ntmps23
    go_wp2_with fail
    refine (K.out _).mono ?_
    rintro x w1 ⟨rfl, hb1⟩
    simp only [World.size_alloc] at hb1
    obtain ⟨R0, hbw⟩ := box1 hb1
    go_wp2_with fail
    go_ret2
    exact TellsB.none_ hbw

end Go.Proofs.Ytbmdmioikdbigaa
