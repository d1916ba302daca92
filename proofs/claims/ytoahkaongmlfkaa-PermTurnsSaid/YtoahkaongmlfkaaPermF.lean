/- The document's answers for shuffles: which may be, their inverses, what they do to parts. -/
import Derived.Test.YtoahkaongmlfkaaPermA
namespace Go.Proofs.Ytoahkaongmlfkaa
set_option linter.unusedSimpArgs false
set_option linter.unusedVariables false
open Go.RowKit

theorem counts_ok : ∀ (n : Nat) (l : List Int), (∀ j : Nat, j < n → l.count (j : Int) = 1) → n ≤ l.length ∧ (l.length = n → (∀ z ∈ l, 0 ≤ z ∧ z < n) ∧ l.Nodup)
  | 0, l, _ => ⟨Nat.zero_le _, fun h => by rw [List.eq_nil_of_length_eq_zero h]; simp⟩
  | n + 1, l, h => by
    have hc := h n (by omega)
    have hm : (n : Int) ∈ l := List.count_pos_iff.1 (by omega)
    have h1 := counts_ok n (l.erase (n : Int)) (fun j hj => by
      rw [List.count_erase_of_ne (by omega)]
      exact h j (by omega))
    have hl := List.length_erase_of_mem hm
    have hp := List.length_pos_of_mem hm
    refine ⟨by omega, fun e => ?_⟩
    obtain ⟨h2, h3⟩ := h1.2 (by omega)
    have hper := List.perm_cons_erase hm
    have hno : ¬ (n : Int) ∈ l.erase (n : Int) := List.count_eq_zero.1 (by rw [List.count_erase_self]; omega)
    refine ⟨fun z hz => ?_, hper.nodup_iff.2 (List.nodup_cons.2 ⟨hno, h3⟩)⟩
    rcases List.mem_cons.1 (hper.mem_iff.1 hz) with rfl | hz
    · omega
    · have := h2 z hz
      omega
theorem count_good {l : List Int} (h8 : l.length ≤ 1024) (h : ∀ j : Nat, j < l.length → l.count (j : Int) = 1) : chkP l = 0 := chkP_good h8 ((counts_ok l.length l h).2 rfl)
theorem count_bad {l : List Int} {j : Nat} (hj : j < l.length) (h : l.count (j : Int) ≠ 1) : chkP l = 1 := by
  rcases chkP_cases l with ⟨_, hok⟩ | ⟨hc, _⟩
  · obtain ⟨v, hv, e⟩ := okP_all hok j hj
    have hm : (j : Int) ∈ l := e ▸ at0_mem hv
    exact absurd (by rw [List.Nodup.count (okP_spec hok).2.2, if_pos hm]) h
  · exact hc

set_option maxHeartbeats 800000 in
theorem refPermCheck_any (w : World) (B n c : Nat) (A : Option Addr) (l : List Int) (h : SlI w B A n c l) (hB : B ≤ w.heap.size) (hn : n ≤ 140737488355328) :
    Calls Try.prog 20 #[.slice A n c] w fun x w' => x = .returned (.int .i64 (chkP l)) ∧ Below w.heap.size w w' := by
  have hlen := Lib.hid h.len
  by_cases hr : 1024 < n
  · have HS : Hid (chkP l = 1) := Lib.hid (by
      unfold chkP okP
      rw [decide_eq_false (by rw [hlen.out]; omega)]
      rfl)
    go_enter Try.func20, Try.ntmps20
    go_wp2
    go_ret
    rw [HS.out]
    exact ⟨rfl, Below.refl _ _⟩
  · have h8 : n ≤ 1024 := by omega
    clear hn
    go_enter Try.func20, Try.ntmps20
    go_wp2
    go_loop [12] (fun i => ∃ k : Nat, k ≤ n ∧ i = .int .i64 k ∧ Hid (∀ j : Nat, j < k → l.count (j : Int) = 1)) (fun i => n - (intOf i).toNat)
    case atStart => exact ⟨0, Nat.zero_le _, rfl, Lib.hid (fun j hj => by omega)⟩
    case round =>
      obtain ⟨k, hk, rfl, HK⟩ := hrel
      by_cases hlt : k < n
      · have hki : (k : Int) < n := by omega
        go_wp2
        go_loop [4, 17] (fun v i => ∃ q m : Nat, q ≤ n ∧ m ≤ q ∧ i = .int .i64 q ∧ v = .int .i64 (m : Int) ∧ Hid (m = (l.take q).count (k : Int))) (fun _ i => n - (intOf i).toNat)
        case atStart => exact ⟨0, 0, Nat.zero_le _, Nat.le_refl _, rfl, rfl, Lib.hid (by simp)⟩
        case round =>
          obtain ⟨q, m, hq, hmq, rfl, rfl, HM⟩ := hrel
          by_cases hlt2 : q < n
          · obtain ⟨p, z, rfl, _, hcell, hz⟩ := h.at_ hlt2
            have HZ := Lib.hid hz
            clear hz
            have hqi : (q : Int) < n := by omega
            by_cases hzk : z = (k : Int)
            · have hb1 : (z == (k : Int)) = true := by simpa using hzk
              have HN : Hid (m + 1 = (l.take (q + 1)).count (k : Int)) := Lib.hid (by rw [take_nextI HZ.out, List.count_append, ← HM.out, hzk]; simp)
              clear hzk
              go_wp2
              go_round
              case rel => exact ⟨q + 1, m + 1, by omega, by omega, by go_num, by go_num, HN⟩
              case measure => simp [intOf]; omega
            · have hb1 : (z == (k : Int)) = false := by simpa using hzk
              have HN : Hid (m = (l.take (q + 1)).count (k : Int)) := Lib.hid (by rw [take_nextI HZ.out, List.count_append, ← HM.out, List.count_eq_zero.2 (by simpa using fun e => hzk e.symm)]; simp)
              clear hzk
              go_wp2
              go_round
              case rel => exact ⟨q + 1, m, by omega, by omega, by go_num, rfl, HN⟩
              case measure => simp [intOf]; omega
          · obtain rfl : q = n := by omega
            have HMF : Hid (m = l.count (k : Int)) := Lib.hid (by
              have := HM.out
              rwa [List.take_of_length_le (by rw [hlen.out]; exact Nat.le_refl _)] at this)
            have hqq : ¬ (q : Int) < q := by omega
            by_cases hm1 : m = 1
            · subst hm1
              go_wp2
              go_round
              case rel =>
                refine ⟨k + 1, by omega, by go_num, Lib.hid (fun j hj => ?_)⟩
                by_cases hjk : j = k
                · subst hjk; exact HMF.out.symm
                · exact HK.out j (by omega)
              case measure => simp [intOf]; omega
            · have hb1 : ((m : Int) != 1) = true := bne_iff_ne.2 (by omega)
              have HS : Hid (chkP l = 1) := Lib.hid (count_bad (j := k) (by rw [hlen.out]; exact hlt) (by rw [← HMF.out]; exact hm1))
              go_wp2
              go_ret
              rw [HS.out]
              exact ⟨rfl, Below.refl _ _⟩
      · obtain rfl : k = n := by omega
        have HS : Hid (chkP l = 0) := Lib.hid (count_good (by rw [hlen.out]; exact h8) (fun j hj => HK.out j (by rw [hlen.out] at hj; exact hj)))
        have hkk : ¬ (k : Int) < k := by omega
        go_wp2
        go_ret
        rw [HS.out]
        exact ⟨rfl, Below.refl _ _⟩

set_option maxHeartbeats 800000 in
theorem refInverse_any (w : World) (B n c : Nat) (A : Option Addr) (l : List Int) (h : SlI w B A n c l) (hB : B ≤ w.heap.size) (hn : n ≤ 140737488355328) :
    Calls Try.prog 16 #[.slice A n c] w (TellsI w (invS l)) := by
  have hlen := Lib.hid h.len
  rcases chkP_cases l with ⟨hc, hok⟩ | ⟨hc, hok⟩
  · have HI : Hid (invS l = (invL l, 0)) := Lib.hid (by unfold invS; rw [if_pos hc])
    have HC := Lib.hid hc
    have hspec := okP_spec hok
    rw [h.len] at hspec
    have hn8 := hspec.1
    have HR := Lib.hid hspec.2.1
    rw [HI.out]
    clear hc hok hspec
    go_enter Try.func16, Try.ntmps16
    go_wp2_with fail
    refine (refPermCheck_any _ _ _ _ _ _ h hB hn).mono ?_
    rw [HC.out]
    rintro e w1 ⟨rfl, hb1⟩
    have hz1 := hb1.size
    go_wp2_with (at_make; refine wpList_make_i rfl _ _ rfl w.heap.size n rfl rfl (by omega) hz1 ?_; intro w2 ho2 hb2 hlt2)
    replace hb2 := after_next hb1 hb2
    have hg : w.heap.size ≤ w1.heap.size := hz1
    generalize w1.heap.size = g at *
    go_loopw [18] (fun i wr => ∃ k : Nat, k ≤ n ∧ i = .int .i64 k ∧ OwnI wr w.heap.size (some ⟨g, 0, none⟩) n n (invA l k) ∧ Below w.heap.size w wr) (fun i _ => n - (intOf i).toNat)
    case atStart => exact ⟨0, Nat.zero_le _, rfl, ho2.cast (by unfold invA; rw [hlen.out]; rfl), hb2⟩
    case round =>
      obtain ⟨k, hk, rfl, hown, hb⟩ := hrel
      by_cases hlt : k < n
      · obtain ⟨p, z, rfl, hpB, hcell, hz⟩ := (h.below (hb.mono hB)).at_ hlt
        have hzr := HR.out z (List.mem_of_getElem? hz)
        have hat : at0 l k = z := by simp [at0, List.getD, hz]
        obtain ⟨j, rfl⟩ := Int.eq_ofNat_of_zero_le hzr.1
        have HA := Lib.hid hat
        clear hz hat
        have hj : j < n := by omega
        have hji : (j : Int) < n := by omega
        have hc := hown.cell hj
        have hf := hown.free j
        go_wp2
        go_roundw
        case rel =>
          refine ⟨k + 1, by omega, by go_num, ?_, hb.setCell (by simpa using hg) _⟩
          refine (hown.store j (k : Int)).cast ?_
          rw [invA_next, HA.out, Int.toNat_natCast]
        case measure => simp [intOf]; omega
      · obtain rfl : k = n := by omega
        have HE : Hid (invA l k = invL l) := Lib.hid (by unfold invL; rw [hlen.out])
        have HL : Hid ((invL l).length = k) := Lib.hid (by rw [invL_len]; exact hlen.out)
        go_wp2
        go_ret2
        refine ⟨some ⟨g, 0, none⟩, k, ?_, ?_, hb⟩
        · rw [HL.out]; rfl
        · rw [HL.out, ← HE.out]
          exact hown
  · have HI : Hid (invS l = ([], 1)) := Lib.hid (by unfold invS; rw [hc]; rfl)
    have HC := Lib.hid hc
    rw [HI.out]
    clear hc hok
    go_enter Try.func16, Try.ntmps16
    go_wp2_with fail
    refine (refPermCheck_any _ _ _ _ _ _ h hB hn).mono ?_
    rw [HC.out]
    rintro e w1 ⟨rfl, hb1⟩
    go_wp2_with fail
    go_ret2
    exact ⟨none, 0, rfl, OwnI.nil _ _, hb1⟩

set_option maxHeartbeats 800000 in
theorem refApply_any (w : World) (B B' n c m g : Nat) (A A' : Option Addr) (l : List Int) (xs : List (List UInt8)) (h : SlI w B A n c l) (hx : SlP w B' A' m g xs) (hB : B ≤ w.heap.size) (hB' : B' ≤ w.heap.size) (hn : n ≤ 140737488355328) (hm : m ≤ 140737488355328)
    (hbig : ∀ bs ∈ xs, bs.length ≤ 1000000) :
    Calls Try.prog 18 #[.slice A n c, .slice A' m g] w (TellsP w (appS l xs)) := by
  have hlen := Lib.hid h.len
  have hxlen := Lib.hid hx.len
  rcases chkP_cases l with ⟨hc, hok⟩ | ⟨hc, hok⟩
  · by_cases hmn : m = n
    · subst hmn
      have HI : Hid (appS l xs = (appL l xs, 0)) := Lib.hid (by unfold appS; rw [if_pos hc, if_pos (by rw [hlen.out, hxlen.out])])
      have HC := Lib.hid hc
      have hspec := okP_spec hok
      rw [h.len] at hspec
      have hn8 := hspec.1
      have HR := Lib.hid hspec.2.1
      rw [HI.out]
      clear hc hok hspec
      have hne : ((m : Int) != m) = false := by simp
      have HBIG := Lib.hid hbig
      clear hbig
      go_enter Try.func18, Try.ntmps18
      go_wp2_with fail
      refine (refPermCheck_any _ _ _ _ _ _ h hB hn).mono ?_
      rw [HC.out]
      rintro e w1 ⟨rfl, hb1⟩
      go_wp2_with fail
      go_loopw [7, 22] (fun o i wr => ∃ (k c5 : Nat) (A5 : Option Addr), k ≤ m ∧ i = .int .i64 k ∧ o = .slice A5 k c5 ∧ OwnP wr w.heap.size A5 k c5 ((appL l xs).take k) ∧ Below w.heap.size w wr) (fun _ i _ => m - (intOf i).toNat)
      case atStart => exact ⟨0, 0, none, Nat.zero_le _, rfl, rfl, OwnP.nil _ _, hb1⟩
      case round =>
        obtain ⟨k, c5, A5, hk, rfl, rfl, hown, hb⟩ := hrel
        have hz := hb.size
        by_cases hlt : k < m
        · obtain ⟨p, z, rfl, hpB, hcell, hzk⟩ := (h.below (hb.mono hB)).at_ hlt
          have hzr := HR.out z (List.mem_of_getElem? hzk)
          have hat : at0 l k = z := by simp [at0, List.getD, hzk]
          obtain ⟨j, rfl⟩ := Int.eq_ofNat_of_zero_le hzr.1
          have hj : j < m := by omega
          have hji : (j : Int) < m := by omega
          obtain ⟨p', A6, n6, c6, bs, rfl, hpB', hcell', hbs, hs6⟩ := (hx.below (hb.mono hB')).at_ hj
          have hn6 : n6 ≤ 1000000 := by rw [← hs6.len]; exact HBIG.out bs (List.mem_of_getElem? hbs)
          have HNX : Hid ((appL l xs).take (k + 1) = (appL l xs).take k ++ [bs]) := Lib.hid (take_nextI (by
            rw [appL_at l xs k (by rw [hlen.out]; exact hlt), hat, Int.toNat_natCast]
            simp [List.getD, hbs]))
          clear hzk hat hbs
          go_wp2_with (first
            | (at_builtin; refine wpList_append_b rfl (.const (.slice none 0 0)) (.tmp 30) rfl w.heap.size none 0 0 [] rfl (OwnB.nil _ _) B' A6 n6 c6 bs rfl hs6 (by omega) hz ?_; intro A7 c7 w7 ho7 hg7 hb7; simp only [Nat.zero_add, List.nil_append] at ho7; have hz7 := hb7.size; replace hown := OwnP.belowG hown hg7; replace hb := hb.trans hb7)
            | (at_builtin; go_loud (refine wpList_append_p rfl (.tmp 26) (.tmp 32) rfl w.heap.size A5 k c5 _ rfl (hown.alloc (.cells #[.slice A7 n6 c7] 44)) _ (some ⟨w7.heap.size, 0, none⟩) 1 A7 n6 c7 bs rfl (Rd.one w7 _ 44) (ho7.alloc _) (by omega) (by have := hb.size; simp; omega) ?_); intro A8 c8 w8 ho8 hb8))
          go_roundw
          case rel => exact ⟨k + 1, c8, A8, by omega, by simp, rfl, ho8.cast HNX.out.symm, (after_lay hb _).trans hb8⟩
          case measure => simp [intOf]; omega
        · obtain rfl : k = m := by omega
          have HL : Hid ((appL l xs).length = k) := Lib.hid (by rw [appL_len]; exact hlen.out)
          go_wp2_with fail
          go_ret2
          rw [List.take_of_length_le (by rw [HL.out]; exact Nat.le_refl _)] at hown
          refine ⟨A5, c5, ?_, ?_, hb⟩
          · rw [HL.out]; rfl
          · rw [HL.out]; exact hown
    · have HI : Hid (appS l xs = ([], 1)) := Lib.hid (by unfold appS; rw [if_pos hc, if_neg (by rw [hlen.out, hxlen.out]; exact hmn)])
      have HC := Lib.hid hc
      rw [HI.out]
      clear hc hok
      have hne : ((m : Int) != n) = true := bne_iff_ne.2 (by omega)
      go_enter Try.func18, Try.ntmps18
      go_wp2_with fail
      refine (refPermCheck_any _ _ _ _ _ _ h hB hn).mono ?_
      rw [HC.out]
      rintro e w1 ⟨rfl, hb1⟩
      go_wp2_with fail
      go_ret2
      exact ⟨none, 0, rfl, OwnP.nil _ _, hb1⟩
  · have HI : Hid (appS l xs = ([], 1)) := Lib.hid (by unfold appS; rw [hc]; rfl)
    have HC := Lib.hid hc
    rw [HI.out]
    clear hc hok
    go_enter Try.func18, Try.ntmps18
    go_wp2_with fail
    refine (refPermCheck_any _ _ _ _ _ _ h hB hn).mono ?_
    rw [HC.out]
    rintro e w1 ⟨rfl, hb1⟩
    go_wp2_with fail
    go_ret2
    exact ⟨none, 0, rfl, OwnP.nil _ _, hb1⟩

end Go.Proofs.Ytoahkaongmlfkaa
