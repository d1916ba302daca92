/- What a shuffle does to parts; few parts; whether two lists of parts are the same. -/
import Derived.Test.YtoahkaongmlfkaaPermK
import Derived.Test.YtoahkaongmlfkaaParts
namespace Go.Proofs.Ytoahkaongmlfkaa
set_option linter.unusedSimpArgs false
set_option linter.unusedVariables false
open Go.RowKit

/-- P11.3. -/
def appS (l : List Int) (xs : List (List UInt8)) : List (List UInt8) × Int := if chkP l = 0 then (if xs.length = l.length then (appL l xs, 0) else ([], 1)) else ([], chkP l)
def TellsP (w : World) (r : List (List UInt8) × Int) (e : Ending) (w' : World) : Prop :=
  ∃ A c, e = .returned (.tuple #[.slice A r.1.length c, .int .i64 r.2]) ∧ OwnP w' w.heap.size A r.1.length c r.1 ∧ Below w.heap.size w w'

theorem OwnP.belowG {w w' : World} {base n c : Nat} {A : Option Addr} {l : List (List UInt8)} (h : OwnP w base A n c l) (hg : w.grownBy w' (Value.slice none 0 0).ownBlock) : OwnP w' base A n c l := by
  obtain ⟨vs, h1, h2, h3⟩ := h
  exact ⟨vs, h1.kept hg (fun g _ e => by simp [Value.ownBlock] at e), h2, fun i bs hi => by
    obtain ⟨A', n', c', e, ho⟩ := h3 i bs hi
    exact ⟨A', n', c', e, ho.kept hg (fun g _ e => by simp [Value.ownBlock] at e)⟩⟩

set_option maxHeartbeats 800000 in
theorem apply_any (w : World) (B B' n c m g : Nat) (A A' : Option Addr) (l : List Int) (xs : List (List UInt8)) (h : SlI w B A n c l) (hx : SlP w B' A' m g xs) (hB : B ≤ w.heap.size) (hB' : B' ≤ w.heap.size) (hn : n ≤ 140737488355328) (hm : m ≤ 140737488355328)
    (hbig : ∀ bs ∈ xs, bs.length ≤ 1000000) :
    Calls Try.prog 17 #[.slice A n c, .slice A' m g] w (TellsP w (appS l xs)) := by
  have hlen := Lib.hid h.len
  have hxlen := Lib.hid hx.len
  rcases chkP_cases l with ⟨hc, hok⟩ | ⟨hc, hok⟩
  · by_cases hmn : m = n
    · subst hmn
      have HI : Hid (appS l xs = (appL l xs, 0)) := Lib.hid (by unfold appS; rw [if_pos hc, if_pos (by rw [hlen.out, hxlen.out])])
      have HC := Lib.hid hc
      have hspec := okP_spec hok
      rw [h.len] at hspec
      have hn8 := hspec.1
      have HR := Lib.hid hspec.2.1
      rw [HI.out]
      clear hc hok hspec
      have hne : ((m : Int) != m) = false := by simp
      have HBIG := Lib.hid hbig
      clear hbig
      go_enter Try.func17, Try.ntmps17
      go_wp2_with fail
      refine (permCheck_any _ _ _ _ _ _ h hB hn).mono ?_
      rw [HC.out]
      rintro e w1 ⟨rfl, hb1⟩
      go_wp2_with fail
      go_loopw [7, 22] (fun o i wr => ∃ (k c5 : Nat) (A5 : Option Addr), k ≤ m ∧ i = .int .i64 k ∧ o = .slice A5 k c5 ∧ OwnP wr w.heap.size A5 k c5 ((appL l xs).take k) ∧ Below w.heap.size w wr) (fun _ i _ => m - (intOf i).toNat)
      case atStart => exact ⟨0, 0, none, Nat.zero_le _, rfl, rfl, OwnP.nil _ _, hb1⟩
      case round =>
        obtain ⟨k, c5, A5, hk, rfl, rfl, hown, hb⟩ := hrel
        have hz := hb.size
        by_cases hlt : k < m
        · obtain ⟨p, z, rfl, hpB, hcell, hzk⟩ := (h.below (hb.mono hB)).at_ hlt
          have hzr := HR.out z (List.mem_of_getElem? hzk)
          have hat : at0 l k = z := by simp [at0, List.getD, hzk]
          obtain ⟨j, rfl⟩ := Int.eq_ofNat_of_zero_le hzr.1
          have hj : j < m := by omega
          have hji : (j : Int) < m := by omega
          obtain ⟨p', A6, n6, c6, bs, rfl, hpB', hcell', hbs, hs6⟩ := (hx.below (hb.mono hB')).at_ hj
          have hn6 : n6 ≤ 1000000 := by rw [← hs6.len]; exact HBIG.out bs (List.mem_of_getElem? hbs)
          have HNX : Hid ((appL l xs).take (k + 1) = (appL l xs).take k ++ [bs]) := Lib.hid (take_nextI (by
            rw [appL_at l xs k (by rw [hlen.out]; exact hlt), hat, Int.toNat_natCast]
            simp [List.getD, hbs]))
          clear hzk hat hbs
          go_wp2_with (first
            | (at_builtin; refine wpList_append_b rfl (.const (.slice none 0 0)) (.tmp 30) rfl w.heap.size none 0 0 [] rfl (OwnB.nil _ _) B' A6 n6 c6 bs rfl hs6 (by omega) hz ?_; intro A7 c7 w7 ho7 hg7 hb7; simp only [Nat.zero_add, List.nil_append] at ho7; have hz7 := hb7.size; replace hown := OwnP.belowG hown hg7; replace hb := hb.trans hb7)
            | (at_builtin; go_loud (refine wpList_append_p rfl (.tmp 26) (.tmp 32) rfl w.heap.size A5 k c5 _ rfl (hown.alloc (.cells #[.slice A7 n6 c7] 44)) _ (some ⟨w7.heap.size, 0, none⟩) 1 A7 n6 c7 bs rfl (Rd.one w7 _ 44) (ho7.alloc _) (by omega) (by have := hb.size; simp; omega) ?_); intro A8 c8 w8 ho8 hb8))
          go_roundw
          case rel => exact ⟨k + 1, c8, A8, by omega, by simp, rfl, ho8.cast HNX.out.symm, (after_lay hb _).trans hb8⟩
          case measure => simp [intOf]; omega
        · obtain rfl : k = m := by omega
          have HL : Hid ((appL l xs).length = k) := Lib.hid (by rw [appL_len]; exact hlen.out)
          go_wp2_with fail
          go_ret2
          rw [List.take_of_length_le (by rw [HL.out]; exact Nat.le_refl _)] at hown
          refine ⟨A5, c5, ?_, ?_, hb⟩
          · rw [HL.out]; rfl
          · rw [HL.out]; exact hown
    · have HI : Hid (appS l xs = ([], 1)) := Lib.hid (by unfold appS; rw [if_pos hc, if_neg (by rw [hlen.out, hxlen.out]; exact hmn)])
      have HC := Lib.hid hc
      rw [HI.out]
      clear hc hok
      have hne : ((m : Int) != n) = true := bne_iff_ne.2 (by omega)
      go_enter Try.func17, Try.ntmps17
      go_wp2_with fail
      refine (permCheck_any _ _ _ _ _ _ h hB hn).mono ?_
      rw [HC.out]
      rintro e w1 ⟨rfl, hb1⟩
      go_wp2_with fail
      go_ret2
      exact ⟨none, 0, rfl, OwnP.nil _ _, hb1⟩
  · have HI : Hid (appS l xs = ([], 1)) := Lib.hid (by unfold appS; rw [hc]; rfl)
    have HC := Lib.hid hc
    rw [HI.out]
    clear hc hok
    go_enter Try.func17, Try.ntmps17
    go_wp2_with fail
    refine (permCheck_any _ _ _ _ _ _ h hB hn).mono ?_
    rw [HC.out]
    rintro e w1 ⟨rfl, hb1⟩
    go_wp2_with fail
    go_ret2
    exact ⟨none, 0, rfl, OwnP.nil _ _, hb1⟩

/-- Whether parts are few, and short, enough. -/
def fewS (l : List (List UInt8)) : Bool := l.all (fun b => decide (b.length ≤ 100)) && decide (l.length ≤ 60)
theorem few_any (w : World) (B n c : Nat) (A : Option Addr) (l : List (List UInt8)) (h : SlP w B A n c l) (hn : n ≤ 9223372036854775807) :
    Calls Try.prog 14 #[.slice A n c] w fun e w' => e = .returned (.bool (fewS l)) ∧ w = w' := by
  have hlen := Lib.hid h.len
  go_enter Try.func14, Try.ntmps14
  go_wp2_with fail
  go_loop [7] (fun i => ∃ k : Nat, k ≤ n ∧ i = .int .i64 k ∧ Hid ((l.take k).all (fun b => decide (b.length ≤ 100)) = true)) (fun i => n - (intOf i).toNat)
  case atStart => exact ⟨0, Nat.zero_le _, rfl, Lib.hid (by simp)⟩
  case round =>
    obtain ⟨k, hk, rfl, HK⟩ := hrel
    by_cases hlt : k < n
    · obtain ⟨p, A', n', c', bs, rfl, _, hcell, hbs, hs⟩ := h.at_ hlt
      have HB := Lib.hid hbs
      have hbl := Lib.hid hs.len
      clear hbs
      by_cases h100 : 100 < n'
      · have HF : Hid (fewS l = false) := Lib.hid (by
          unfold fewS
          rw [Bool.and_eq_false_iff]
          left
          rw [List.all_eq_false]
          exact ⟨bs, List.mem_of_getElem? HB.out, by simp [hbl.out]; exact h100⟩)
        go_wp2_with fail
        go_ret
        exact ⟨by rw [HF.out]; rfl, rfl⟩
      · go_wp2_with fail
        go_round
        case rel =>
          refine ⟨k + 1, by omega, by simp, Lib.hid ?_⟩
          rw [take_nextI HB.out, List.all_append, HK.out]
          simp [hbl.out] <;> omega
        case measure => simp [intOf]; omega
    · obtain rfl : k = n := by omega
      have HF : Hid (fewS l = decide (k ≤ 60)) := Lib.hid (by
        have := HK.out
        rw [List.take_of_length_le (by rw [hlen.out]; exact Nat.le_refl _)] at this
        unfold fewS
        rw [this, hlen.out]
        rfl)
      by_cases h60 : k ≤ 60
      · have h60' : (k : Int) ≤ 60 := by omega
        go_wp2_with fail
        go_ret
        exact ⟨by rw [HF.out, decide_eq_true h60]; simp [h60'], rfl⟩
      · have h60' : ¬ (k : Int) ≤ 60 := by omega
        go_wp2_with fail
        go_ret
        exact ⟨by rw [HF.out, decide_eq_false h60]; simp <;> omega, rfl⟩

set_option maxHeartbeats 800000 in
theorem SameParts_any (w : World) (B B' : Nat) (A A' : Option Addr) (n c n' c' : Nat) (a b : List (List UInt8)) (ha : SlP w B A n c a) (hb : SlP w B' A' n' c' b) (hB : B ≤ w.heap.size) (hB' : B' ≤ w.heap.size) (hn : n ≤ 140737488355328) :
    Calls Try.prog 21 #[.slice A n c, .slice A' n' c'] w fun e w' => e = .returned (.bool (decide (a = b))) ∧ Below w.heap.size w w' := by
  have hla := Lib.hid ha.len
  have hlb := Lib.hid hb.len
  by_cases hne : n = n'
  · subst hne
    have hnn : ((n : Int) != n) = false := by simp
    go_enter Try.func21, Try.ntmps21
    go_wp2_with fail
    go_loopw [13] (fun i wr => ∃ k : Nat, k ≤ n ∧ i = .int .i64 k ∧ Hid (a.take k = b.take k) ∧ Below w.heap.size w wr) (fun i _ => n - (intOf i).toNat)
    case atStart => exact ⟨0, Nat.zero_le _, rfl, Lib.hid (by simp), Below.refl _ _⟩
    case round =>
      obtain ⟨k, hk, rfl, HE, hbr⟩ := hrel
      by_cases hlt : k < n
      · obtain ⟨p, Ap, np, cp, x, rfl, _, hc1, hx, hs1⟩ := (ha.below (hbr.mono hB)).at_ hlt
        obtain ⟨q, Aq, nq', cq, y, rfl, _, hc2, hy, hs2⟩ := (hb.below (hbr.mono hB')).at_ hlt
        have HX := Lib.hid hx
        have HY := Lib.hid hy
        clear hx hy
        have hki : (k : Int) < n := by omega
        have s1 := hs1.up (B' := wr.heap.size) (Nat.le_trans hB hbr.size)
        have s2 := hs2.up (B' := wr.heap.size) (Nat.le_trans hB' hbr.size)
        have SM : Hid (∀ w, Below wr.heap.size wr w → Calls Try.prog 24 #[.slice Ap np cp, .slice Aq nq' cq] w fun e w' => e = .returned (.bool (decide (x = y))) ∧ Below w.heap.size w w') := Lib.hid (fun w hb => (Same_any w _ _ _ _ _ _ _ _ _ _ (s1.below hb) (s2.below hb)).mono (fun e w' h => by
          obtain ⟨h1, h2⟩ := h
          subst h2
          exact ⟨h1, Below.refl _ _⟩))
        have k1 := hc1
        have k2 := hc2
        clear hc1 hc2 hs1 hs2 s1 s2
        by_cases hxy : x = y
        · rw [decide_eq_true hxy] at SM
          go_wp2_with fail
          refine wp_region_S (fun w' => Below wr.heap.size wr w') (by kernel_rfl) (by kernel_rfl) (by kernel_rfl) (after_draw (Below.refl _ _)) ?_
          dsimp only
          repeat (first
            | ((with_reducible show seqS _ _ _ _ ({ dst := _, op := .call { callee := .value _, args := _, argTypes := _ }, type := _, pos := _, after := _, guard := _ } :: _) _)
               refine seqS.cons (v := ?_) (YieldsS.calledE (by rfl) (fun w hS => ?_)) ?_
               rotate_left
               · refine ⟨?_, ?_, ?_, ?_⟩
                 rotate_left 2
                 · go_simp
                   constructor <;> with_reducible rfl
                 first | (with_reducible refine (SM.out w hS).mono ?_)
                 rintro e w' ⟨rfl, hb⟩
                 refine And.intro ?_ (after_next hS hb)
                 with_reducible rfl
               simp only [Act.put, List.setIfInBounds_toArray, List.set_cons_zero, List.set_cons_succ])
            | (refine seqS.cons (v := ?_) (YieldsS.pure (by rfl) (fun w hS => ?_)) ?_
               rotate_left
               · have q1 := cell_next hS k1
                 have q2 := cell_next hS k2
                 go_simp
                 with_reducible rfl
               simp only [Act.put, List.setIfInBounds_toArray, List.set_cons_zero, List.set_cons_succ])
            | (refine seqS.cons (YieldsS.idle (by rfl)) ?_
               simp only [Act.put, List.setIfInBounds_toArray, List.set_cons_zero, List.set_cons_succ]))
          refine seqS.done (fun w5 hS5 => ?_)
          go_wp2_with fail
          go_roundw
          case rel => exact ⟨k + 1, by omega, by simp, Lib.hid (by rw [take_nextI HX.out, take_nextI HY.out, HE.out, hxy]), after_next hbr hS5⟩
          case measure => simp [intOf]; omega
        · rw [decide_eq_false hxy] at SM
          have HN : Hid (decide (a = b) = false) := Lib.hid (decide_eq_false (fun e => hxy (by
            have h1 := HX.out
            rw [e, HY.out] at h1
            exact (Option.some.inj h1).symm)))
          go_wp2_with fail
          refine wp_region_S (fun w' => Below wr.heap.size wr w') (by kernel_rfl) (by kernel_rfl) (by kernel_rfl) (after_draw (Below.refl _ _)) ?_
          dsimp only
          repeat (first
            | ((with_reducible show seqS _ _ _ _ ({ dst := _, op := .call { callee := .value _, args := _, argTypes := _ }, type := _, pos := _, after := _, guard := _ } :: _) _)
               refine seqS.cons (v := ?_) (YieldsS.calledE (by rfl) (fun w hS => ?_)) ?_
               rotate_left
               · refine ⟨?_, ?_, ?_, ?_⟩
                 rotate_left 2
                 · go_simp
                   constructor <;> with_reducible rfl
                 first | (with_reducible refine (SM.out w hS).mono ?_)
                 rintro e w' ⟨rfl, hb⟩
                 refine And.intro ?_ (after_next hS hb)
                 with_reducible rfl
               simp only [Act.put, List.setIfInBounds_toArray, List.set_cons_zero, List.set_cons_succ])
            | (refine seqS.cons (v := ?_) (YieldsS.pure (by rfl) (fun w hS => ?_)) ?_
               rotate_left
               · have q1 := cell_next hS k1
                 have q2 := cell_next hS k2
                 go_simp
                 with_reducible rfl
               simp only [Act.put, List.setIfInBounds_toArray, List.set_cons_zero, List.set_cons_succ])
            | (refine seqS.cons (YieldsS.idle (by rfl)) ?_
               simp only [Act.put, List.setIfInBounds_toArray, List.set_cons_zero, List.set_cons_succ]))
          refine seqS.done (fun w5 hS5 => ?_)
          go_wp2_with fail
          go_ret
          exact ⟨by rw [HN.out]; rfl, after_next hbr hS5⟩
      · obtain rfl : k = n := by omega
        have HT : Hid (decide (a = b) = true) := Lib.hid (decide_eq_true (by
          have := HE.out
          rwa [List.take_of_length_le (by rw [hla.out]; exact Nat.le_refl _), List.take_of_length_le (by rw [hlb.out]; exact Nat.le_refl _)] at this))
        go_wp2_with fail
        go_ret
        exact ⟨by rw [HT.out]; rfl, hbr⟩
  · have hnn : ((n : Int) != n') = true := bne_iff_ne.2 (by omega)
    have HN : Hid (decide (a = b) = false) := Lib.hid (decide_eq_false (fun e => hne (by rw [← hla.out, ← hlb.out, e])))
    go_enter Try.func21, Try.ntmps21
    go_wp2_with fail
    go_ret
    exact ⟨by rw [HN.out]; rfl, Below.refl _ _⟩
end Go.Proofs.Ytoahkaongmlfkaa
