/- The walk of the law PermDraws. -/
import Derived.Test.YtoahkaongmlfkaaOpenI
import Derived.Test.YtoahkaongmlfkaaPermR
namespace Go.Proofs.Ytoahkaongmlfkaa
set_option linter.unusedSimpArgs false
set_option linter.unusedVariables false
open Go.RowKit

theorem shufA_congr (ds es p : List Int) : ∀ pre : List Nat, (∀ k, k < pre.length → ∀ i ∈ pre, leftS (ds.getD k 0) (i + 1) = leftS (es.getD k 0) (i + 1)) → shufA ds p pre = shufA es p pre := by
  intro pre
  generalize hk : pre.length = n
  induction n generalizing pre with
  | zero => intro _; rw [List.eq_nil_of_length_eq_zero hk]; rfl
  | succ n ih =>
    intro h
    rcases snocN pre with rfl | ⟨r, x, rfl⟩
    · rfl
    · have hr := ih r (by simpa using hk) (fun k hk' i hi => h k (by omega) i (List.mem_append_left _ hi))
      have hrl : r.length = n := by simpa using hk
      rw [shufA_snoc, shufA_snoc, hr, (shufA_facts es p r).2, h r.length (by omega) x (List.mem_append_right _ List.mem_cons_self)]
theorem shufS_congr (ds es : List Int) (n : Nat) (h : ∀ k, k < n - 1 → ∀ i, 1 ≤ i → i < n → leftS (ds.getD k 0) (i + 1) = leftS (es.getD k 0) (i + 1)) : shufS ds n = shufS es n := by
  unfold shufS
  rw [shufA_congr ds es (idL n) (downL n) (fun k hk i hi => by
    rw [downL_len] at hk
    unfold downL at hi
    have := List.mem_range'.1 (List.mem_reverse.1 hi)
    exact h k hk i (by omega) (by omega))]
def facN : Nat → Nat
  | 0 => 1
  | k + 1 => facN k * (k + 1)
theorem facN_small : ∀ k : Nat, k < 13 → facN k ≤ 479001600 ∧ 1 ≤ facN k := by decide
theorem facN_dvd (n i : Nat) (h1 : 1 ≤ i) (h : i ≤ n) : i ∣ facN n := by
  induction n with
  | zero => omega
  | succ n ih =>
    rcases Nat.lt_or_ge n i with hlt | hge
    · obtain rfl : i = n + 1 := by omega
      exact Nat.dvd_mul_left _ _
    · exact Nat.dvd_trans (ih hge) (Nat.dvd_mul_right _ _)
theorem leftS_more (d by_ : Int) (f b : Nat) (hb : 1 ≤ b) (hd : b ∣ f) : leftS (d.tmod f + by_ * f) b = leftS d b := by
  have h2 := leftS_mod d b hb
  have hd' : (b : Int) ∣ (f : Int) := Int.natCast_dvd_natCast.2 hd
  obtain ⟨q, hq⟩ := hd'
  have h := Int.mul_tdiv_add_tmod d f
  have e : d.tmod f + by_ * f = d + (by_ * q - q * d.tdiv f) * b := by
    have e1 : d.tmod f = d - f * d.tdiv f := by omega
    rw [e1, hq, Int.sub_mul, Int.mul_assoc by_ q b, Int.mul_comm q b, Int.mul_right_comm q _ (b : Int), Int.mul_comm q (b : Int)]
    omega
  have h1 := leftS_mod (d + (by_ * q - q * d.tdiv f) * b) b hb
  rw [Int.add_mul_emod_self_right] at h1
  rw [e]
  omega

set_option maxHeartbeats 1600000 in
theorem walk_PermDraws (W : World) (v0 v1 v2 v3 : Value) (o0 : Opn W 3 v0) (o1 : Opn W 22 v1) (o2 : Opn W 22 v2) (o3 : Opn W 3 v3) :
    Calls Try.prog 8 #[v0, v1, v2, v3] W fun e w' => e = .returned (.bool true) ∧ Below W.heap.size W w' := by
  obtain ⟨n, rfl, hn0, hn1⟩ := o0.i64 Try.underlying3
  obtain ⟨A, m, c, zs, rfl, hs, hm, hz⟩ := o1.ints
  obtain ⟨A2, m2, c2, zs2, rfl, hs2, hm2, hz2⟩ := o2.ints
  obtain ⟨b, rfl, hb0, hb1⟩ := o3.i64 Try.underlying3
  clear o0 o1 o2 o3
  unfold maxLen at hm hm2
  have hcap := hs.cap
  have hcap2 := hs2.cap
  by_cases hl : n < 1 ∨ (¬ n < 1 ∧ 12 < n) ∨ (¬ n < 1 ∧ ¬ 12 < n ∧ (m : Int) < n - 1) ∨ (¬ n < 1 ∧ ¬ 12 < n ∧ ¬ (m : Int) < n - 1 ∧ 60 < m) ∨ (¬ n < 1 ∧ ¬ 12 < n ∧ ¬ (m : Int) < n - 1 ∧ ¬ 60 < m ∧ 60 < m2) ∨ (¬ n < 1 ∧ ¬ 12 < n ∧ ¬ (m : Int) < n - 1 ∧ ¬ 60 < m ∧ ¬ 60 < m2 ∧ b < 0) ∨ (¬ n < 1 ∧ ¬ 12 < n ∧ ¬ (m : Int) < n - 1 ∧ ¬ 60 < m ∧ ¬ 60 < m2 ∧ ¬ b < 0 ∧ 1000 < b)
  · rcases hl with h1 | ⟨h1, h2⟩ | ⟨h1, h2, h3⟩ | ⟨h1, h2, h3, h4⟩ | ⟨h1, h2, h3, h4, h5⟩ | ⟨h1, h2, h3, h4, h5, h6⟩ | ⟨h1, h2, h3, h4, h5, h6, h7⟩
    all_goals
      try have hw1 : IntKind.i64.wrap (n - 1) = n - 1 := IntWalk.i64_in _ ⟨by omega, by omega⟩
      go_enter Try.func8, Try.ntmps8
      go_wp2_with (go_at_call 10; refine (live11_any _).mono ?_; rintro e w1 ⟨rfl, hbw⟩)
      go_ret
      exact ⟨rfl, hbw⟩
  have h1 : ¬ n < 1 := by omega
  have h2 : ¬ 12 < n := by omega
  have h3 : ¬ (m : Int) < n - 1 := by omega
  have h4 : ¬ 60 < m := by omega
  have h5 : ¬ 60 < m2 := by omega
  have h6 : ¬ b < 0 := by omega
  have h7 : ¬ 1000 < b := by omega
  clear hl
  obtain ⟨n, rfl⟩ := Int.eq_ofNat_of_zero_le (show 0 ≤ n by omega)
  obtain ⟨b, rfl⟩ := Int.eq_ofNat_of_zero_le (show 0 ≤ b by omega)
  have hw1 : IntKind.i64.wrap ((n : Int) - 1) = ((n - 1 : Nat) : Int) := by rw [IntWalk.i64_in _ ⟨by omega, by omega⟩]; omega
  have hn13 : n ≤ 12 := by omega
  have hnn : ((n - 1 : Nat) : Int) = (n : Int) - 1 := by omega
  have hlen := Lib.hid hs.len
  have hlen2 := Lib.hid hs2.len
  obtain ⟨f, hf⟩ : ∃ f : Nat, Hid (f = facN n) := ⟨_, Lib.hid rfl⟩
  have hfb := facN_small n (by omega)
  rw [← hf.out] at hfb
  let g : Int → Int := fun z => z.tmod f + b * f
  have hg : ∀ z, g z = z.tmod f + b * f := fun z => rfl
  have hfpos : (0 : Int) < f := by omega
  have hbf : 0 ≤ (b : Int) * f ∧ (b : Int) * f ≤ 479001600000 := by
    have e1 : b * f ≤ 1000 * 479001600 := Nat.mul_le_mul (by omega) hfb.1
    have e2 : ((b * f : Nat) : Int) = (b : Int) * f := by simp
    omega
  have hgr : ∀ z, -479001600 ≤ g z ∧ g z ≤ 479001600000 + 479001600 := fun z => by
    have t1 := Int.lt_tmod_of_pos z hfpos
    have t2 := Int.tmod_lt_of_pos z hfpos
    rw [hg]
    omega
  have HG := Lib.hid hg
  have HGR := Lib.hid hgr
  have E2 : Hid (shufS (zs.map g) n = shufS zs n) := Lib.hid (shufS_congr _ _ n (fun k hk i hi1 hi2 => by
    have e : (zs.map g).getD k 0 = g (zs.getD k 0) := by
      have hk' : k < zs.length := by rw [hs.len]; omega
      simp [List.getD, hk']
    rw [e, hg]
    exact leftS_more _ _ _ _ (by omega) (by rw [hf.out]; exact facN_dvd n (i + 1) (by omega) (by omega))))
  have E3 : Hid (shufS (zs.take (n - 1) ++ zs2) n = shufS zs n) := Lib.hid (shufS_congr _ _ n (fun k hk i hi1 hi2 => by
    have e : (zs.take (n - 1) ++ zs2).getD k 0 = zs.getD k 0 := by
      have hk' : k < (zs.take (n - 1)).length := by rw [List.length_take, hs.len]; omega
      simp only [List.getD]
      rw [List.getElem?_append_left hk', List.getElem?_take, if_pos hk]
    rw [e]))
  have S1 := Lib.hid fun w (hb : Below W.heap.size W w) => shuffle_ok w _ _ _ _ _ n (hs.below hb) hb.size (by omega) hz (by omega)
  have HZ := Lib.hid hz
  have HZ2 := Lib.hid hz2
  clear hz hz2 hg hgr
  generalize g = gg at *
  go_enter Try.func8, Try.ntmps8
  go_wp2_with (go_at_call 10; refine (live11_any _).mono ?_; rintro e w1 ⟨rfl, hbw⟩)
  go_loopw [9, 57] (fun v i wr => ∃ k : Nat, k ≤ n ∧ i = .int .i64 k ∧ v = .int .i64 (facN k : Nat) ∧ Below W.heap.size W wr) (fun _ i _ => n - (intOf i).toNat)
  case atStart => exact ⟨0, Nat.zero_le _, rfl, rfl, hbw⟩
  case round =>
    clear hbw
    obtain ⟨k, hk, rfl, rfl, hbw⟩ := hrel
    by_cases hlt : k < n
    · have hfk := (facN_small (k + 1) (by omega)).1
      have hwk : IntKind.i64.wrap ((k : Int) + 1) = (k : Int) + 1 := IntWalk.i64_in _ ⟨by omega, by omega⟩
      have hmul : ((facN k : Nat) : Int) * ((k : Int) + 1) = ((facN (k + 1) : Nat) : Int) := by
        show _ = ((facN k * (k + 1) : Nat) : Int)
        simp
      have hwm : IntKind.i64.wrap (((facN k : Nat) : Int) * ((k : Int) + 1)) = ((facN (k + 1) : Nat) : Int) := by
        rw [hmul]
        exact IntWalk.i64_in _ ⟨by omega, by omega⟩
      have hki : (k : Int) < n := by omega
      clear hmul
      obtain ⟨fk1, hfk1⟩ : ∃ v, Hid (v = facN (k + 1)) := ⟨_, Lib.hid rfl⟩
      rw [← hfk1.out] at hwm hfk
      generalize facN k = fk at *
      go_wp2_with fail
      go_roundw
      case rel => exact ⟨k + 1, by omega, by simp, by rw [hfk1.out], hbw⟩
      case measure => simp [intOf]; omega
    · obtain rfl : k = n := by omega
      rw [← hf.out]
      have hkk : ¬ (k : Int) < k := by omega
      go_wp2_with fail
      generalize hwe : wr = u1 at *
      clear hwe
      go_loopw [11, 67] (fun o i wr2 => ∃ (q c5 : Nat) (A5 : Option Addr), q ≤ m ∧ i = .int .i64 q ∧ o = .slice A5 q c5 ∧ OwnI wr2 u1.heap.size A5 q c5 ((zs.take q).map gg) ∧ Below u1.heap.size u1 wr2) (fun _ i _ => m - (intOf i).toNat)
      case atStart => exact ⟨0, 0, none, Nat.zero_le _, rfl, rfl, OwnI.nil _ _, Below.refl _ _⟩
      case round =>
        obtain ⟨q, c5, A5, hq, rfl, rfl, hown, hbr⟩ := hrel
        have hsz := hbr.size
        by_cases hlt2 : q < m
        · obtain ⟨p, z, rfl, hpB, hcell, hzk⟩ := (hs.below (after_next hbw hbr)).at_ hlt2
          have HZK := Lib.hid hzk
          have t1 := Int.lt_tmod_of_pos z hfpos
          have t2 := Int.tmod_lt_of_pos z hfpos
          have hgz := HG.out z
          have wm1 : IntKind.i64.wrap (z.tmod f) = z.tmod f := IntWalk.i64_in _ ⟨by omega, by omega⟩
          have wm2 : IntKind.i64.wrap ((b : Int) * f) = (b : Int) * f := IntWalk.i64_in _ ⟨by omega, by omega⟩
          have wm3 : IntKind.i64.wrap (z.tmod f + (b : Int) * f) = gg z := by rw [hgz]; exact IntWalk.i64_in _ ⟨by omega, by omega⟩
          have hf0 : (f : Int) ≠ 0 := by omega
          have hqi : (q : Int) < m := by omega
          have HNX : Hid ((zs.take (q + 1)).map gg = (zs.take q).map gg ++ [gg z]) := Lib.hid (by rw [take_nextI HZK.out, List.map_append]; rfl)
          clear hgz hzk t1 t2
          generalize gg z = gz at *
          by_cases hsg : 0 ≤ z
          · have e8 := Int.tmod_eq_emod_of_nonneg (b := (f : Int)) hsg
            rw [e8] at wm1 wm3
            clear e8
            go_wp2_with (at_builtin; go_loud (refine wpList_append_i rfl (.tmp 71) (.tmp 79) rfl u1.heap.size A5 _ c5 _ rfl (hown.alloc (.cells #[.int .i64 gz] 3)) _ (some ⟨wr.heap.size, 0, none⟩) 1 1 [gz] rfl (SlI.laid wr #[.int .i64 gz] 3 (0, 0) _ 1 rfl rfl) (by omega) (by simp; omega) ?_); intro A6 c6 w6 hown6 hg6 hb6)
            go_roundw
            case rel => exact ⟨q + 1, c6, A6, by omega, by simp, rfl, hown6.cast HNX.out.symm, (hbr.alloc (by omega) _).trans hb6⟩
            case measure => simp [intOf]; omega
          · go_wp2_with (at_builtin; go_loud (refine wpList_append_i rfl (.tmp 71) (.tmp 79) rfl u1.heap.size A5 _ c5 _ rfl (hown.alloc (.cells #[.int .i64 gz] 3)) _ (some ⟨wr.heap.size, 0, none⟩) 1 1 [gz] rfl (SlI.laid wr #[.int .i64 gz] 3 (0, 0) _ 1 rfl rfl) (by omega) (by simp; omega) ?_); intro A6 c6 w6 hown6 hg6 hb6)
            go_roundw
            case rel => exact ⟨q + 1, c6, A6, by omega, by simp, rfl, hown6.cast HNX.out.symm, (hbr.alloc (by omega) _).trans hb6⟩
            case measure => simp [intOf]; omega
        · obtain rfl : q = m := by omega
          rw [List.take_of_length_le (by rw [hlen.out]; exact Nat.le_refl _)] at hown
          have so := hown.sl
          replace hbw := after_next hbw hbr
          have hmin : Hid (min (k - 1) q = k - 1) := Lib.hid (by omega)
          have hqq : ¬ (q : Int) < q := by omega
          go_wp2_with fail
          refine (S1.out _ hbw).mono ?_
          rintro x w3 ⟨A3, c3, rfl, ho3, hb3⟩
          rw [hmin.out]
          replace hbw := after_next hbw hb3
          replace so := so.next hb3
          have s3 := OwnI.sl ho3
          clear hb3
          go_wp2_with fail
          refine (shuffle_ok _ _ _ _ _ _ k so (Nat.le_refl _) (by omega) (fun z hz => by
            obtain ⟨y, _, rfl⟩ := List.mem_map.1 hz
            have := HGR.out y
            omega) (by omega)).mono ?_
          rw [E2.out]
          rintro x w4 ⟨A4, c4, rfl, ho4, hb4⟩
          rw [hmin.out]
          replace hbw := after_next hbw hb4
          replace s3 := s3.next hb4
          have s4 := OwnI.sl ho4
          clear hb4 so hown
          have st := (hs.below hbw).take (k := k - 1) (m := c) (by omega) (by omega)
          have hkc : ((k - 1 : Nat) : Int) ≤ c := by omega
          have hz4 := hbw.size
          clear hnn
          go_wp2_with (first
            | (at_builtin; go_loud (refine wpList_append_i rfl (.const (.slice none 0 0)) (.tmp 101) rfl w4.heap.size none 0 0 [] rfl (OwnI.nil _ _) _ A (k - 1) c (zs.take (k - 1)) rfl st (by omega) (Nat.le_refl _) ?_); intro A6 c6 w6 ho6 hg6 hb6; simp only [Nat.zero_add, List.nil_append] at ho6)
            | (at_builtin; go_loud (refine wpList_append_i rfl (.tmp 102) (.tmp 103) rfl w4.heap.size A6 _ c6 _ rfl ho6 _ A2 m2 c2 zs2 rfl (hs2.below (after_next hbw hb6)) (by omega) hb6.size ?_); intro A7 c7 w7 ho7 hg7 hb7))
          have hb47 := hb6.trans hb7
          replace hbw := after_next hbw hb47
          replace s3 := s3.next hb47
          replace s4 := s4.next hb47
          refine (shuffle_ok _ _ _ _ _ _ k ho7.sl (Nat.le_refl _) (by omega) (fun z hz => by
            rcases List.mem_append.1 hz with hz | hz
            · exact HZ.out z (List.mem_of_mem_take hz)
            · exact HZ2.out z hz) (by omega)).mono ?_
          rw [E3.out]
          rintro x w8 ⟨A8, c8, rfl, ho8, hb8⟩
          have hmin3 : min (k - 1) (k - 1 + m2) = k - 1 := by omega
          rw [hmin3]
          replace hbw := after_next hbw hb8
          replace s3 := s3.next hb8
          replace s4 := s4.next hb8
          have s8 := OwnI.sl ho8
          go_wp2_with fail
          refine (SameInts_any _ _ _ _ _ _ _ _ _ _ _ s3 s4 (by omega)).mono ?_
          rw [decide_eq_true rfl]
          rintro x w9 ⟨rfl, k9, rfl⟩
          go_wp2_with fail
          refine (SameInts_any _ _ _ _ _ _ _ _ _ _ _ (s3.drewN k9) (s8.drewN k9) (by omega)).mono ?_
          rw [decide_eq_true rfl]
          rintro x w10 ⟨rfl, k10, rfl⟩
          go_wp2_with fail
          go_ret
          exact ⟨by simp, hbw.trans (below_draws _ _ (k9 + k10))⟩
end Go.Proofs.Ytoahkaongmlfkaa
