/- The document's shuffle by draws. -/
import Derived.Test.YtoahkaongmlfkaaPermK
import Derived.Deep.RegionHeld3
namespace Go.Proofs.Ytoahkaongmlfkaa
set_option linter.unusedSimpArgs false
set_option linter.unusedVariables false
open Go Go.RowKit

theorem leftS_mod (d : Int) (b : Nat) (hb : 1 ≤ b) : ((leftS d b : Nat) : Int) = d % (b : Int) := by
  obtain ⟨e1, e2, e3, e4⟩ := leftS_val d b hb
  rw [e1, Int.tmod_eq_emod_of_nonneg (by omega), Int.add_emod_right]
  have h := Int.mul_tdiv_add_tmod d b
  have e : d.tmod b = d - b * d.tdiv b := by omega
  rw [e, Int.sub_mul_emod_self_left]
theorem shufA_next (ds : List Int) (n k : Nat) (h : k < n - 1) : (shufA ds (idL n) ((downL n).take (k + 1))).1 = swapL (shufA ds (idL n) ((downL n).take k)).1 (n - 1 - k) (leftS (ds.getD k 0) (n - 1 - k + 1)) := by
  have e : (downL n).take (k + 1) = (downL n).take k ++ [n - 1 - k] := by
    rw [List.take_add_one, downL_get n k h]; rfl
  have hl : ((downL n).take k).length = k := by rw [List.length_take, downL_len]; omega
  rw [e, shufA_snoc, (shufA_facts ds (idL n) ((downL n).take k)).2, hl]
theorem shufA_lenT (ds : List Int) (n k : Nat) : (shufA ds (idL n) ((downL n).take k)).1.length = n := by rw [(shufA_facts _ _ _).1, idL_len]

set_option maxHeartbeats 1600000 in
set_option maxRecDepth 100000 in
theorem refShuffle_ok (w : World) (B : Nat) (A : Option Addr) (m c : Nat) (zs : List Int) (n : Nat) (h : SlI w B A m c zs) (hB : B ≤ w.heap.size) (hm : m ≤ 140737488355328) (hz : ∀ z ∈ zs, -9223372036854775808 ≤ z ∧ z ≤ 9223372036854775807) (hn : n ≤ 1024) :
    Calls Try.prog 12 #[.int .i64 (n : Int), .slice A m c] w fun e w' => ∃ A' c', e = .returned (.tuple #[.slice A' n c', .int .i64 ((min (n - 1) m : Nat) : Int), .int .i64 0]) ∧ OwnI w' w.heap.size A' n c' (shufS zs n) ∧ Below w.heap.size w w' := by
  have hlen := Lib.hid h.len
  have hn0 : ¬ (n : Int) < 0 := by omega
  have hn1 : ¬ (n : Int) > 1024 := by omega
  have hwn : IntKind.i64.wrap ((n : Int) - 1) = (n : Int) - 1 := IntWalk.i64_in _ ⟨by omega, by omega⟩
  go_enter Try.func12, Try.ntmps12
  go_wp2_with fail
  go_loopw [7, 20] (fun o i wr => ∃ (k c5 : Nat) (A5 : Option Addr), k ≤ n ∧ i = .int .i64 k ∧ o = .slice A5 k c5 ∧ OwnI wr w.heap.size A5 k c5 (idL k) ∧ Below w.heap.size w wr) (fun _ i _ => n - (intOf i).toNat)
  case atStart => exact ⟨0, 0, none, Nat.zero_le _, rfl, rfl, OwnI.nil _ _, Below.refl _ _⟩
  case round =>
    obtain ⟨k, c5, A5, hk, rfl, rfl, hown, hb⟩ := hrel
    have hsz := hb.size
    by_cases hlt : k < n
    · have hki : (k : Int) < n := by omega
      go_wp2_with (at_builtin; go_loud (refine wpList_append_i rfl (.tmp 23) (.tmp 25) rfl w.heap.size A5 _ c5 _ rfl (hown.alloc (.cells #[.int .i64 (k : Int)] 3)) _ (some ⟨wr.heap.size, 0, none⟩) 1 1 [(k : Int)] rfl (SlI.laid wr #[.int .i64 (k : Int)] 3 (0, 0) _ 1 rfl rfl) (by omega) (by simp; omega) ?_); intro A6 c6 w6 hown6 hg6 hb6)
      go_roundw
      case rel => exact ⟨k + 1, c6, A6, by omega, by simp, rfl, hown6.cast (idL_next k).symm, (hb.alloc (by omega) _).trans hb6⟩
      case measure => simp [intOf]; omega
    · obtain rfl : k = n := by omega
      have hkk : ¬ (k : Int) < k := by omega
      go_wp2_with fail
      go_loopw [9, 10] (fun u i wr => ∃ q : Nat, q ≤ k - 1 ∧ i = .int .i64 ((k : Int) - 1 - q) ∧ u = .int .i64 ((min q m : Nat) : Int) ∧ OwnI wr w.heap.size A5 k c5 (shufA zs (idL k) ((downL k).take q)).1 ∧ Below w.heap.size w wr) (fun _ i _ => (intOf i).toNat)
      case atStart => exact ⟨0, Nat.zero_le _, by simp, by simp, hown.cast (by simp [shufA]), hb⟩
      case round =>
        rename_i wr2
        obtain ⟨q, hq, rfl, rfl, hownq, hbq⟩ := hrel
        by_cases hlt2 : q < k - 1
        · have hst := shufA_next zs k q hlt2
          have hxl := shufA_lenT zs k q
          obtain ⟨i, hi⟩ : ∃ i : Nat, i = k - 1 - q := ⟨_, rfl⟩
          rw [← hi] at hst
          have hie : (k : Int) - 1 - q = (i : Int) := by omega
          rw [hie]
          have HST := Lib.hid hst
          clear hst
          generalize (shufA zs (idL k) ((downL k).take q)).1 = xs at *
          have hi1 : 1 ≤ i := by omega
          have hi2 : i < k := by omega
          have hnext := Lib.hid (show (k : Int) - 1 - ((q + 1 : Nat) : Int) = (i : Int) - 1 from by omega)
          clear hi hie
          have ge1 : (i : Int) ≥ 1 := by omega
          have hii : (i : Int) < k := by omega
          obtain ⟨g, rfl⟩ : ∃ g, A5 = some ⟨g, 0, none⟩ := by
            rcases Own.block hownq with ⟨_, h, _⟩ | ⟨g, h, _⟩
            · omega
            · exact ⟨g, h⟩
          have hgb : w.heap.size ≤ g := by
            rcases Own.block hownq with ⟨h, _⟩ | ⟨g', h, hg, _⟩
            · cases h
            · cases h; exact hg
          have hwi : IntKind.i64.wrap ((i : Int) + 1) = (i : Int) + 1 := IntWalk.i64_in _ ⟨by omega, by omega⟩
          have hwi2 : IntKind.i64.wrap ((i : Int) - 1) = (i : Int) - 1 := IntWalk.i64_in _ ⟨by omega, by omega⟩
          have hne0 : ((i : Int) + 1) ≠ 0 := by omega
          by_cases hmm : q < m
          · have hmin : min q m = q := by omega
            rw [hmin]
            obtain ⟨p, z, rfl, hpb, hcell, hzk⟩ := (h.below (hbq.mono hB)).at_ hmm
            have hzv : zs.getD q 0 = z := by simp [List.getD, hzk]
            have hzr := hz z (List.mem_of_getElem? hzk)
            have hmi : (q : Int) < m := by omega
            have hwq : IntKind.i64.wrap ((q : Int) + 1) = (q : Int) + 1 := IntWalk.i64_in _ ⟨by omega, by omega⟩
            obtain ⟨e1, e2, e3, e4⟩ := leftS_val z (i + 1) (by omega)
            rw [hzv] at HST
            rw [Int.natCast_add] at e1 e3 e4
            simp only [Int.natCast_one] at e1 e3 e4
            generalize leftS z (i + 1) = j at *
            have hj : j < k := by omega
            have hjj : (j : Int) < k := by omega
            have hx1 : z.tmod ((i : Int) + 1) + i + 1 = z.tmod ((i : Int) + 1) + ((i : Int) + 1) := by omega
            have wr1 : IntKind.i64.wrap (z.tmod ((i : Int) + 1)) = z.tmod ((i : Int) + 1) := IntWalk.i64_in _ ⟨by omega, by omega⟩
            have wr2' : IntKind.i64.wrap (z.tmod ((i : Int) + 1) + i) = z.tmod ((i : Int) + 1) + i := IntWalk.i64_in _ ⟨by omega, by omega⟩
            have wr3 : IntKind.i64.wrap (z.tmod ((i : Int) + 1) + i + 1) = z.tmod ((i : Int) + 1) + i + 1 := IntWalk.i64_in _ ⟨by omega, by omega⟩
            have e6 : (z.tmod ((i : Int) + 1) + i + 1) % ((i : Int) + 1) = (j : Int) := by rw [hx1, ← Int.tmod_eq_emod_of_nonneg (by omega), ← e1]
            have e7 : (z.tmod ((i : Int) + 1) + i + 1).tmod ((i : Int) + 1) = (j : Int) := by rw [hx1, ← e1]
            have wr4 : IntKind.i64.wrap (j : Int) = (j : Int) := IntWalk.i64_in _ ⟨by omega, by omega⟩
            clear hzv hzk e1 hx1
            obtain ⟨xi, hxi⟩ : ∃ v, Hid (xs.getD i 0 = v) := ⟨_, Lib.hid rfl⟩
            obtain ⟨xj, hxj⟩ : ∃ v, Hid (xs.getD j 0 = v) := ⟨_, Lib.hid rfl⟩
            have HSW : Hid (swapL xs i j = (xs.set i xj).set j xi) := Lib.hid (by unfold swapL; rw [hxi.out, hxj.out])
            by_cases hsg : 0 ≤ z
            · have e8 := Int.tmod_eq_emod_of_nonneg (b := (i : Int) + 1) hsg
              rw [e8] at wr1 wr2' wr3 e6 e7
              go_wp2_with fail
              have ci := hownq.cell (j := i) (by omega)
              have cj := hownq.cell (j := j) (by omega)
              rw [hxi.out] at ci
              rw [hxj.out] at cj
              have fi := hownq.free i
              have fj := hownq.free j
              refine wp_region_held_drew (S := fun _ => True) (by kernel_rfl) trivial (fun hS => ?_)
              refine wpAnyH_take (i := 0) (v := ?_) rfl (by kernel_rfl) (by kernel_rfl) (by kernel_rfl) (fun _ _ _ h => h) (Or.inl ⟨by rfl, ?_⟩) (by assumption) ?_
              rotate_left
              · intro w' hS'
                go_simp
                try with_reducible rfl
              simp only [Act.put, List.setIfInBounds_toArray, List.set_cons_zero, List.set_cons_succ]
              refine wpAnyH_take (i := 1) (v := ?_) rfl (by kernel_rfl) (by kernel_rfl) (by kernel_rfl) (fun _ _ _ h => h) (Or.inl ⟨by rfl, ?_⟩) (by assumption) ?_
              rotate_left
              · intro w' hS'
                go_simp
                try with_reducible rfl
              simp only [Act.put, List.setIfInBounds_toArray, List.set_cons_zero, List.set_cons_succ]
              refine wpAnyH_take (i := 2) (v := ?_) rfl (by kernel_rfl) (by kernel_rfl) (by kernel_rfl) (fun _ _ _ h => h) (Or.inl ⟨by rfl, ?_⟩) (by assumption) ?_
              rotate_left
              · intro w' hS'
                go_simp
                try with_reducible rfl
              simp only [Act.put, List.setIfInBounds_toArray, List.set_cons_zero, List.set_cons_succ]
              refine wpAnyH_take (i := 3) (v := ?_) rfl (by kernel_rfl) (by kernel_rfl) (by kernel_rfl) (fun _ _ _ h => h) (Or.inl ⟨by rfl, ?_⟩) (by assumption) ?_
              rotate_left
              · intro w' hS'
                go_simp
                try with_reducible rfl
              simp only [Act.put, List.setIfInBounds_toArray, List.set_cons_zero, List.set_cons_succ]
              refine wpAnyH_take (i := 4) (v := ?_) rfl (by kernel_rfl) (by kernel_rfl) (by kernel_rfl) (fun _ _ _ h => h) (Or.inl ⟨by rfl, ?_⟩) (by assumption) ?_
              rotate_left
              · intro w' hS'
                go_simp
                try with_reducible rfl
              simp only [Act.put, List.setIfInBounds_toArray, List.set_cons_zero, List.set_cons_succ]
              refine wpAnyH_take (i := 5) (v := ?_) rfl (by kernel_rfl) (by kernel_rfl) (by kernel_rfl) (fun _ _ _ h => h) (Or.inl ⟨by rfl, ?_⟩) (by assumption) ?_
              rotate_left
              · intro w' hS'
                go_simp
                try with_reducible rfl
              simp only [Act.put, List.setIfInBounds_toArray, List.set_cons_zero, List.set_cons_succ]
              refine wpAnyH_take (i := 6) (v := ?_) rfl (by kernel_rfl) (by kernel_rfl) (by kernel_rfl) (fun _ _ _ h => h) (Or.inl ⟨by rfl, ?_⟩) (by assumption) ?_
              rotate_left
              · intro w' hS'
                go_simp
                try with_reducible rfl
              simp only [Act.put, List.setIfInBounds_toArray, List.set_cons_zero, List.set_cons_succ]
              refine wpAnyH_take (i := 8) (v := ?_) rfl (by kernel_rfl) (by kernel_rfl) (by kernel_rfl) (fun _ _ _ h => h) (Or.inl ⟨by rfl, ?_⟩) (by assumption) ?_
              rotate_left
              · intro w' hS'
                go_simp
                try with_reducible rfl
              simp only [Act.put, List.setIfInBounds_toArray, List.set_cons_zero, List.set_cons_succ]
              refine wpAnyH_take (i := 9) (v := ?_) rfl (by kernel_rfl) (by kernel_rfl) (by kernel_rfl) (fun _ _ _ h => h) (Or.inl ⟨by rfl, ?_⟩) (by assumption) ?_
              rotate_left
              · intro w' hS'
                go_simp
                try with_reducible rfl
              simp only [Act.put, List.setIfInBounds_toArray, List.set_cons_zero, List.set_cons_succ]
              refine wpAnyH_take (i := 10) (v := ?_) rfl (by kernel_rfl) (by kernel_rfl) (by kernel_rfl) (fun _ _ _ h => h) (Or.inl ⟨by rfl, ?_⟩) (by assumption) ?_
              rotate_left
              · intro w' hS'
                go_simp
                try with_reducible rfl
              simp only [Act.put, List.setIfInBounds_toArray, List.set_cons_zero, List.set_cons_succ]
              refine wpAnyH_ready (rs := [7, 11]) (by kernel_rfl) (by simp) ?_
              refine AllReadyH.cons rfl (fun K hK => ?_) (AllReadyH.cons rfl (fun K hK => ?_) AllReadyH.nil)
              · go_simp
                refine hK.out _ _ trivial (fun hS => ?_)
                clear hK K
                try simp only [Act.put, List.setIfInBounds_toArray, List.set_cons_zero, List.set_cons_succ]
                refine wpAnyH_ready (rs := [11]) (by kernel_rfl) (by simp) ?_
                refine AllReadyH.cons rfl (fun K hK => ?_) AllReadyH.nil
                go_simp
                refine hK.out _ _ trivial (fun hS => ?_)
                clear hK K
                try simp only [Act.put, List.setIfInBounds_toArray, List.set_cons_zero, List.set_cons_succ]
                refine wpAnyH_take (i := 12) (v := ?_) rfl (by kernel_rfl) (by kernel_rfl) (by kernel_rfl) (fun _ _ _ h => h) (Or.inl ⟨by rfl, ?_⟩) (by assumption) ?_
                rotate_left
                · intro w' hS'
                  go_simp
                  try with_reducible rfl
                simp only [Act.put, List.setIfInBounds_toArray, List.set_cons_zero, List.set_cons_succ]
                refine wpAnyH_ready (rs := [13]) (by kernel_rfl) (by simp) ?_
                refine AllReadyH.cons rfl (fun K hK => ?_) AllReadyH.nil
                go_simp
                refine hK.out _ _ trivial (fun hS => ?_)
                clear hK K
                have hown2 := hownq.store i xj
                have cj2 := hown2.cell (j := j) (by omega)
                have fj2 := hown2.free j
                clear ci cj fi fj
                refine wpAnyH_take (i := 14) (v := ?_) rfl (by kernel_rfl) (by kernel_rfl) (by kernel_rfl) (fun _ _ _ h => h) (Or.inl ⟨by rfl, ?_⟩) (by assumption) ?_
                rotate_left
                · intro w' hS'
                  go_simp
                  try with_reducible rfl
                simp only [Act.put, List.setIfInBounds_toArray, List.set_cons_zero, List.set_cons_succ]
                refine wpAnyH_ready (rs := [15]) (by kernel_rfl) (by simp) ?_
                refine AllReadyH.cons rfl (fun K hK => ?_) AllReadyH.nil
                go_simp
                refine hK.out _ _ trivial (fun hS => ?_)
                clear hK K
                have hown3 := hown2.store j xi
                refine wpAnyH_done (by kernel_rfl) ?_ _
                go_wp2_with fail
                go_roundw
                case rel =>
                  refine ⟨q + 1, by omega, by rw [hnext.out], ?_, ?_, (((hbq.setCell (p := ⟨g, i, none⟩) hgb _).setCell (p := ⟨g, j, none⟩) hgb _)).drew⟩
                  · have hm2 : min (q + 1) m = q + 1 := by omega
                    rw [hm2]; simp
                  · rw [HST.out, HSW.out]
                    exact hown3
                case measure => simp [intOf]; omega
              · go_simp
                refine hK.out _ _ trivial (fun hS => ?_)
                clear hK K
                try simp only [Act.put, List.setIfInBounds_toArray, List.set_cons_zero, List.set_cons_succ]
                refine wpAnyH_ready (rs := [7]) (by kernel_rfl) (by simp) ?_
                refine AllReadyH.cons rfl (fun K hK => ?_) AllReadyH.nil
                go_simp
                refine hK.out _ _ trivial (fun hS => ?_)
                clear hK K
                try simp only [Act.put, List.setIfInBounds_toArray, List.set_cons_zero, List.set_cons_succ]
                refine wpAnyH_take (i := 12) (v := ?_) rfl (by kernel_rfl) (by kernel_rfl) (by kernel_rfl) (fun _ _ _ h => h) (Or.inl ⟨by rfl, ?_⟩) (by assumption) ?_
                rotate_left
                · intro w' hS'
                  go_simp
                  try with_reducible rfl
                simp only [Act.put, List.setIfInBounds_toArray, List.set_cons_zero, List.set_cons_succ]
                refine wpAnyH_ready (rs := [13]) (by kernel_rfl) (by simp) ?_
                refine AllReadyH.cons rfl (fun K hK => ?_) AllReadyH.nil
                go_simp
                refine hK.out _ _ trivial (fun hS => ?_)
                clear hK K
                have hown2 := hownq.store i xj
                have cj2 := hown2.cell (j := j) (by omega)
                have fj2 := hown2.free j
                clear ci cj fi fj
                refine wpAnyH_take (i := 14) (v := ?_) rfl (by kernel_rfl) (by kernel_rfl) (by kernel_rfl) (fun _ _ _ h => h) (Or.inl ⟨by rfl, ?_⟩) (by assumption) ?_
                rotate_left
                · intro w' hS'
                  go_simp
                  try with_reducible rfl
                simp only [Act.put, List.setIfInBounds_toArray, List.set_cons_zero, List.set_cons_succ]
                refine wpAnyH_ready (rs := [15]) (by kernel_rfl) (by simp) ?_
                refine AllReadyH.cons rfl (fun K hK => ?_) AllReadyH.nil
                go_simp
                refine hK.out _ _ trivial (fun hS => ?_)
                clear hK K
                have hown3 := hown2.store j xi
                refine wpAnyH_done (by kernel_rfl) ?_ _
                go_wp2_with fail
                go_roundw
                case rel =>
                  refine ⟨q + 1, by omega, by rw [hnext.out], ?_, ?_, (((hbq.setCell (p := ⟨g, i, none⟩) hgb _).setCell (p := ⟨g, j, none⟩) hgb _)).drew⟩
                  · have hm2 : min (q + 1) m = q + 1 := by omega
                    rw [hm2]; simp
                  · rw [HST.out, HSW.out]
                    exact hown3
                case measure => simp [intOf]; omega
            · go_wp2_with fail
              have ci := hownq.cell (j := i) (by omega)
              have cj := hownq.cell (j := j) (by omega)
              rw [hxi.out] at ci
              rw [hxj.out] at cj
              have fi := hownq.free i
              have fj := hownq.free j
              refine wp_region_held_drew (S := fun _ => True) (by kernel_rfl) trivial (fun hS => ?_)
              refine wpAnyH_take (i := 0) (v := ?_) rfl (by kernel_rfl) (by kernel_rfl) (by kernel_rfl) (fun _ _ _ h => h) (Or.inl ⟨by rfl, ?_⟩) (by assumption) ?_
              rotate_left
              · intro w' hS'
                go_simp
                try with_reducible rfl
              simp only [Act.put, List.setIfInBounds_toArray, List.set_cons_zero, List.set_cons_succ]
              refine wpAnyH_take (i := 1) (v := ?_) rfl (by kernel_rfl) (by kernel_rfl) (by kernel_rfl) (fun _ _ _ h => h) (Or.inl ⟨by rfl, ?_⟩) (by assumption) ?_
              rotate_left
              · intro w' hS'
                go_simp
                try with_reducible rfl
              simp only [Act.put, List.setIfInBounds_toArray, List.set_cons_zero, List.set_cons_succ]
              refine wpAnyH_take (i := 2) (v := ?_) rfl (by kernel_rfl) (by kernel_rfl) (by kernel_rfl) (fun _ _ _ h => h) (Or.inl ⟨by rfl, ?_⟩) (by assumption) ?_
              rotate_left
              · intro w' hS'
                go_simp
                try with_reducible rfl
              simp only [Act.put, List.setIfInBounds_toArray, List.set_cons_zero, List.set_cons_succ]
              refine wpAnyH_take (i := 3) (v := ?_) rfl (by kernel_rfl) (by kernel_rfl) (by kernel_rfl) (fun _ _ _ h => h) (Or.inl ⟨by rfl, ?_⟩) (by assumption) ?_
              rotate_left
              · intro w' hS'
                go_simp
                try with_reducible rfl
              simp only [Act.put, List.setIfInBounds_toArray, List.set_cons_zero, List.set_cons_succ]
              refine wpAnyH_take (i := 4) (v := ?_) rfl (by kernel_rfl) (by kernel_rfl) (by kernel_rfl) (fun _ _ _ h => h) (Or.inl ⟨by rfl, ?_⟩) (by assumption) ?_
              rotate_left
              · intro w' hS'
                go_simp
                try with_reducible rfl
              simp only [Act.put, List.setIfInBounds_toArray, List.set_cons_zero, List.set_cons_succ]
              refine wpAnyH_take (i := 5) (v := ?_) rfl (by kernel_rfl) (by kernel_rfl) (by kernel_rfl) (fun _ _ _ h => h) (Or.inl ⟨by rfl, ?_⟩) (by assumption) ?_
              rotate_left
              · intro w' hS'
                go_simp
                try with_reducible rfl
              simp only [Act.put, List.setIfInBounds_toArray, List.set_cons_zero, List.set_cons_succ]
              refine wpAnyH_take (i := 6) (v := ?_) rfl (by kernel_rfl) (by kernel_rfl) (by kernel_rfl) (fun _ _ _ h => h) (Or.inl ⟨by rfl, ?_⟩) (by assumption) ?_
              rotate_left
              · intro w' hS'
                go_simp
                try with_reducible rfl
              simp only [Act.put, List.setIfInBounds_toArray, List.set_cons_zero, List.set_cons_succ]
              refine wpAnyH_take (i := 8) (v := ?_) rfl (by kernel_rfl) (by kernel_rfl) (by kernel_rfl) (fun _ _ _ h => h) (Or.inl ⟨by rfl, ?_⟩) (by assumption) ?_
              rotate_left
              · intro w' hS'
                go_simp
                try with_reducible rfl
              simp only [Act.put, List.setIfInBounds_toArray, List.set_cons_zero, List.set_cons_succ]
              refine wpAnyH_take (i := 9) (v := ?_) rfl (by kernel_rfl) (by kernel_rfl) (by kernel_rfl) (fun _ _ _ h => h) (Or.inl ⟨by rfl, ?_⟩) (by assumption) ?_
              rotate_left
              · intro w' hS'
                go_simp
                try with_reducible rfl
              simp only [Act.put, List.setIfInBounds_toArray, List.set_cons_zero, List.set_cons_succ]
              refine wpAnyH_take (i := 10) (v := ?_) rfl (by kernel_rfl) (by kernel_rfl) (by kernel_rfl) (fun _ _ _ h => h) (Or.inl ⟨by rfl, ?_⟩) (by assumption) ?_
              rotate_left
              · intro w' hS'
                go_simp
                try with_reducible rfl
              simp only [Act.put, List.setIfInBounds_toArray, List.set_cons_zero, List.set_cons_succ]
              refine wpAnyH_ready (rs := [7, 11]) (by kernel_rfl) (by simp) ?_
              refine AllReadyH.cons rfl (fun K hK => ?_) (AllReadyH.cons rfl (fun K hK => ?_) AllReadyH.nil)
              · go_simp
                refine hK.out _ _ trivial (fun hS => ?_)
                clear hK K
                try simp only [Act.put, List.setIfInBounds_toArray, List.set_cons_zero, List.set_cons_succ]
                refine wpAnyH_ready (rs := [11]) (by kernel_rfl) (by simp) ?_
                refine AllReadyH.cons rfl (fun K hK => ?_) AllReadyH.nil
                go_simp
                refine hK.out _ _ trivial (fun hS => ?_)
                clear hK K
                try simp only [Act.put, List.setIfInBounds_toArray, List.set_cons_zero, List.set_cons_succ]
                refine wpAnyH_take (i := 12) (v := ?_) rfl (by kernel_rfl) (by kernel_rfl) (by kernel_rfl) (fun _ _ _ h => h) (Or.inl ⟨by rfl, ?_⟩) (by assumption) ?_
                rotate_left
                · intro w' hS'
                  go_simp
                  try with_reducible rfl
                simp only [Act.put, List.setIfInBounds_toArray, List.set_cons_zero, List.set_cons_succ]
                refine wpAnyH_ready (rs := [13]) (by kernel_rfl) (by simp) ?_
                refine AllReadyH.cons rfl (fun K hK => ?_) AllReadyH.nil
                go_simp
                refine hK.out _ _ trivial (fun hS => ?_)
                clear hK K
                have hown2 := hownq.store i xj
                have cj2 := hown2.cell (j := j) (by omega)
                have fj2 := hown2.free j
                clear ci cj fi fj
                refine wpAnyH_take (i := 14) (v := ?_) rfl (by kernel_rfl) (by kernel_rfl) (by kernel_rfl) (fun _ _ _ h => h) (Or.inl ⟨by rfl, ?_⟩) (by assumption) ?_
                rotate_left
                · intro w' hS'
                  go_simp
                  try with_reducible rfl
                simp only [Act.put, List.setIfInBounds_toArray, List.set_cons_zero, List.set_cons_succ]
                refine wpAnyH_ready (rs := [15]) (by kernel_rfl) (by simp) ?_
                refine AllReadyH.cons rfl (fun K hK => ?_) AllReadyH.nil
                go_simp
                refine hK.out _ _ trivial (fun hS => ?_)
                clear hK K
                have hown3 := hown2.store j xi
                refine wpAnyH_done (by kernel_rfl) ?_ _
                go_wp2_with fail
                go_roundw
                case rel =>
                  refine ⟨q + 1, by omega, by rw [hnext.out], ?_, ?_, (((hbq.setCell (p := ⟨g, i, none⟩) hgb _).setCell (p := ⟨g, j, none⟩) hgb _)).drew⟩
                  · have hm2 : min (q + 1) m = q + 1 := by omega
                    rw [hm2]; simp
                  · rw [HST.out, HSW.out]
                    exact hown3
                case measure => simp [intOf]; omega
              · go_simp
                refine hK.out _ _ trivial (fun hS => ?_)
                clear hK K
                try simp only [Act.put, List.setIfInBounds_toArray, List.set_cons_zero, List.set_cons_succ]
                refine wpAnyH_ready (rs := [7]) (by kernel_rfl) (by simp) ?_
                refine AllReadyH.cons rfl (fun K hK => ?_) AllReadyH.nil
                go_simp
                refine hK.out _ _ trivial (fun hS => ?_)
                clear hK K
                try simp only [Act.put, List.setIfInBounds_toArray, List.set_cons_zero, List.set_cons_succ]
                refine wpAnyH_take (i := 12) (v := ?_) rfl (by kernel_rfl) (by kernel_rfl) (by kernel_rfl) (fun _ _ _ h => h) (Or.inl ⟨by rfl, ?_⟩) (by assumption) ?_
                rotate_left
                · intro w' hS'
                  go_simp
                  try with_reducible rfl
                simp only [Act.put, List.setIfInBounds_toArray, List.set_cons_zero, List.set_cons_succ]
                refine wpAnyH_ready (rs := [13]) (by kernel_rfl) (by simp) ?_
                refine AllReadyH.cons rfl (fun K hK => ?_) AllReadyH.nil
                go_simp
                refine hK.out _ _ trivial (fun hS => ?_)
                clear hK K
                have hown2 := hownq.store i xj
                have cj2 := hown2.cell (j := j) (by omega)
                have fj2 := hown2.free j
                clear ci cj fi fj
                refine wpAnyH_take (i := 14) (v := ?_) rfl (by kernel_rfl) (by kernel_rfl) (by kernel_rfl) (fun _ _ _ h => h) (Or.inl ⟨by rfl, ?_⟩) (by assumption) ?_
                rotate_left
                · intro w' hS'
                  go_simp
                  try with_reducible rfl
                simp only [Act.put, List.setIfInBounds_toArray, List.set_cons_zero, List.set_cons_succ]
                refine wpAnyH_ready (rs := [15]) (by kernel_rfl) (by simp) ?_
                refine AllReadyH.cons rfl (fun K hK => ?_) AllReadyH.nil
                go_simp
                refine hK.out _ _ trivial (fun hS => ?_)
                clear hK K
                have hown3 := hown2.store j xi
                refine wpAnyH_done (by kernel_rfl) ?_ _
                go_wp2_with fail
                go_roundw
                case rel =>
                  refine ⟨q + 1, by omega, by rw [hnext.out], ?_, ?_, (((hbq.setCell (p := ⟨g, i, none⟩) hgb _).setCell (p := ⟨g, j, none⟩) hgb _)).drew⟩
                  · have hm2 : min (q + 1) m = q + 1 := by omega
                    rw [hm2]; simp
                  · rw [HST.out, HSW.out]
                    exact hown3
                case measure => simp [intOf]; omega
          · have hmin : min q m = m := by omega
            rw [hmin]
            have hzv : zs.getD q 0 = 0 := by simp [List.getD, List.getElem?_eq_none (show zs.length ≤ q by rw [hlen.out]; omega)]
            have hmm' : ¬ (m : Int) < m := by omega
            have hl0 : leftS 0 (i + 1) = 0 := by
              have := leftS_mod 0 (i + 1) (by omega)
              simpa using this
            rw [hzv, hl0] at HST
            have hk0 : 0 < k := by omega
            have hk0' : (0 : Int) < k := by omega
            have hwi3 : IntKind.i64.wrap (i : Int) = (i : Int) := IntWalk.i64_in _ ⟨by omega, by omega⟩
            clear hzv hl0
            obtain ⟨xi, hxi⟩ : ∃ v, Hid (xs.getD i 0 = v) := ⟨_, Lib.hid rfl⟩
            obtain ⟨xj, hxj⟩ : ∃ v, Hid (xs.getD 0 0 = v) := ⟨_, Lib.hid rfl⟩
            have HSW : Hid (swapL xs i 0 = (xs.set i xj).set 0 xi) := Lib.hid (by unfold swapL; rw [hxi.out, hxj.out])
            go_wp2_with fail
            have ci := hownq.cell (j := i) (by omega)
            have cj := hownq.cell (j := 0) (by omega)
            rw [hxi.out] at ci
            rw [hxj.out] at cj
            have fi := hownq.free i
            have fj := hownq.free 0
            refine wp_region_held_drew (S := fun _ => True) (by kernel_rfl) trivial (fun hS => ?_)
            refine wpAnyH_take (i := 0) (v := ?_) rfl (by kernel_rfl) (by kernel_rfl) (by kernel_rfl) (fun _ _ _ h => h) (Or.inl ⟨by rfl, ?_⟩) (by assumption) ?_
            rotate_left
            · intro w' hS'
              go_simp
              try with_reducible rfl
            simp only [Act.put, List.setIfInBounds_toArray, List.set_cons_zero, List.set_cons_succ]
            refine wpAnyH_take (i := 1) (v := ?_) rfl (by kernel_rfl) (by kernel_rfl) (by kernel_rfl) (fun _ _ _ h => h) (Or.inl ⟨by rfl, ?_⟩) (by assumption) ?_
            rotate_left
            · intro w' hS'
              go_simp
              try with_reducible rfl
            simp only [Act.put, List.setIfInBounds_toArray, List.set_cons_zero, List.set_cons_succ]
            refine wpAnyH_take (i := 2) (v := ?_) rfl (by kernel_rfl) (by kernel_rfl) (by kernel_rfl) (fun _ _ _ h => h) (Or.inl ⟨by rfl, ?_⟩) (by assumption) ?_
            rotate_left
            · intro w' hS'
              go_simp
              try with_reducible rfl
            simp only [Act.put, List.setIfInBounds_toArray, List.set_cons_zero, List.set_cons_succ]
            refine wpAnyH_take (i := 3) (v := ?_) rfl (by kernel_rfl) (by kernel_rfl) (by kernel_rfl) (fun _ _ _ h => h) (Or.inl ⟨by rfl, ?_⟩) (by assumption) ?_
            rotate_left
            · intro w' hS'
              go_simp
              try with_reducible rfl
            simp only [Act.put, List.setIfInBounds_toArray, List.set_cons_zero, List.set_cons_succ]
            refine wpAnyH_take (i := 4) (v := ?_) rfl (by kernel_rfl) (by kernel_rfl) (by kernel_rfl) (fun _ _ _ h => h) (Or.inl ⟨by rfl, ?_⟩) (by assumption) ?_
            rotate_left
            · intro w' hS'
              go_simp
              try with_reducible rfl
            simp only [Act.put, List.setIfInBounds_toArray, List.set_cons_zero, List.set_cons_succ]
            refine wpAnyH_take (i := 5) (v := ?_) rfl (by kernel_rfl) (by kernel_rfl) (by kernel_rfl) (fun _ _ _ h => h) (Or.inl ⟨by rfl, ?_⟩) (by assumption) ?_
            rotate_left
            · intro w' hS'
              go_simp
              try with_reducible rfl
            simp only [Act.put, List.setIfInBounds_toArray, List.set_cons_zero, List.set_cons_succ]
            refine wpAnyH_take (i := 6) (v := ?_) rfl (by kernel_rfl) (by kernel_rfl) (by kernel_rfl) (fun _ _ _ h => h) (Or.inl ⟨by rfl, ?_⟩) (by assumption) ?_
            rotate_left
            · intro w' hS'
              go_simp
              try with_reducible rfl
            simp only [Act.put, List.setIfInBounds_toArray, List.set_cons_zero, List.set_cons_succ]
            refine wpAnyH_take (i := 8) (v := ?_) rfl (by kernel_rfl) (by kernel_rfl) (by kernel_rfl) (fun _ _ _ h => h) (Or.inl ⟨by rfl, ?_⟩) (by assumption) ?_
            rotate_left
            · intro w' hS'
              go_simp
              try with_reducible rfl
            simp only [Act.put, List.setIfInBounds_toArray, List.set_cons_zero, List.set_cons_succ]
            refine wpAnyH_take (i := 9) (v := ?_) rfl (by kernel_rfl) (by kernel_rfl) (by kernel_rfl) (fun _ _ _ h => h) (Or.inl ⟨by rfl, ?_⟩) (by assumption) ?_
            rotate_left
            · intro w' hS'
              go_simp
              try with_reducible rfl
            simp only [Act.put, List.setIfInBounds_toArray, List.set_cons_zero, List.set_cons_succ]
            refine wpAnyH_take (i := 10) (v := ?_) rfl (by kernel_rfl) (by kernel_rfl) (by kernel_rfl) (fun _ _ _ h => h) (Or.inl ⟨by rfl, ?_⟩) (by assumption) ?_
            rotate_left
            · intro w' hS'
              go_simp
              try with_reducible rfl
            simp only [Act.put, List.setIfInBounds_toArray, List.set_cons_zero, List.set_cons_succ]
            refine wpAnyH_ready (rs := [7, 11]) (by kernel_rfl) (by simp) ?_
            refine AllReadyH.cons rfl (fun K hK => ?_) (AllReadyH.cons rfl (fun K hK => ?_) AllReadyH.nil)
            · go_simp
              refine hK.out _ _ trivial (fun hS => ?_)
              clear hK K
              try simp only [Act.put, List.setIfInBounds_toArray, List.set_cons_zero, List.set_cons_succ]
              refine wpAnyH_ready (rs := [11]) (by kernel_rfl) (by simp) ?_
              refine AllReadyH.cons rfl (fun K hK => ?_) AllReadyH.nil
              go_simp
              refine hK.out _ _ trivial (fun hS => ?_)
              clear hK K
              try simp only [Act.put, List.setIfInBounds_toArray, List.set_cons_zero, List.set_cons_succ]
              refine wpAnyH_take (i := 12) (v := ?_) rfl (by kernel_rfl) (by kernel_rfl) (by kernel_rfl) (fun _ _ _ h => h) (Or.inl ⟨by rfl, ?_⟩) (by assumption) ?_
              rotate_left
              · intro w' hS'
                go_simp
                try with_reducible rfl
              simp only [Act.put, List.setIfInBounds_toArray, List.set_cons_zero, List.set_cons_succ]
              refine wpAnyH_ready (rs := [13]) (by kernel_rfl) (by simp) ?_
              refine AllReadyH.cons rfl (fun K hK => ?_) AllReadyH.nil
              go_simp
              refine hK.out _ _ trivial (fun hS => ?_)
              clear hK K
              have hown2 := hownq.store i xj
              have cj2 := hown2.cell (j := 0) (by omega)
              have fj2 := hown2.free 0
              clear ci cj fi fj
              refine wpAnyH_take (i := 14) (v := ?_) rfl (by kernel_rfl) (by kernel_rfl) (by kernel_rfl) (fun _ _ _ h => h) (Or.inl ⟨by rfl, ?_⟩) (by assumption) ?_
              rotate_left
              · intro w' hS'
                go_simp
                try with_reducible rfl
              simp only [Act.put, List.setIfInBounds_toArray, List.set_cons_zero, List.set_cons_succ]
              refine wpAnyH_ready (rs := [15]) (by kernel_rfl) (by simp) ?_
              refine AllReadyH.cons rfl (fun K hK => ?_) AllReadyH.nil
              go_simp
              refine hK.out _ _ trivial (fun hS => ?_)
              clear hK K
              have hown3 := hown2.store 0 xi
              refine wpAnyH_done (by kernel_rfl) ?_ _
              go_wp2_with fail
              go_roundw
              case rel =>
                refine ⟨q + 1, by omega, by rw [hnext.out], ?_, ?_, (((hbq.setCell (p := ⟨g, i, none⟩) hgb _).setCell (p := ⟨g, 0, none⟩) hgb _)).drew⟩
                · have hm2 : min (q + 1) m = m := by omega
                  rw [hm2]
                · rw [HST.out, HSW.out]
                  exact hown3
              case measure => simp [intOf]; omega
            · go_simp
              refine hK.out _ _ trivial (fun hS => ?_)
              clear hK K
              try simp only [Act.put, List.setIfInBounds_toArray, List.set_cons_zero, List.set_cons_succ]
              refine wpAnyH_ready (rs := [7]) (by kernel_rfl) (by simp) ?_
              refine AllReadyH.cons rfl (fun K hK => ?_) AllReadyH.nil
              go_simp
              refine hK.out _ _ trivial (fun hS => ?_)
              clear hK K
              try simp only [Act.put, List.setIfInBounds_toArray, List.set_cons_zero, List.set_cons_succ]
              refine wpAnyH_take (i := 12) (v := ?_) rfl (by kernel_rfl) (by kernel_rfl) (by kernel_rfl) (fun _ _ _ h => h) (Or.inl ⟨by rfl, ?_⟩) (by assumption) ?_
              rotate_left
              · intro w' hS'
                go_simp
                try with_reducible rfl
              simp only [Act.put, List.setIfInBounds_toArray, List.set_cons_zero, List.set_cons_succ]
              refine wpAnyH_ready (rs := [13]) (by kernel_rfl) (by simp) ?_
              refine AllReadyH.cons rfl (fun K hK => ?_) AllReadyH.nil
              go_simp
              refine hK.out _ _ trivial (fun hS => ?_)
              clear hK K
              have hown2 := hownq.store i xj
              have cj2 := hown2.cell (j := 0) (by omega)
              have fj2 := hown2.free 0
              clear ci cj fi fj
              refine wpAnyH_take (i := 14) (v := ?_) rfl (by kernel_rfl) (by kernel_rfl) (by kernel_rfl) (fun _ _ _ h => h) (Or.inl ⟨by rfl, ?_⟩) (by assumption) ?_
              rotate_left
              · intro w' hS'
                go_simp
                try with_reducible rfl
              simp only [Act.put, List.setIfInBounds_toArray, List.set_cons_zero, List.set_cons_succ]
              refine wpAnyH_ready (rs := [15]) (by kernel_rfl) (by simp) ?_
              refine AllReadyH.cons rfl (fun K hK => ?_) AllReadyH.nil
              go_simp
              refine hK.out _ _ trivial (fun hS => ?_)
              clear hK K
              have hown3 := hown2.store 0 xi
              refine wpAnyH_done (by kernel_rfl) ?_ _
              go_wp2_with fail
              go_roundw
              case rel =>
                refine ⟨q + 1, by omega, by rw [hnext.out], ?_, ?_, (((hbq.setCell (p := ⟨g, i, none⟩) hgb _).setCell (p := ⟨g, 0, none⟩) hgb _)).drew⟩
                · have hm2 : min (q + 1) m = m := by omega
                  rw [hm2]
                · rw [HST.out, HSW.out]
                  exact hown3
              case measure => simp [intOf]; omega
        · have hlt3 : ¬ ((k : Int) - 1 - q ≥ 1) := by omega
          have HD : Hid ((shufA zs (idL k) ((downL k).take q)).1 = shufS zs k) := Lib.hid (by
            unfold shufS
            rw [List.take_of_length_le (by rw [downL_len]; omega)])
          have HQ : Hid (((min q m : Nat) : Int) = ((min (k - 1) m : Nat) : Int)) := Lib.hid (by omega)
          rw [HD.out] at hownq
          go_wp2_with fail
          refine bodyPost_ret (v := .tuple #[.slice A5 k c5, .int .i64 ((min q m : Nat) : Int), .int .i64 0]) (by simp [results, Try.results12, go_sem]) rfl ?_
          exact ⟨A5, c5, by rw [HQ.out], hownq, hbq⟩
end Go.Proofs.Ytoahkaongmlfkaa
