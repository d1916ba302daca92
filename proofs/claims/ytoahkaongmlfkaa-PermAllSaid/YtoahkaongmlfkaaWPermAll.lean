/- The walk of the law PermAll. -/
import Derived.Test.YtoahkaongmlfkaaOpenI
import Derived.Test.YtoahkaongmlfkaaPermR
namespace Go.Proofs.Ytoahkaongmlfkaa
set_option linter.unusedSimpArgs false
set_option linter.unusedVariables false
open Go Go.RowKit

theorem find_pos {now l : List Int} {n i : Nat} (hn : okP now = true) (hl : okP l = true) (h1 : now.length = n) (h2 : l.length = n) (hi : i < n) (h : ∀ j, i < j → j < n → at0 now j = at0 l j) :
    ∃ pos, pos ≤ i ∧ at0 now pos = at0 l i ∧ ∀ k, k < n → at0 now k = at0 l i → k = pos := by
  have hz := (okP_spec hl).2.1 _ (at0_mem (l := l) (k := i) (by omega))
  obtain ⟨v, hv, e⟩ := okP_all hn (at0 l i).toNat (by omega)
  have e' : at0 now v = at0 l i := by omega
  have hvi : v ≤ i := by
    rcases Nat.lt_or_ge i v with hlt | hge
    · have h3 := h v hlt (by omega)
      have := nodup_inj.1 (okP_spec hl).2.2 v i (by omega) (by omega) (by rw [← h3]; exact e')
      omega
    · exact hge
  exact ⟨v, hvi, e', fun k hk hke => nodup_inj.1 (okP_spec hn).2.2 k v (by omega) hv (by rw [hke, e'])⟩
theorem shufA_more (ds p : List Int) (pre : List Nat) (z : Int) (h : pre.length ≤ ds.length) : shufA (ds ++ [z]) p pre = shufA ds p pre := by
  generalize hk : pre.length = n at h
  induction n generalizing pre with
  | zero => rw [List.eq_nil_of_length_eq_zero hk]; rfl
  | succ n ih =>
    rcases snocN pre with rfl | ⟨r, x, rfl⟩
    · rfl
    · have hrl : r.length = n := by simpa using hk
      rw [shufA_snoc, shufA_snoc, ih r hrl (by omega), (shufA_facts ds p r).2]
      simp only [List.getD]
      rw [List.getElem?_append_left (by omega)]
theorem leftS_in (v i : Nat) (h : v ≤ i) : leftS (v : Int) (i + 1) = v := by
  have := leftS_mod (v : Int) (i + 1) (by omega)
  rw [Int.emod_eq_of_lt (by omega) (by omega)] at this
  omega
theorem shufA_step (ds : List Int) (n q v : Nat) (h : q < n - 1) (hl : ds.length = q) (hv : v ≤ n - 1 - q) :
    (shufA (ds ++ [(v : Int)]) (idL n) ((downL n).take (q + 1))).1 = swapL (shufA ds (idL n) ((downL n).take q)).1 (n - 1 - q) v := by
  have e : (ds ++ [(v : Int)]).getD q 0 = (v : Int) := by simp [List.getD, hl]
  rw [shufA_next _ n q h, e, leftS_in _ _ hv, shufA_more _ _ _ _ (by rw [List.length_take, downL_len]; omega)]
theorem okP_shufT (ds : List Int) (n q : Nat) (h : n ≤ 1024) : okP (shufA ds (idL n) ((downL n).take q)).1 = true := okP_shuf ds n h _ (fun i hi => by
  have hi' := List.mem_of_mem_take hi
  unfold downL at hi'
  have := List.mem_range'.1 (List.mem_reverse.1 hi')
  omega)

set_option maxHeartbeats 3200000 in
theorem walk_PermAll (W : World) (v0 : Value) (o0 : Opn W 22 v0) :
    Calls Try.prog 7 #[v0] W fun e w' => e = .returned (.bool true) ∧ Below W.heap.size W w' := by
  obtain ⟨A, n, c, l, rfl, hs, hm, hz⟩ := o0.ints
  clear o0
  unfold maxLen at hm
  have hcap := hs.cap
  by_cases hl : 60 < n
  · go_enter Try.func7, Try.ntmps7
    go_wp2_with (go_at_call 10; refine (live11_any _).mono ?_; rintro e w1 ⟨rfl, hbw⟩)
    go_ret
    exact ⟨rfl, hbw⟩
  have hlen := Lib.hid hs.len
  have CK := Lib.hid fun w (hb : Below W.heap.size W w) => permCheck_any w _ _ _ _ _ (hs.below hb) hb.size (by omega)
  rcases chkP_cases l with ⟨hc, hok⟩ | ⟨hc, hok⟩
  case inr =>
    rw [hc] at CK
    go_enter Try.func7, Try.ntmps7
    go_wp2_with (first | (go_at_call 10; refine (live11_any _).mono ?_; rintro e w1 ⟨rfl, hbw⟩) | (go_at_call 19; refine (CK.out _ hbw).mono ?_; rintro x w2 ⟨rfl, hb2⟩; replace hbw := after_next hbw hb2))
    go_ret
    exact ⟨rfl, hbw⟩
  rw [hc] at CK
  have HOK := Lib.hid hok
  clear hc hok
  have hn60 : n ≤ 60 := by omega
  go_enter Try.func7, Try.ntmps7
  go_wp2_with (first | (go_at_call 10; refine (live11_any _).mono ?_; rintro e w1 ⟨rfl, hbw⟩) | (go_at_call 19; refine (CK.out _ hbw).mono ?_; rintro x w2 ⟨rfl, hb2⟩; replace hbw := after_next hbw hb2) | (at_make; refine wpList_make_i rfl _ _ rfl w2.heap.size n rfl rfl (by omega) (Nat.le_refl _) ?_; intro w3 ho3 hb3 hlt3))
  have hgW := hbw.size
  replace hbw := after_next hbw hb3
  generalize w2.heap.size = g at *
  clear CK hb2 hb3
  go_loopw [27] (fun i wr => ∃ k : Nat, k ≤ n ∧ i = .int .i64 k ∧ OwnI wr g (some ⟨g, 0, none⟩) n n (idL k ++ List.replicate (n - k) 0) ∧ Below W.heap.size W wr ∧ g < wr.heap.size) (fun i _ => n - (intOf i).toNat)
  case atStart => exact ⟨0, Nat.zero_le _, rfl, ho3.cast (by simp [idL]), hbw, hlt3⟩
  case round =>
    clear hbw hlt3 ho3
    obtain ⟨k, hk, rfl, hown, hbw, hg3⟩ := hrel
    by_cases hlt : k < n
    · have hc := hown.cell hlt
      have hf := hown.free k
      have hki : (k : Int) < n := by omega
      go_wp2_with fail
      go_roundw
      case rel =>
        refine ⟨k + 1, by omega, by simp, (hown.store k (k : Int)).cast ?_, hbw.setCell hgW _, by simpa using hg3⟩
        have hl : (idL k).length = k := idL_len k
        rw [idL_next, List.set_append_right _ _ (by omega), hl, Nat.sub_self, show n - k = (n - (k + 1)) + 1 by omega, List.replicate_succ, List.set_cons_zero, List.append_assoc]
        rfl
      case measure => simp [intOf]; omega
    · obtain rfl : k = n := by omega
      have hi0 : OwnI wr g (some ⟨g, 0, none⟩) k k (idL k) := hown.cast (by simp)
      have hkk : ¬ (k : Int) < k := by omega
      have hwn : IntKind.i64.wrap ((k : Int) - 1) = (k : Int) - 1 := IntWalk.i64_in _ ⟨by omega, by omega⟩
      clear hown
      go_wp2_with fail
      go_loopw [5, 6] (fun o i wr2 => ∃ (q c5 : Nat) (A5 : Option Addr) (ds : List Int), q ≤ k - 1 ∧ i = .int .i64 ((k : Int) - 1 - q) ∧ o = .slice A5 q c5 ∧ OwnI wr2 (g + 1) A5 q c5 ds ∧ OwnI wr2 g (some ⟨g, 0, none⟩) k k (shufA ds (idL k) ((downL k).take q)).1 ∧ Hid (∀ j, k - 1 - q < j → j < k → at0 (shufA ds (idL k) ((downL k).take q)).1 j = at0 l j) ∧ Hid (∀ z ∈ ds, 0 ≤ z ∧ z ≤ 60) ∧ Below W.heap.size W wr2 ∧ g < wr2.heap.size) (fun _ i _ => (intOf i).toNat)
      case atStart => exact ⟨0, 0, none, [], Nat.zero_le _, by simp, rfl, OwnI.nil _ _, hi0.cast (by simp [shufA]), Lib.hid (fun j h1 h2 => by omega), Lib.hid (by simp), hbw, hg3⟩
      case round =>
        clear hbw hi0 hg3
        obtain ⟨q, c5, A5, ds, hq, rfl, rfl, hod, hown, HB, HD, hbw, hg3⟩ := hrel
        have hdl := OwnI.len hod
        have hxl := shufA_lenT ds k q
        have hxok := okP_shufT ds k q (by omega)
        by_cases hlt2 : q < k - 1
        · obtain ⟨i, hi⟩ : ∃ i : Nat, i = k - 1 - q := ⟨_, rfl⟩
          obtain ⟨pos, hpi, hpe, hpu⟩ := find_pos (i := i) hxok HOK.out hxl hlen.out (by omega) (fun j h1 h2 => HB.out j (by omega) h2)
          have hst := shufA_step ds k q pos hlt2 hdl (by omega)
          rw [← hi] at hst
          have hie : (k : Int) - 1 - q = (i : Int) := by omega
          rw [hie]
          have HB2 : Hid (∀ j, k - 1 - (q + 1) < j → j < k → at0 (shufA (ds ++ [(pos : Int)]) (idL k) ((downL k).take (q + 1))).1 j = at0 l j) := Lib.hid (fun j h1 h2 => by
            rw [hst, at0_swap (by omega) (by omega)]
            by_cases hji : j = i
            · subst hji
              split
              · rename_i hjp
                rw [hjp] at hpe
                rw [hjp]
                exact hpe
              · rw [if_pos rfl]; exact hpe
            · rw [if_neg (by omega), if_neg hji]
              exact HB.out j (by omega) h2)
          have HD2 : Hid (∀ z ∈ ds ++ [(pos : Int)], 0 ≤ z ∧ z ≤ 60) := Lib.hid (fun z hz => by
            rcases List.mem_append.1 hz with hz | hz
            · exact HD.out z hz
            · rw [List.mem_singleton.1 hz]; omega)
          have HST := Lib.hid hst
          have HPE := Lib.hid hpe
          have HPU := Lib.hid hpu
          clear hst hpe hpu hxok
          generalize (shufA ds (idL k) ((downL k).take q)).1 = xs at *
          have hnext := Lib.hid (show (k : Int) - 1 - ((q + 1 : Nat) : Int) = (i : Int) - 1 from by omega)
          have hi1 : 1 ≤ i := by omega
          have hi2 : i < k := by omega
          clear hi hie
          have ge1 : (i : Int) ≥ 1 := by omega
          have hii : (i : Int) < k := by omega
          have hwi : IntKind.i64.wrap ((i : Int) + 1) = (i : Int) + 1 := IntWalk.i64_in _ ⟨by omega, by omega⟩
          have hwi2 : IntKind.i64.wrap ((i : Int) - 1) = (i : Int) - 1 := IntWalk.i64_in _ ⟨by omega, by omega⟩
          generalize hwe : wr = u at *
          clear hwe
          go_wp2_with fail
          go_loopw [7, 44] (fun a kv wr3 => ∃ (kk av nd : Nat), kk ≤ i + 1 ∧ kv = .int .i64 kk ∧ a = .int .i64 av ∧ Hid ((pos < kk → av = pos) ∧ (kk ≤ pos → av = 0)) ∧ wr3 = u.drewN nd) (fun _ kv _ => i + 1 - (intOf kv).toNat)
          case atStart => exact ⟨0, 0, 0, Nat.zero_le _, rfl, rfl, Lib.hid ⟨fun h => by omega, fun _ => rfl⟩, rfl⟩
          case round =>
            obtain ⟨kk, av, nd, hkk2, rfl, rfl, HA, rfl⟩ := hrel
            by_cases hlt3 : kk < i + 1
            · have hks : (kk : Int) < (i : Int) + 1 := by omega
              have hkk3 : (kk : Int) < k := by omega
              have ci := hown.cell (j := kk) (by omega)
              have hpc := ((hs.below hbw).at_ hi2)
              obtain ⟨p, z, rfl, _, hpcell, hpz⟩ := hpc
              have hzl : at0 l i = z := by simp [at0, List.getD, hpz]
              have hck : xs.getD kk 0 = at0 xs kk := rfl
              rw [hck] at ci
              by_cases heq : kk = pos
              · have hb1 : (at0 xs kk == z) = true := by rw [heq, HPE.out, hzl]; simp
                have HA2 : Hid ((pos < kk + 1 → kk = pos) ∧ (kk + 1 ≤ pos → kk = 0)) := Lib.hid ⟨fun _ => heq, fun h => by omega⟩
                clear heq hck hzl hpz
                generalize at0 xs kk = xk at *
                go_wp2_with fail
                go_quiet (fail)
                go_wp2_with fail
                go_roundw
                case rel => exact ⟨kk + 1, kk, _, by omega, by simp, rfl, HA2, by first | rfl | (rw [World.drewN_drewN]) | simp⟩
                case measure => simp [intOf]; omega
              · have hb1 : (at0 xs kk == z) = false := beq_eq_false_iff_ne.2 (fun e => heq (HPU.out kk (by omega) (by rw [e, hzl])))
                have HA2 : Hid ((pos < kk + 1 → av = pos) ∧ (kk + 1 ≤ pos → av = 0)) := Lib.hid ⟨fun h => HA.out.1 (by omega), fun h => HA.out.2 (by omega)⟩
                clear heq hck hzl hpz
                generalize at0 xs kk = xk at *
                go_wp2_with fail
                go_quiet (fail)
                go_wp2_with fail
                go_roundw
                case rel => exact ⟨kk + 1, av, _, by omega, by simp, rfl, HA2, by first | rfl | (rw [World.drewN_drewN]) | simp⟩
                case measure => simp [intOf]; omega
            · obtain rfl : kk = i + 1 := by omega
              have hav := HA.out.1 (by omega)
              rw [hav]
              have hks : ¬ ((i + 1 : Nat) : Int) < (i : Int) + 1 := by omega
              have hod' := OwnI.drewN hod nd
              have hown' := OwnI.drewN hown nd
              have hbw' := hbw.trans (below_draws _ _ nd)
              have hg4 : g < (u.drewN nd).heap.size := by simpa using hg3
              have hpk : (pos : Int) < k := by omega
              generalize u.drewN nd = u2 at *
              clear hod hown hbw HA
              go_wp2_with (at_builtin; go_loud (refine wpList_append_i rfl (.tmp 58) (.tmp 60) rfl (g + 1) A5 _ c5 _ rfl (hod'.alloc (.cells #[.int .i64 (pos : Int)] 3)) _ (some ⟨u2.heap.size, 0, none⟩) 1 1 [(pos : Int)] rfl (SlI.laid u2 #[.int .i64 (pos : Int)] 3 (0, 0) _ 1 rfl rfl) (by omega) (by simp; omega) ?_); intro A7 c7 u3 ho7 hgr7 hb7)
              have hown7 : OwnI u3 g (some ⟨g, 0, none⟩) k k xs := Own.kept (hown'.alloc (.cells #[.int .i64 (pos : Int)] 3)) hgr7 (fun g' hg' hh => by
                cases hg'
                rcases Own.block hod' with ⟨h, _, h3⟩ | ⟨g2, h, hg2, _⟩
                · subst h; simp [Value.ownBlock] at hh
                · subst h; simp [Value.ownBlock] at hh; omega)
              have hbw7 := (after_lay hbw' (.cells #[.int .i64 (pos : Int)] 3)).trans (hb7.mono (by omega))
              have hg7 : g < u3.heap.size := by have := hb7.size; simp at this; omega
              obtain ⟨xi, hxi⟩ : ∃ v, Hid (xs.getD i 0 = v) := ⟨_, Lib.hid rfl⟩
              obtain ⟨xj, hxj⟩ : ∃ v, Hid (xs.getD pos 0 = v) := ⟨_, Lib.hid rfl⟩
              have HSW : Hid (swapL xs i pos = (xs.set i xj).set pos xi) := Lib.hid (by unfold swapL; rw [hxi.out, hxj.out])
              clear hown' hod' hbw'
              have ci := hown7.cell (j := i) (by omega)
              have cj := hown7.cell (j := pos) (by omega)
              rw [hxi.out] at ci
              rw [hxj.out] at cj
              have fi := hown7.free i
              have fj := hown7.free pos
              refine wp_region_held_drew (S := fun _ => True) (by kernel_rfl) trivial (fun hS => ?_)
              refine wpAnyH_take (i := 0) (v := ?_) rfl (by kernel_rfl) (by kernel_rfl) (by kernel_rfl) (fun _ _ _ h => h) (Or.inl ⟨by rfl, ?_⟩) (by assumption) ?_
              rotate_left
              · intro w' hS'
                go_simp
                try with_reducible rfl
              simp only [Act.put, List.setIfInBounds_toArray, List.set_cons_zero, List.set_cons_succ]
              refine wpAnyH_take (i := 1) (v := ?_) rfl (by kernel_rfl) (by kernel_rfl) (by kernel_rfl) (fun _ _ _ h => h) (Or.inl ⟨by rfl, ?_⟩) (by assumption) ?_
              rotate_left
              · intro w' hS'
                go_simp
                try with_reducible rfl
              simp only [Act.put, List.setIfInBounds_toArray, List.set_cons_zero, List.set_cons_succ]
              refine wpAnyH_take (i := 2) (v := ?_) rfl (by kernel_rfl) (by kernel_rfl) (by kernel_rfl) (fun _ _ _ h => h) (Or.inl ⟨by rfl, ?_⟩) (by assumption) ?_
              rotate_left
              · intro w' hS'
                go_simp
                try with_reducible rfl
              simp only [Act.put, List.setIfInBounds_toArray, List.set_cons_zero, List.set_cons_succ]
              refine wpAnyH_take (i := 3) (v := ?_) rfl (by kernel_rfl) (by kernel_rfl) (by kernel_rfl) (fun _ _ _ h => h) (Or.inl ⟨by rfl, ?_⟩) (by assumption) ?_
              rotate_left
              · intro w' hS'
                go_simp
                try with_reducible rfl
              simp only [Act.put, List.setIfInBounds_toArray, List.set_cons_zero, List.set_cons_succ]
              refine wpAnyH_take (i := 4) (v := ?_) rfl (by kernel_rfl) (by kernel_rfl) (by kernel_rfl) (fun _ _ _ h => h) (Or.inl ⟨by rfl, ?_⟩) (by assumption) ?_
              rotate_left
              · intro w' hS'
                go_simp
                try with_reducible rfl
              simp only [Act.put, List.setIfInBounds_toArray, List.set_cons_zero, List.set_cons_succ]
              refine wpAnyH_take (i := 5) (v := ?_) rfl (by kernel_rfl) (by kernel_rfl) (by kernel_rfl) (fun _ _ _ h => h) (Or.inl ⟨by rfl, ?_⟩) (by assumption) ?_
              rotate_left
              · intro w' hS'
                go_simp
                try with_reducible rfl
              simp only [Act.put, List.setIfInBounds_toArray, List.set_cons_zero, List.set_cons_succ]
              refine wpAnyH_take (i := 6) (v := ?_) rfl (by kernel_rfl) (by kernel_rfl) (by kernel_rfl) (fun _ _ _ h => h) (Or.inl ⟨by rfl, ?_⟩) (by assumption) ?_
              rotate_left
              · intro w' hS'
                go_simp
                try with_reducible rfl
              simp only [Act.put, List.setIfInBounds_toArray, List.set_cons_zero, List.set_cons_succ]
              refine wpAnyH_take (i := 8) (v := ?_) rfl (by kernel_rfl) (by kernel_rfl) (by kernel_rfl) (fun _ _ _ h => h) (Or.inl ⟨by rfl, ?_⟩) (by assumption) ?_
              rotate_left
              · intro w' hS'
                go_simp
                try with_reducible rfl
              simp only [Act.put, List.setIfInBounds_toArray, List.set_cons_zero, List.set_cons_succ]
              refine wpAnyH_take (i := 9) (v := ?_) rfl (by kernel_rfl) (by kernel_rfl) (by kernel_rfl) (fun _ _ _ h => h) (Or.inl ⟨by rfl, ?_⟩) (by assumption) ?_
              rotate_left
              · intro w' hS'
                go_simp
                try with_reducible rfl
              simp only [Act.put, List.setIfInBounds_toArray, List.set_cons_zero, List.set_cons_succ]
              refine wpAnyH_take (i := 10) (v := ?_) rfl (by kernel_rfl) (by kernel_rfl) (by kernel_rfl) (fun _ _ _ h => h) (Or.inl ⟨by rfl, ?_⟩) (by assumption) ?_
              rotate_left
              · intro w' hS'
                go_simp
                try with_reducible rfl
              simp only [Act.put, List.setIfInBounds_toArray, List.set_cons_zero, List.set_cons_succ]
              refine wpAnyH_ready (rs := [7, 11]) (by kernel_rfl) (by simp) ?_
              refine AllReadyH.cons rfl (fun K hK => ?_) (AllReadyH.cons rfl (fun K hK => ?_) AllReadyH.nil)
              · go_simp
                refine hK.out _ _ trivial (fun hS => ?_)
                clear hK K
                try simp only [Act.put, List.setIfInBounds_toArray, List.set_cons_zero, List.set_cons_succ]
                refine wpAnyH_ready (rs := [11]) (by kernel_rfl) (by simp) ?_
                refine AllReadyH.cons rfl (fun K hK => ?_) AllReadyH.nil
                go_simp
                refine hK.out _ _ trivial (fun hS => ?_)
                clear hK K
                try simp only [Act.put, List.setIfInBounds_toArray, List.set_cons_zero, List.set_cons_succ]
                refine wpAnyH_take (i := 12) (v := ?_) rfl (by kernel_rfl) (by kernel_rfl) (by kernel_rfl) (fun _ _ _ h => h) (Or.inl ⟨by rfl, ?_⟩) (by assumption) ?_
                rotate_left
                · intro w' hS'
                  go_simp
                  try with_reducible rfl
                simp only [Act.put, List.setIfInBounds_toArray, List.set_cons_zero, List.set_cons_succ]
                refine wpAnyH_ready (rs := [13]) (by kernel_rfl) (by simp) ?_
                refine AllReadyH.cons rfl (fun K hK => ?_) AllReadyH.nil
                go_simp
                refine hK.out _ _ trivial (fun hS => ?_)
                clear hK K
                have hown2 := hown7.store i xj
                have cj2 := hown2.cell (j := pos) (by omega)
                have fj2 := hown2.free pos
                clear ci cj fi fj
                refine wpAnyH_take (i := 14) (v := ?_) rfl (by kernel_rfl) (by kernel_rfl) (by kernel_rfl) (fun _ _ _ h => h) (Or.inl ⟨by rfl, ?_⟩) (by assumption) ?_
                rotate_left
                · intro w' hS'
                  go_simp
                  try with_reducible rfl
                simp only [Act.put, List.setIfInBounds_toArray, List.set_cons_zero, List.set_cons_succ]
                refine wpAnyH_ready (rs := [15]) (by kernel_rfl) (by simp) ?_
                refine AllReadyH.cons rfl (fun K hK => ?_) AllReadyH.nil
                go_simp
                refine hK.out _ _ trivial (fun hS => ?_)
                clear hK K
                have hown3 := hown2.store pos xi
                refine wpAnyH_done (by kernel_rfl) ?_ _
                go_wp2_with fail
                go_roundw
                case rel =>
                  refine ⟨q + 1, c7, A7, ds ++ [(pos : Int)], by omega, by rw [hnext.out], rfl, ?_, ?_, HB2, HD2, ?_, ?_⟩
                  · exact ownsRow_setCell_below (ownsRow_setCell_below ho7 (by simp) _) (by simp) _
                  · rw [HST.out, HSW.out]
                    exact hown3
                  · exact ((hbw7.setCell (p := ⟨g, i, none⟩) hgW _).setCell (p := ⟨g, pos, none⟩) hgW _).drew
                  · simpa using hg7
                case measure => simp [intOf]; omega
              · go_simp
                refine hK.out _ _ trivial (fun hS => ?_)
                clear hK K
                try simp only [Act.put, List.setIfInBounds_toArray, List.set_cons_zero, List.set_cons_succ]
                refine wpAnyH_ready (rs := [7]) (by kernel_rfl) (by simp) ?_
                refine AllReadyH.cons rfl (fun K hK => ?_) AllReadyH.nil
                go_simp
                refine hK.out _ _ trivial (fun hS => ?_)
                clear hK K
                try simp only [Act.put, List.setIfInBounds_toArray, List.set_cons_zero, List.set_cons_succ]
                refine wpAnyH_take (i := 12) (v := ?_) rfl (by kernel_rfl) (by kernel_rfl) (by kernel_rfl) (fun _ _ _ h => h) (Or.inl ⟨by rfl, ?_⟩) (by assumption) ?_
                rotate_left
                · intro w' hS'
                  go_simp
                  try with_reducible rfl
                simp only [Act.put, List.setIfInBounds_toArray, List.set_cons_zero, List.set_cons_succ]
                refine wpAnyH_ready (rs := [13]) (by kernel_rfl) (by simp) ?_
                refine AllReadyH.cons rfl (fun K hK => ?_) AllReadyH.nil
                go_simp
                refine hK.out _ _ trivial (fun hS => ?_)
                clear hK K
                have hown2 := hown7.store i xj
                have cj2 := hown2.cell (j := pos) (by omega)
                have fj2 := hown2.free pos
                clear ci cj fi fj
                refine wpAnyH_take (i := 14) (v := ?_) rfl (by kernel_rfl) (by kernel_rfl) (by kernel_rfl) (fun _ _ _ h => h) (Or.inl ⟨by rfl, ?_⟩) (by assumption) ?_
                rotate_left
                · intro w' hS'
                  go_simp
                  try with_reducible rfl
                simp only [Act.put, List.setIfInBounds_toArray, List.set_cons_zero, List.set_cons_succ]
                refine wpAnyH_ready (rs := [15]) (by kernel_rfl) (by simp) ?_
                refine AllReadyH.cons rfl (fun K hK => ?_) AllReadyH.nil
                go_simp
                refine hK.out _ _ trivial (fun hS => ?_)
                clear hK K
                have hown3 := hown2.store pos xi
                refine wpAnyH_done (by kernel_rfl) ?_ _
                go_wp2_with fail
                go_roundw
                case rel =>
                  refine ⟨q + 1, c7, A7, ds ++ [(pos : Int)], by omega, by rw [hnext.out], rfl, ?_, ?_, HB2, HD2, ?_, ?_⟩
                  · exact ownsRow_setCell_below (ownsRow_setCell_below ho7 (by simp) _) (by simp) _
                  · rw [HST.out, HSW.out]
                    exact hown3
                  · exact ((hbw7.setCell (p := ⟨g, i, none⟩) hgW _).setCell (p := ⟨g, pos, none⟩) hgW _).drew
                  · simpa using hg7
                case measure => simp [intOf]; omega
        · have hi0 : (k : Int) - 1 - q = 0 ∨ k = 0 := by omega
          have hlt3 : ¬ ((k : Int) - 1 - q ≥ 1) := by omega
          have HE : Hid (shufS ds k = l) := Lib.hid (by
            have e : (downL k).take q = downL k := List.take_of_length_le (by rw [downL_len]; omega)
            unfold shufS
            rw [← e]
            refine ext_at0 (by rw [hxl, hlen.out]) (fun j hj => ?_)
            rw [hxl] at hj
            by_cases hj0 : j = 0
            · subst hj0
              obtain ⟨pos, hpi, hpe, _⟩ := find_pos (i := 0) hxok HOK.out hxl hlen.out (by omega) (fun j h1 h2 => HB.out j (by omega) h2)
              obtain rfl : pos = 0 := by omega
              exact hpe
            · exact HB.out j (by omega) hj)
          have HMN : Hid (min (k - 1) q = q) := Lib.hid (by omega)
          have sd := hod.sl
          have hq60 : q ≤ 60 := by omega
          clear hi0 hxl hdl
          go_wp2_with fail
          refine (shuffle_ok _ _ _ _ _ _ k sd (Nat.le_refl _) (by omega) (fun z hz => by have := HD.out z hz; omega) (by omega)).mono ?_
          rw [HE.out]
          rintro x w8 ⟨A8, c8, rfl, ho8, hb8⟩
          rw [HMN.out]
          replace hbw := after_next hbw hb8
          go_wp2_with fail
          refine (SameInts_any _ _ _ _ _ _ _ _ _ _ _ (OwnI.sl ho8) (hs.below hbw) (by omega)).mono ?_
          rw [decide_eq_true rfl]
          rintro x w9 ⟨rfl, k9, rfl⟩
          go_wp2_with fail
          go_ret
          exact ⟨by simp, hbw.trans (below_draws _ _ k9)⟩
end Go.Proofs.Ytoahkaongmlfkaa
