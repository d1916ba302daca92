/- The walk of the law PermPlaces. -/
import Derived.Test.YtoahkaongmlfkaaOpenI
import Derived.Test.YtoahkaongmlfkaaPermK
namespace Go.Proofs.Ytoahkaongmlfkaa
set_option linter.unusedSimpArgs false
set_option linter.unusedVariables false
open Go.RowKit

set_option maxHeartbeats 1600000 in
theorem walk_PermPlaces (W : World) (v0 : Value) (o0 : Opn W 22 v0) :
    Calls Try.prog 9 #[v0] W fun e w' => e = .returned (.bool true) ∧ Below W.heap.size W w' := by
  obtain ⟨A, n, c, l, rfl, hs, hm, hz⟩ := o0.ints
  clear o0
  unfold maxLen at hm
  have hcap := hs.cap
  by_cases hl : 60 < n
  · go_enter Try.func9, Try.ntmps9
    go_wp2_with (go_at_call 10; refine (live11_any _).mono ?_; rintro e w1 ⟨rfl, hbw⟩)
    go_ret
    exact ⟨rfl, hbw⟩
  have hlen := Lib.hid hs.len
  have IV := Lib.hid fun w (hb : Below W.heap.size W w) => inverse_any w _ _ _ _ _ (hs.below hb) hb.size (by omega)
  have CK := Lib.hid fun w (hb : Below W.heap.size W w) => permCheck_any w _ _ _ _ _ (hs.below hb) hb.size (by omega)
  rcases chkP_cases l with ⟨hc, hok⟩ | ⟨hc, hok⟩
  case inr =>
    have HI : Hid (invS l = ([], 1)) := Lib.hid (by unfold invS; rw [hc]; rfl)
    rw [HI.out] at IV
    rw [hc] at CK
    clear hc hok HI
    go_enter Try.func9, Try.ntmps9
    go_wp2_with (go_at_call 10; refine (live11_any _).mono ?_; rintro e w1 ⟨rfl, hbw⟩)
    refine (IV.out _ hbw).mono ?_
    rintro x w2 ⟨A2, c2, rfl, ho2, hb2⟩
    replace hbw := after_next hbw hb2
    go_wp2_with fail
    refine (CK.out _ hbw).mono ?_
    rintro x w3 ⟨rfl, hb3⟩
    go_wp2_with fail
    go_ret
    exact ⟨rfl, after_next hbw hb3⟩
  have HI : Hid (invS l = (invL l, 0)) := Lib.hid (by unfold invS; rw [if_pos hc])
  have HL : Hid ((invL l).length = n) := Lib.hid (by rw [invL_len]; exact hlen.out)
  have HW : Hid (∀ i, i < n → ∃ v : Nat, v < n ∧ at0 (invL l) i = (v : Int) ∧ at0 l v = (i : Int)) := Lib.hid fun i hi => by
    have := invL_where hok i (by rw [hlen.out]; exact hi)
    rw [hlen.out] at this
    exact this
  rw [HI.out] at IV
  clear hc hok HI
  go_enter Try.func9, Try.ntmps9
  go_wp2_with (go_at_call 10; refine (live11_any _).mono ?_; rintro e w1 ⟨rfl, hbw⟩)
  refine (IV.out _ hbw).mono ?_
  rintro x w2 ⟨A2, c2, rfl, ho2, hb2⟩
  replace ho2 : OwnI w2 _ A2 (invL l).length c2 (invL l) := ho2
  have HL' := HL.out
  rw [HL'] at ho2
  replace hbw := after_next hbw hb2
  have s2 := ho2.sl
  have hne : ((n : Int) != n) = false := by simp
  generalize invL l = q at *
  go_wp2_with fail
  go_loopw [39] (fun i wr => ∃ k : Nat, k ≤ n ∧ i = .int .i64 k ∧ wr = w2) (fun i _ => n - (intOf i).toNat)
  case atStart => exact ⟨0, Nat.zero_le _, rfl, rfl⟩
  case round =>
    obtain ⟨k, hk, rfl, rfl⟩ := hrel
    by_cases hlt : k < n
    · obtain ⟨p, z, rfl, _, hcell, hzk⟩ := s2.at_ hlt
      obtain ⟨v, hv, e1, e2⟩ := HW.out k hlt
      have hz2 : z = (v : Int) := by rw [← e1]; simp [at0, List.getD, hzk]
      subst hz2
      obtain ⟨p', z', rfl, _, hcell', hzk'⟩ := (hs.below hbw).at_ hv
      have hz2' : z' = (k : Int) := by rw [← e2]; simp [at0, List.getD, hzk']
      subst hz2'
      clear hzk hzk' e1 e2
      have hv0 : ¬ (v : Int) < 0 := by omega
      have hv1 : ¬ (n : Int) ≤ v := by omega
      have hv2 : (v : Int) < n := by omega
      have hki : (k : Int) < n := by omega
      have hkk : ((k : Int) != k) = false := by simp
      go_wp2_with fail
      go_roundw
      case rel => exact ⟨k + 1, by omega, by simp, by first | rfl | trivial⟩
      case measure => simp [intOf]; omega
    · obtain rfl : k = n := by omega
      go_wp2_with fail
      go_ret
      exact ⟨rfl, hbw⟩
end Go.Proofs.Ytoahkaongmlfkaa
