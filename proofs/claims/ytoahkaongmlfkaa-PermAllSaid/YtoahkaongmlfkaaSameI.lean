/- Whether two lists of ints are the same: the document's answer. -/
import Derived.Test.YtoahkaongmlfkaaBase
namespace Go.Proofs.Ytoahkaongmlfkaa
set_option linter.unusedSimpArgs false
set_option linter.unusedVariables false
open Go.RowKit

set_option maxHeartbeats 400000 in
theorem SameInts_any (w : World) (B B' : Nat) (A A' : Option Addr) (n c n' c' : Nat) (a b : List Int) (ha : SlI w B A n c a) (hb : SlI w B' A' n' c' b) (hn : n ≤ 140737488355328) :
    Calls Try.prog 13 #[.slice A n c, .slice A' n' c'] w fun e w' => e = .returned (.bool (decide (a = b))) ∧ ∃ k, w' = w.drewN k := by
  have hla := Lib.hid ha.len
  have hlb := Lib.hid hb.len
  by_cases hne : n = n'
  · subst hne
    go_enter Try.func13, Try.ntmps13
    go_wp2
    go_loopw [13] (fun i wr => ∃ k q : Nat, k ≤ n ∧ i = .int .i64 k ∧ Hid (a.take k = b.take k) ∧ wr = w.drewN q) (fun i _ => n - (intOf i).toNat)
    case atStart => exact ⟨0, 0, Nat.zero_le _, rfl, Lib.hid (by simp), rfl⟩
    case round =>
      obtain ⟨k, q, hk, rfl, HE, rfl⟩ := hrel
      by_cases hlt : k < n
      · obtain ⟨p, x, rfl, _, hcx, hx⟩ := ha.at_ hlt
        obtain ⟨p', y, rfl, _, hcy, hy⟩ := hb.at_ hlt
        have HX := Lib.hid hx
        have HY := Lib.hid hy
        clear hx hy
        by_cases hxy : x = y
        · subst hxy
          go_wp2_with fail
          go_quiet (fail)
          go_wp2_with fail
          go_roundw
          case rel => exact ⟨k + 1, q + nq, by omega, by go_num, Lib.hid (by rw [take_nextI HX.out, take_nextI HY.out, HE.out]), rfl⟩
          case measure => simp [intOf]; omega
        · have hne : (x != y) = true := bne_iff_ne.2 hxy
          have HD : Hid (decide (a = b) = false) := Lib.hid (decide_eq_false (fun e => by
            subst e
            have := HX.out.symm.trans HY.out
            injection this with this
            exact hxy this))
          go_wp2_with fail
          go_quiet (fail)
          go_wp2_with fail
          go_ret
          rw [HD.out]
          exact ⟨rfl, q + nq, by rw [World.drewN_drewN]⟩
      · obtain rfl : k = n := by omega
        have HD : Hid (decide (a = b) = true) := Lib.hid (decide_eq_true (by
          have := HE.out
          rw [List.take_of_length_le (by rw [hla.out]; exact Nat.le_refl _), List.take_of_length_le (by rw [hlb.out]; exact Nat.le_refl _)] at this
          exact this))
        go_wp2_with fail
        go_ret
        rw [HD.out]
        exact ⟨rfl, q, rfl⟩
  · have hd : decide (a = b) = false := decide_eq_false (fun e => hne (by rw [← hla.out, ← hlb.out, e]))
    rw [hd]
    have hne' : ((n : Int) != n') = true := by rw [bne_iff_ne]; omega
    go_enter Try.func13, Try.ntmps13
    go_wp2
    go_ret
    exact ⟨rfl, 0, rfl⟩


/-! ### Same -/
end Go.Proofs.Ytoahkaongmlfkaa
