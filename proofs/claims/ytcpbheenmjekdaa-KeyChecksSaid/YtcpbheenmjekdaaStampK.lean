/- The contracts of package stamp: whether a stamp may be. -/
import Derived.Test.YtcpbheenmjekdaaStampS
namespace Go.Proofs.Ytcpbheenmjekdaa
set_option linter.unusedSimpArgs false
set_option linter.unusedVariables false
open Go.RowKit

/-- P4.1: a chain of 1 to 8 servers, each from 1 to 16, none twice. -/
def okChain (l : List Int) : Bool := decide (1 ≤ l.length ∧ l.length ≤ 8 ∧ (∀ z ∈ l, 1 ≤ z ∧ z ≤ 16) ∧ l.Nodup)
def chkS (l : List Int) : Int := if okChain l then 0 else 1

/-- The servers that were met, as the array has them. -/
def metA (l : List Int) : Array Value := ((List.range 17).map fun j : Nat => Value.bool (decide ((j : Int) ∈ l))).toArray
theorem metA_get (l : List Int) (j : Nat) (hj : j < 17) : (metA l)[j]? = some (.bool (decide ((j : Int) ∈ l))) := by
  unfold metA
  simp [hj]
theorem metA_set (l : List Int) (j : Nat) (hj : j < 17) : (metA l).setIfInBounds j (.bool true) = metA (l ++ [(j : Int)]) := by
  apply Array.ext_getElem?
  intro i
  by_cases hi : i < 17
  · rw [metA_get _ i hi, Array.getElem?_setIfInBounds]
    by_cases hij : j = i
    · subst hij
      simp [metA, hj]
    · rw [if_neg hij, metA_get _ i hi]
      have : ¬ ((i : Int) = j) := by omega
      simp [this]
  · rw [Array.getElem?_eq_none (by simp [metA]; omega), Array.getElem?_eq_none (by simp [metA]; omega)]
theorem chk_bad {l : List Int} (h : ¬ ((∀ z ∈ l, 1 ≤ z ∧ z ≤ 16) ∧ l.Nodup)) : chkS l = 1 := by
  unfold chkS okChain
  rw [decide_eq_false (fun hh => h hh.2.2)]
  rfl
theorem chk_good {l : List Int} (h1 : 1 ≤ l.length) (h8 : l.length ≤ 8) (h : (∀ z ∈ l, 1 ≤ z ∧ z ≤ 16) ∧ l.Nodup) : chkS l = 0 := by
  unfold chkS okChain
  rw [decide_eq_true ⟨h1, h8, h⟩]
  rfl
theorem take_mem {l : List Int} {k : Nat} {z : Int} (hz : l[k]? = some z) (hm : z ∈ l.take k) : ¬ l.Nodup := by
  intro hn
  have hk := (List.getElem?_eq_some_iff.1 hz).1
  have e : l = l.take k ++ z :: l.drop (k + 1) := by
    have : l.drop k = z :: l.drop (k + 1) := by rw [List.drop_eq_getElem_cons hk, (List.getElem?_eq_some_iff.1 hz).2]
    rw [← this, List.take_append_drop]
  rw [e, List.nodup_append] at hn
  exact hn.2.2 z hm z List.mem_cons_self rfl

set_option maxHeartbeats 800000 in
theorem stampCheck_any (w : World) (B : Nat) (e r n c : Nat) (A : Option Addr) (l : List Int) (h : SlI w B A n c l) (hB : B ≤ w.heap.size) (hn : n ≤ 140737488355328) :
    Calls Try.prog 21 #[stV e r A n c] w fun x w' => x = .returned (.int .i64 (chkS l)) ∧ Below w.heap.size w w' := by
  have hlen := Lib.hid h.len
  by_cases hr : n < 1 ∨ 8 < n
  · have HS : Hid (chkS l = 1) := Lib.hid (by
      unfold chkS okChain
      rw [decide_eq_false (by rw [hlen.out]; omega)]
      rfl)
    rcases hr with hr | hr
    all_goals
      go_enter Try.func21, Try.ntmps21
      go_wp2
      go_ret
      rw [HS.out]
      exact ⟨rfl, (Below.refl _ _).alloc (Nat.le_refl _) _⟩
  · have h1 : 1 ≤ n := by omega
    have h8 : n ≤ 8 := by omega
    clear hr hn
    go_enter Try.func21, Try.ntmps21
    go_wp2
    go_loopw [19] (fun i wr => ∃ k : Nat, k ≤ n ∧ i = .int .i64 k ∧ Row wr (w.heap.size + 1) 45 (metA (l.take k)) ∧ Below w.heap.size w wr ∧ Hid ((∀ z ∈ l.take k, 1 ≤ z ∧ z ≤ 16) ∧ (l.take k).Nodup)) (fun i _ => n - (intOf i).toNat)
    case atStart =>
      have h0 := Row.new (w.alloc (.cells #[.int .u64 (e : Int), .int .u64 (r : Int), .slice A n c] 32)) 45 (metA [])
      rw [World.size_alloc] at h0
      exact ⟨0, Nat.zero_le _, rfl, h0, ((Below.refl _ _).alloc (Nat.le_refl _) _).alloc (by simp) _, Lib.hid ⟨by simp, by simp⟩⟩
    case round =>
      obtain ⟨k, hk, rfl, hrow, hb, HK⟩ := hrel
      by_cases hlt : k < n
      · obtain ⟨p, z, rfl, hpB, hcell, hz⟩ := (h.below (hb.mono hB)).at_ hlt
        have HZ := Lib.hid hz
        clear hz
        by_cases hrange : z < 1 ∨ 16 < z
        · have HS : Hid (chkS l = 1) := Lib.hid (chk_bad (fun hh => by
            have := hh.1 z (List.mem_of_getElem? HZ.out)
            omega))
          rcases hrange with hz | hz
          all_goals
            go_wp2
            go_ret
            rw [HS.out]
            exact ⟨rfl, hb⟩
        · obtain ⟨j, rfl⟩ := Int.eq_ofNat_of_zero_le (show 0 ≤ z by omega)
          have hj1 : 1 ≤ j := by omega
          have hj16 : j ≤ 16 := by omega
          clear hrange
          have hc := (hrow.cell j).trans (metA_get _ j (by omega))
          have hf := hrow.free j
          by_cases hm : (j : Int) ∈ l.take k
          · have HS : Hid (chkS l = 1) := Lib.hid (chk_bad (fun hh => take_mem HZ.out hm hh.2))
            rw [decide_eq_true hm] at hc
            clear hm
            go_wp2
            go_ret
            rw [HS.out]
            exact ⟨rfl, hb⟩
          · rw [decide_eq_false hm] at hc
            have HM := Lib.hid hm
            clear hm
            go_wp2
            go_roundw
            case rel =>
              refine ⟨k + 1, by omega, by go_num, ?_, hb.setCell (by simp) _, Lib.hid ?_⟩
              · rw [take_nextI HZ.out, ← metA_set _ j (by omega)]
                exact hrow.set_ j _
              · rw [take_nextI HZ.out]
                refine ⟨?_, ?_⟩
                · intro x hx
                  rcases List.mem_append.1 hx with hx | hx
                  · exact HK.out.1 x hx
                  · rw [List.mem_singleton.1 hx]; omega
                · rw [List.nodup_append]
                  refine ⟨HK.out.2, by simp, ?_⟩
                  intro a ha b hb' e
                  rw [List.mem_singleton.1 hb'] at e
                  exact HM.out (e ▸ ha)
            case measure => simp [intOf]; omega
      · obtain rfl : k = n := by omega
        have HS : Hid (chkS l = 0) := Lib.hid (by
          have := HK.out
          rw [List.take_of_length_le (by rw [hlen.out]; exact Nat.le_refl _)] at this
          exact chk_good (by rw [hlen.out]; exact h1) (by rw [hlen.out]; exact h8) this)
        go_wp2
        go_ret
        rw [HS.out]
        exact ⟨rfl, hb⟩

end Go.Proofs.Ytcpbheenmjekdaa
