/- The contracts of package perm: whether numbers are a shuffle, its inverse. -/
import Derived.Test.YtoahkaongmlfkaaPermQ
import Derived.Test.YtoahkaongmlfkaaSameI
namespace Go.Proofs.Ytoahkaongmlfkaa
set_option linter.unusedSimpArgs false
set_option linter.unusedVariables false
open Go.RowKit

theorem tyBool : SlTy Try.prog 45 4 (.bool false) 1 1 :=
  ⟨Try.underlying45, info_parts (by kernel_rfl), rfl, by decide, by intro u hu; simp [Value.cells] at hu; subst hu; rfl⟩

/-- What was met, as the row has it. -/
def metL (n : Nat) (l : List Int) : List Value := (List.range n).map fun j : Nat => Value.bool (decide ((j : Int) ∈ l))
theorem metL_get (n : Nat) (l : List Int) (j : Nat) (hj : j < n) : (metL n l)[j]? = some (.bool (decide ((j : Int) ∈ l))) := by
  unfold metL
  simp [hj]
theorem metL_set (n : Nat) (l : List Int) (j : Nat) (hj : j < n) : (metL n l).set j (.bool true) = metL n (l ++ [(j : Int)]) := by
  apply List.ext_getElem?
  intro i
  by_cases hi : i < n
  · rw [metL_get _ _ i hi, List.getElem?_set]
    by_cases hij : j = i
    · subst hij
      simp [metL, hj]
    · rw [if_neg hij, metL_get _ _ i hi]
      have : ¬ ((i : Int) = j) := by omega
      simp [this]
  · rw [List.getElem?_eq_none (by simp [metL]; omega), List.getElem?_eq_none (by simp [metL]; omega)]
theorem metL_nil (n : Nat) : metL n [] = List.replicate n (.bool false) := by
  unfold metL
  apply List.ext_getElem?
  intro i
  by_cases hi : i < n <;> simp [hi]

def OwnT (w : World) (base g n : Nat) (vs : List Value) : Prop := Own w base 4 1 (some ⟨g, 0, none⟩) n n vs
theorem OwnT.cell {w : World} {base g n j : Nat} {vs : List Value} (h : OwnT w base g n vs) (hj : j < n) : w.cell? ⟨g, j, none⟩ = vs[j]? := by
  rw [World.ownsRow.cellAt h j (by omega)]
theorem OwnT.free {w : World} {base g n : Nat} {vs : List Value} (h : OwnT w base g n vs) (j : Nat) : w.frozen? ⟨g, j, none⟩ = false := World.ownsRow.frozenAt h j
theorem OwnT.store {w : World} {base g n : Nat} {vs : List Value} (h : OwnT w base g n vs) (j : Nat) (u : Value) : OwnT (w.setCell ⟨g, j, none⟩ u) base g n (vs.set j u) := (World.ownsRow.stored h j u).1
theorem OwnT.cast {w : World} {base g n : Nat} {vs vs' : List Value} (h : OwnT w base g n vs) (e : vs = vs') : OwnT w base g n vs' := e ▸ h

theorem take_mem' {l : List Int} {k : Nat} {z : Int} (hz : l[k]? = some z) (hm : z ∈ l.take k) : ¬ l.Nodup := by
  intro hn
  have hk := (List.getElem?_eq_some_iff.1 hz).1
  have e : l = l.take k ++ z :: l.drop (k + 1) := by
    have : l.drop k = z :: l.drop (k + 1) := by rw [List.drop_eq_getElem_cons hk, (List.getElem?_eq_some_iff.1 hz).2]
    rw [← this, List.take_append_drop]
  rw [e, List.nodup_append] at hn
  exact hn.2.2 z hm z List.mem_cons_self rfl

set_option maxHeartbeats 800000 in
theorem permCheck_any (w : World) (B n c : Nat) (A : Option Addr) (l : List Int) (h : SlI w B A n c l) (hB : B ≤ w.heap.size) (hn : n ≤ 140737488355328) :
    Calls Try.prog 19 #[.slice A n c] w fun x w' => x = .returned (.int .i64 (chkP l)) ∧ Below w.heap.size w w' := by
  have hlen := Lib.hid h.len
  by_cases hr : 1024 < n
  · have HS : Hid (chkP l = 1) := Lib.hid (by
      unfold chkP okP
      rw [decide_eq_false (by rw [hlen.out]; omega)]
      rfl)
    go_enter Try.func19, Try.ntmps19
    go_wp2
    go_ret
    rw [HS.out]
    exact ⟨rfl, Below.refl _ _⟩
  · have h8 : n ≤ 1024 := by omega
    clear hn
    go_enter Try.func19, Try.ntmps19
    go_wp2_with (at_make; refine wpList_make_rd tyBool rfl _ _ rfl w.heap.size _ _ n rfl rfl (by omega) (by unfold maxLen; omega) (Nat.le_refl _) ?_; intro w1 ho1 hg1 hlt1)
    have ho1' : OwnT w1 w.heap.size w.heap.size n (metL n []) := by
      have e : (madeCells (Value.bool false).cells (n * 1)).toList = metL n [] := by
        rw [Nat.mul_one, metL_nil]
        exact toList_madeCells_one (.bool false) n
      rw [e] at ho1
      exact ho1
    have hb1 : Below w.heap.size w w1 := (Below.refl _ _).grown hg1 (Nat.le_refl _) (by simp)
    clear ho1 hg1
    go_loopw [14] (fun i wr => ∃ k : Nat, k ≤ n ∧ i = .int .i64 k ∧ OwnT wr w.heap.size w.heap.size n (metL n (l.take k)) ∧ Below w.heap.size w wr ∧ Hid ((∀ z ∈ l.take k, 0 ≤ z ∧ z < n) ∧ (l.take k).Nodup)) (fun i _ => n - (intOf i).toNat)
    case atStart => exact ⟨0, Nat.zero_le _, rfl, ho1'.cast (by simp), hb1, Lib.hid ⟨by simp, by simp⟩⟩
    case round =>
      obtain ⟨k, hk, rfl, hrow, hb, HK⟩ := hrel
      by_cases hlt : k < n
      · obtain ⟨p, z, rfl, hpB, hcell, hz⟩ := (h.below (hb.mono hB)).at_ hlt
        have HZ := Lib.hid hz
        clear hz
        by_cases hrange : z < 0 ∨ (¬ z < 0 ∧ (n : Int) ≤ z)
        · have HS : Hid (chkP l = 1) := Lib.hid (chkP_bad (fun hh => by
            have := hh.1 z (List.mem_of_getElem? HZ.out)
            rw [hlen.out] at this
            omega))
          rcases hrange with hz | ⟨hz0, hz⟩
          all_goals
            go_wp2
            go_ret
            rw [HS.out]
            exact ⟨rfl, hb⟩
        · obtain ⟨j, rfl⟩ := Int.eq_ofNat_of_zero_le (show 0 ≤ z by omega)
          have hj1 : j < n := by omega
          have hj2 : ¬ (n : Int) ≤ j := by omega
          have hji : (j : Int) < n := by omega
          clear hrange
          have hc := (hrow.cell hj1).trans (metL_get _ _ j hj1)
          have hf := hrow.free j
          by_cases hm : (j : Int) ∈ l.take k
          · have HS : Hid (chkP l = 1) := Lib.hid (chkP_bad (fun hh => take_mem' HZ.out hm hh.2))
            rw [decide_eq_true hm] at hc
            clear hm
            go_wp2
            go_ret
            rw [HS.out]
            exact ⟨rfl, hb⟩
          · rw [decide_eq_false hm] at hc
            have HM := Lib.hid hm
            clear hm
            go_wp2
            go_roundw
            case rel =>
              refine ⟨k + 1, by omega, by go_num, ?_, hb.setCell (by simp) _, Lib.hid ?_⟩
              · rw [take_nextI HZ.out, ← metL_set _ _ j hj1]
                exact hrow.store j _
              · rw [take_nextI HZ.out]
                refine ⟨?_, ?_⟩
                · intro x hx
                  rcases List.mem_append.1 hx with hx | hx
                  · exact HK.out.1 x hx
                  · rw [List.mem_singleton.1 hx]; omega
                · rw [List.nodup_append]
                  refine ⟨HK.out.2, by simp, ?_⟩
                  intro a ha b hb' e
                  rw [List.mem_singleton.1 hb'] at e
                  exact HM.out (e ▸ ha)
            case measure => simp [intOf]; omega
      · obtain rfl : k = n := by omega
        have HS : Hid (chkP l = 0) := Lib.hid (by
          have := HK.out
          rw [List.take_of_length_le (by rw [hlen.out]; exact Nat.le_refl _)] at this
          exact chkP_good (by rw [hlen.out]; exact h8) (by rw [hlen.out]; exact this))
        go_wp2
        go_ret
        rw [HS.out]
        exact ⟨rfl, hb⟩

/-- P11.2: the inverse, or why there is none. -/
def invS (l : List Int) : List Int × Int := if chkP l = 0 then (invL l, 0) else ([], chkP l)
def TellsI (w : World) (r : List Int × Int) (e : Ending) (w' : World) : Prop :=
  ∃ A c, e = .returned (.tuple #[.slice A r.1.length c, .int .i64 r.2]) ∧ OwnI w' w.heap.size A r.1.length c r.1 ∧ Below w.heap.size w w'

set_option maxHeartbeats 800000 in
theorem inverse_any (w : World) (B n c : Nat) (A : Option Addr) (l : List Int) (h : SlI w B A n c l) (hB : B ≤ w.heap.size) (hn : n ≤ 140737488355328) :
    Calls Try.prog 15 #[.slice A n c] w (TellsI w (invS l)) := by
  have hlen := Lib.hid h.len
  rcases chkP_cases l with ⟨hc, hok⟩ | ⟨hc, hok⟩
  · have HI : Hid (invS l = (invL l, 0)) := Lib.hid (by unfold invS; rw [if_pos hc])
    have HC := Lib.hid hc
    have hspec := okP_spec hok
    rw [h.len] at hspec
    have hn8 := hspec.1
    have HR := Lib.hid hspec.2.1
    rw [HI.out]
    clear hc hok hspec
    go_enter Try.func15, Try.ntmps15
    go_wp2_with fail
    refine (permCheck_any _ _ _ _ _ _ h hB hn).mono ?_
    rw [HC.out]
    rintro e w1 ⟨rfl, hb1⟩
    have hz1 := hb1.size
    go_wp2_with (at_make; refine wpList_make_i rfl _ _ rfl w.heap.size n rfl rfl (by omega) hz1 ?_; intro w2 ho2 hb2 hlt2)
    replace hb2 := after_next hb1 hb2
    have hg : w.heap.size ≤ w1.heap.size := hz1
    generalize w1.heap.size = g at *
    go_loopw [18] (fun i wr => ∃ k : Nat, k ≤ n ∧ i = .int .i64 k ∧ OwnI wr w.heap.size (some ⟨g, 0, none⟩) n n (invA l k) ∧ Below w.heap.size w wr) (fun i _ => n - (intOf i).toNat)
    case atStart => exact ⟨0, Nat.zero_le _, rfl, ho2.cast (by unfold invA; rw [hlen.out]; rfl), hb2⟩
    case round =>
      obtain ⟨k, hk, rfl, hown, hb⟩ := hrel
      by_cases hlt : k < n
      · obtain ⟨p, z, rfl, hpB, hcell, hz⟩ := (h.below (hb.mono hB)).at_ hlt
        have hzr := HR.out z (List.mem_of_getElem? hz)
        have hat : at0 l k = z := by simp [at0, List.getD, hz]
        obtain ⟨j, rfl⟩ := Int.eq_ofNat_of_zero_le hzr.1
        have HA := Lib.hid hat
        clear hz hat
        have hj : j < n := by omega
        have hji : (j : Int) < n := by omega
        have hc := hown.cell hj
        have hf := hown.free j
        go_wp2
        go_roundw
        case rel =>
          refine ⟨k + 1, by omega, by go_num, ?_, hb.setCell (by simpa using hg) _⟩
          refine (hown.store j (k : Int)).cast ?_
          rw [invA_next, HA.out, Int.toNat_natCast]
        case measure => simp [intOf]; omega
      · obtain rfl : k = n := by omega
        have HE : Hid (invA l k = invL l) := Lib.hid (by unfold invL; rw [hlen.out])
        have HL : Hid ((invL l).length = k) := Lib.hid (by rw [invL_len]; exact hlen.out)
        go_wp2
        go_ret2
        refine ⟨some ⟨g, 0, none⟩, k, ?_, ?_, hb⟩
        · rw [HL.out]; rfl
        · rw [HL.out, ← HE.out]
          exact hown
  · have HI : Hid (invS l = ([], 1)) := Lib.hid (by unfold invS; rw [hc]; rfl)
    have HC := Lib.hid hc
    rw [HI.out]
    clear hc hok
    go_enter Try.func15, Try.ntmps15
    go_wp2_with fail
    refine (permCheck_any _ _ _ _ _ _ h hB hn).mono ?_
    rw [HC.out]
    rintro e w1 ⟨rfl, hb1⟩
    go_wp2_with fail
    go_ret2
    exact ⟨none, 0, rfl, OwnI.nil _ _, hb1⟩

/-- Where no shuffle may be. -/
theorem shuffle_bad (w : World) (A : Option Addr) (m c : Nat) (n : Int) (hn : n < 0 ∨ (¬ n < 0 ∧ 1024 < n)) :
    Calls Try.prog 11 #[.int .i64 n, .slice A m c] w fun e w' => e = .returned (.tuple #[.slice none 0 0, .int .i64 0, .int .i64 1]) ∧ Below w.heap.size w w' := by
  rcases hn with h | ⟨h, h'⟩
  all_goals
    go_enter Try.func11, Try.ntmps11
    go_wp2_with fail
    refine bodyPost_ret (v := .tuple #[.slice none 0 0, .int .i64 0, .int .i64 1]) (by simp [results, Try.results11, go_sem]) rfl ?_
    exact ⟨rfl, (Below.refl _ _).alloc (Nat.le_refl _) _⟩

theorem live11_any (w : World) : Calls Try.prog 10 #[] w fun e w' => e = .returned (.bool true) ∧ Below w.heap.size w w' := by
  have HS := Lib.hid fun w => shuffle_ok w 0 none 0 0 [] 3 (SlI.none_ _ _ _ _) (Nat.zero_le _) (by decide) (by simp) (by decide)
  have e3 : shufS [] 3 = [1, 2, 0] := by decide
  rw [e3] at HS
  go_enter Try.func10, Try.ntmps10
  go_wp2_with fail
  refine (HS.out _).mono ?_
  rintro e w1 ⟨A1, c1, rfl, ho1, hb1⟩
  have s1 := (OwnI.sl ho1).lay (.cells #[.int .i64 1, .int .i64 2, .int .i64 0] 3)
  go_wp2_with fail
  refine (SameInts_any _ _ _ _ _ _ _ _ _ _ _ s1 (SlI.laidN (zs := [1, 2, 0]) rfl rfl rfl) (by decide)).mono ?_
  rw [decide_eq_true rfl]
  rintro e w2 ⟨rfl, k, rfl⟩
  go_wp2_with fail
  go_ret
  exact ⟨rfl, (after_lay hb1 _).trans (below_draws _ _ _)⟩
end Go.Proofs.Ytoahkaongmlfkaa
