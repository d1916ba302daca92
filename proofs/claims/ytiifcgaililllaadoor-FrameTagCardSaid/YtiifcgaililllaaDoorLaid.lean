/- sha's table: what the condition says of it; a world that meets it. -/
import Derived.Test.YtiifcgaililllaaDoorPwX
import Derived.Test.YtiifcgaililllaaDoorRows
import Derived.ChangeVars
import Derived.JoinedOf
import Derived.RowKit
import Derived.RowKitTokens
import Derived.LaidLaws
import Derived.LaidHandle
namespace Go.Proofs.YtiifcgaililllaaDoor
set_option linter.unusedSimpArgs false
set_option linter.unusedVariables false
open Go Go.RowKit Go.ChangeShapes Go.WideShapes

theorem kOwn : ownKnob Tryd.prog.godebug = none := by kernel_rfl
theorem kName : Tryd.prog.globalNamed "shallot/sha.k" = some 0 := by kernel_rfl
theorem kType : (Tryd.prog.globals[0]?).map (·.type) = some 80 := by kernel_rfl
theorem kCells : Tryd.prog.cellsOf 80 = 64 := by kernel_rfl
theorem kCell : Tryd.prog.cellsOf 68 = 1 := by kernel_rfl
theorem tabN_len : tabN.length = 64 := rfl
theorem int_of_trod {H : Type} {enc : TypeId × Value → H} {P : Program} {w : World} {base : Nat} {sp : Nat → Bool} {held : Bool} {fuel : Nat} {t : TypeId} {k : IntKind} {c : Value} {y : DataW H × List MemPlace}
    (ht : P.underlying t = some (.int k)) (h : DataW.trod enc P w base sp held fuel t [c] = some y) : ∃ n, c = .int k n ∧ y = (.lit (.int k n), []) := by
  cases fuel with
  | zero => simp [DataW.trod] at h
  | succ fuel =>
    cases c <;> simp [DataW.trod, ht] at h
    rename_i k' n
    obtain ⟨⟨rfl, _⟩, rfl⟩ := h
    exact ⟨n, rfl, rfl⟩
theorem mapM_at {α β : Type} {f : α → Option β} : ∀ {l : List α} {xs : List β}, l.mapM f = some xs → xs.length = l.length ∧ ∀ (i : Nat) (x : α), l[i]? = some x → ∃ y, f x = some y ∧ xs[i]? = some y
  | [], xs, h => by simp at h; subst h; exact ⟨rfl, fun i x hx => by simp at hx⟩
  | x :: l, xs, h => by
    rw [List.mapM_cons] at h
    simp only [Option.bind_eq_bind, Option.bind_eq_some_iff, Option.pure_def, Option.some.injEq] at h
    obtain ⟨y, hy, ys, hys, rfl⟩ := h
    obtain ⟨h1, h2⟩ := mapM_at hys
    refine ⟨by simp [h1], fun i z hz => ?_⟩
    rcases i with _ | i
    · simp at hz; subst hz; exact ⟨y, hy, rfl⟩
    · simp at hz; obtain ⟨u, q1, q2⟩ := h2 i z hz; exact ⟨u, q1, by simpa using q2⟩
/-- Cells of an array of numbers that read so. -/
theorem ints_of_trod {H : Type} {enc : TypeId × Value → H} {P : Program} {w : World} {base : Nat} {sp : Nat → Bool} {held : Bool} {fuel : Nat} {t e : TypeId} {k : IntKind} {n : Nat} {cs : List Value} {zs : List Int} {p : List MemPlace}
    (ht : P.underlying t = some (.array n e)) (he : P.underlying e = some (.int k)) (hn : P.cellsOf t = n) (h1 : P.cellsOf e = 1) (hz : zs.length = n)
    (h : DataW.trod enc P w base sp held fuel t cs = some (.agg (zs.map fun z => .lit (.int k z)), p)) : cs = zs.map fun z => Value.int k z := by
  cases fuel with
  | zero => simp [DataW.trod] at h
  | succ fuel =>
    simp only [DataW.trod, ht, hn, h1] at h
    split at h
    · rename_i hl
      simp only [Option.map_eq_some_iff, Prod.mk.injEq, DataW.agg.injEq] at h
      obtain ⟨xs, hxs, hx, _⟩ := h
      obtain ⟨q1, q2⟩ := mapM_at hxs
      apply List.ext_getElem?
      intro i
      by_cases hi : i < n
      · obtain ⟨y, hy, hyi⟩ := q2 i i (by simp [hi])
        have hc : (cs.drop (i * 1)).take 1 = [cs[i]'(by omega)] := by
          rw [Nat.mul_one, List.drop_eq_getElem_cons (by omega)]; rfl
        rw [hc] at hy
        obtain ⟨m, hm, rfl⟩ := int_of_trod he hy
        have hzi : zs[i]? = some m := by
          have := congrArg (fun l => l[i]?) hx
          simp only [List.getElem?_map, hyi, Option.map_some] at this
          cases hzz : zs[i]? with
          | none => rw [hzz] at this; simp at this
          | some z => rw [hzz] at this; simp at this; rw [this]
        rw [List.getElem?_map, hzi, List.getElem?_eq_getElem (by omega), hm]; rfl
      · rw [List.getElem?_eq_none (by omega), List.getElem?_eq_none (by simp; omega)]
    · cases h
abbrev kLaid : List (String × DataW Unit) := [("shallot/sha.k", Rows.laid_shallot_sha_k)]
theorem kLaid_eq : (Rows.laid_shallot_sha_k : DataW Unit) = .agg ((tabN.map fun n : Nat => (n : Int)).map fun z => .lit (.int .u32 z)) := by kernel_rfl
theorem cells_of_laid {W : World} (h : laidMetH Tryd.prog kLaid W) : W.var? Tryd.prog "shallot/sha.k" = some tabK.toArray := by
  have h' : laidMet Tryd.prog kLaid W := h
  obtain ⟨ps, ⟨g, t, cs, fuel, p, q, hg, ht, hvar, hd, _, _⟩, _⟩ := h'
  obtain rfl := Option.some.inj (kName.symm.trans hg)
  obtain rfl := Option.some.inj (kType.symm.trans ht)
  rw [hvar]
  congr 1
  rw [kLaid_eq] at hd
  have := ints_of_trod Tryd.underlying80 Tryd.underlying68 kCells kCell (by simp [tabN_len]) hd
  apply Array.ext'
  rw [this]
  simp [tabK]
/-- The table can be read for good. -/
theorem globs_of_laid {W : World} (h : laidMetH Tryd.prog kLaid W) : Globs (Cx (fun _ => True) W.heap.size) h0 μ0 W := fun g vs hg => by
  have hg0 : g = 0 ∧ vs = tabK := by
    unfold globs at hg
    split at hg
    · rename_i h; exact ⟨h, by injection hg with hg; exact hg.symm⟩
    · cases hg
  obtain ⟨rfl, rfl⟩ := hg0
  have hc : ∀ j, W.cell? ⟨0, j, none⟩ = tabK.toArray[j]? := fun j => World.var?_cell kName (cells_of_laid h) j
  have hb : 0 < W.heap.size := World.block_lt_of_cell? W ⟨0, 0, none⟩ (u := .int .u32 1116352408) (by rw [hc]; rfl)
  have hadd : ∀ j, (⟨0, 0, none⟩ : Addr).add j = ⟨0, j, none⟩ := fun j => by rw [Addr_add_mid, Nat.zero_add]
  have hv : ∀ (j : Nat) (l : L), (tabK.map L.sc)[j]? = some l → ∃ n : Int, l = .sc (.int .u32 n) ∧ W.cell? ⟨0, j, none⟩ = some (.int .u32 n) := fun j l hl => by
    rw [List.getElem?_map] at hl
    cases ht : tabK[j]? with
    | none => rw [ht] at hl; simp at hl
    | some v =>
      rw [ht] at hl; simp at hl; subst hl
      have hm := List.mem_of_getElem? ht
      obtain ⟨m, _, rfl⟩ := List.mem_map.1 hm
      exact ⟨m, rfl, by rw [hc]; simpa using ht⟩
  refine RL.pp _ _ (fun j => (tabK[j]?).getD undef) (fun j l hl => ?_) (fun j l hl => ?_) (fun j l hl => ?_)
  · obtain ⟨n, rfl, hn⟩ := hv j l hl
    refine ⟨⟨⟨hb, fun id ab hh => by cases hh⟩, .inl trivial⟩, ?_⟩
    rw [hadd, hn]
    rw [hc] at hn
    have : tabK[j]? = some (.int .u32 n) := by simpa using hn
    rw [this]; rfl
  · obtain ⟨n, rfl, hn⟩ := hv j l hl
    rw [hc] at hn
    have : tabK[j]? = some (.int .u32 n) := by simpa using hn
    show RL _ _ _ ((tabK[j]?).getD undef)
    rw [this]; exact RL.sc _
  · obtain ⟨n, rfl, hn⟩ := hv j l hl
    rw [hc] at hn
    have : tabK[j]? = some (.int .u32 n) := by simpa using hn
    show ((tabK[j]?).getD undef).oneCell' = true
    rw [this]; rfl
/-- A world that meets the condition. -/
noncomputable def laidWorld (os : Os) : World :=
  { World.holding Tryd.prog os ⟨#[], #[], []⟩ with heap := (World.holding Tryd.prog os ⟨#[], #[], []⟩).heap.modify 0 fun
      | .cells _ t frozen => .cells tabK.toArray t frozen
      | o => o }
end Go.Proofs.YtiifcgaililllaaDoor
