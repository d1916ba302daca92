/- Arrays of bytes, handed in. -/
import Derived.Test.YtiifcgaililllaaDoorPwP
import Derived.Test.YtiifcgaililllaaDoorPwSg
import Derived.ChangeShapes
namespace Go.Proofs.YtiifcgaililllaaDoor
set_option linter.unusedSimpArgs false
set_option linter.unusedVariables false
open Go Go.RowKit Go.ChangeShapes Go.WideShapes
theorem mapM_each {α β : Type} {f : α → Option β} : ∀ {l : List α} {xs : List β}, l.mapM f = some xs → ∀ (i : Nat) (x : α), l[i]? = some x → ∃ y, f x = some y
  | [], xs, h => fun i x hx => by simp at hx
  | x :: l, xs, h => by
    rw [List.mapM_cons] at h
    simp only [Option.bind_eq_bind, Option.bind_eq_some_iff, Option.pure_def, Option.some.injEq] at h
    obtain ⟨y, hy, ys, hys, rfl⟩ := h
    have h2 := mapM_each hys
    intro i z hz
    rcases i with _ | i
    · simp at hz; subst hz; exact ⟨y, hy⟩
    · simp at hz; exact h2 i z hz
theorem all_ints {k : IntKind} : ∀ {cs : List Value}, (∀ (i : Nat) (h : i < cs.length), ∃ n : Int, cs[i] = .int k n ∧ k.min ≤ n ∧ n ≤ k.max) → ∃ zs : List Int, cs = zs.map (fun z => Value.int k z) ∧ ∀ z ∈ zs, k.min ≤ z ∧ z ≤ k.max
  | [], _ => ⟨[], rfl, by simp⟩
  | c :: cs, h => by
    obtain ⟨n, hn, h1⟩ := h 0 (by simp)
    obtain ⟨zs, rfl, h2⟩ := all_ints (cs := cs) (fun i hi => h (i + 1) (by simpa using hi))
    refine ⟨n :: zs, by simp at hn; simp [hn], fun z hz => ?_⟩
    rcases List.mem_cons.1 hz with rfl | hz
    · exact h1
    · exact h2 z hz
theorem Shape.mapOk {α β : Type} {t : TypeId} {E : α → List L} {E' : β → List L} {ok : α → Prop} {ok' : β → Prop} (h : Shape t E ok) (g : α → β) (hE : ∀ x, ok x → E x = E' (g x)) (hok : ∀ x, ok x → ok' (g x)) : Shape t E' ok' := fun W H enc n cs y hy hw => by
  obtain ⟨x, k, r⟩ := h W H enc n cs y hy hw
  exact ⟨g x, hok x k, by rw [← hE x k]; exact r⟩
/-- An array of numbers. -/
theorem shape_ints {t e : TypeId} {k : IntKind} {n : Nat} (ht : Tryd.prog.underlying t = some (.array n e)) (he : Tryd.prog.underlying e = some (.int k)) (hn : Tryd.prog.cellsOf t = n) (h1 : Tryd.prog.cellsOf e = 1) :
    Shape t (fun zs : List Int => zs.map fun z => L.sc (.int k z)) (fun zs => zs.length = n ∧ ∀ z ∈ zs, k.min ≤ z ∧ z ≤ k.max) := fun W H enc fuel cs y hy hw => by
  cases fuel with
  | zero => simp [DataW.trod] at hy
  | succ fuel =>
    simp only [DataW.trod, ht, hn, h1] at hy
    split at hy
    · rename_i hl
      obtain ⟨xs, hxs, _⟩ := Option.map_eq_some_iff.1 hy
      have q := mapM_each hxs
      obtain ⟨zs, rfl, hz⟩ := all_ints (k := k) (cs := cs) (fun i hi => by
        obtain ⟨z, hz⟩ := q i i (List.getElem?_range (by omega))
        have hc : (cs.drop (i * 1)).take 1 = [cs[i]'(by omega)] := by
          rw [Nat.mul_one, List.drop_eq_getElem_cons (by omega)]; rfl
        rw [hc] at hz
        obtain ⟨a, ha, _, hwf⟩ := DataW.trod_int he hz
        simp [Lit.wf] at hwf
        exact ⟨a, by first | exact ha | simpa using ha, hwf⟩)
      refine ⟨zs, ⟨by simpa using hl, hz⟩, by simp, fun j l v hj hv => ?_⟩
      rw [List.getElem?_map] at hj hv
      obtain ⟨z, hz1, rfl⟩ := Option.map_eq_some_iff.1 hj
      rw [hz1] at hv; simp at hv; subst hv
      exact ⟨rfl, RL.sc _⟩
    · cases hy
theorem OpnR.cells_arr {W : World} {t e : TypeId} {n : Nat} {v : Value} (h : OpnR W t v) (ht : Tryd.prog.underlying t = some (.array n e)) : ∃ cs, v = .agg cs := by
  obtain ⟨H, enc, base, d, p, hv, _⟩ := h
  simp only [Value.okWide, ht] at hv
  obtain ⟨cs, h1, _⟩ := hv
  exact ⟨cs, h1⟩
/-! ### Arrays of bytes -/
def bC (b : List UInt8) : List L := b.map fun x => .sc (byV x)
theorem bC_length (l : List UInt8) : (bC l).length = l.length := by simp [bC]
theorem bC_rows (l : List UInt8) : (bC l).map (fun x => [x]) = bytesE l := by simp [bC, bytesE]
@[simp] theorem bC_pers (l : List UInt8) : ∀ x ∈ bC l, persL x = true := by
  intro x hx
  obtain ⟨y, _, rfl⟩ := List.mem_map.1 hx; rfl
@[simp] theorem all_bC (l : List UInt8) : (bC l).all persL = true := by
  rw [List.all_eq_true]; exact bC_pers l
@[simp] theorem allP_bC (l : List UInt8) : allP [bC l] := by
  intro e he; simp at he; subst he; exact bC_pers l
theorem leEs_bC {ρ : List Nat} (l : List UInt8) : leEs ρ [bC l] [bC l] := leEs_self (allP_bC l)
theorem bC_take_self (l : List UInt8) : (bC l).take l.length = bC l := by rw [← bC_length, List.take_length]
theorem bC_own (l : List UInt8) : List.flatMap ownIdsL (bC l) = [] := by simp [bC, ownIdsL, List.flatMap_map]
theorem bC_ids (l : List UInt8) : List.flatMap idsL (bC l) = [] := by simp [bC, idsL, List.flatMap_map]
theorem bC_shift (l : List UInt8) (k : Nat) : (bC l).map (shiftL k) = bC l := by simp [bC, shiftL]
theorem bC_frz (l : List UInt8) (id : Nat) (es : List (List L)) : (bC l).map (frzL id es) = bC l := by simp [bC, frzL]
@[simp] theorem leLs_bC {ρ : List Nat} : ∀ l : List UInt8, leLs ρ (bC l) (bC l)
  | [] => trivial
  | x :: l => ⟨rfl, leLs_bC l⟩
@[simp] theorem fin_bC {h : Heap} {ρ : List (Nat ⊕ Nat)} : ∀ l : List UInt8, finLs h ρ (bC l) (bC l)
  | [] => trivial
  | x :: l => ⟨by simp [finL, viewOk, persL, idsL], fin_bC l⟩
@[simp] theorem in_bC {n : Nat} : ∀ l : List UInt8, inLs n (bC l)
  | [] => trivial
  | x :: l => ⟨trivial, in_bC l⟩
@[simp] theorem allPlain_bC (l : List UInt8) : (bC l).all plainL = true := by
  rw [List.all_eq_true]
  intro x hx
  obtain ⟨y, _, rfl⟩ := List.mem_map.1 hx; rfl
@[simp] theorem viewsOk_bC {h : Heap} : ∀ l : List UInt8, viewsOk h (bC l) (bC l)
  | [] => trivial
  | x :: l => ⟨⟨rfl, rfl⟩, viewsOk_bC l⟩
theorem OpnR.bytesN {W : World} {v : Value} {t e : TypeId} {n : Nat} (h : OpnR W t v) (ht : Tryd.prog.underlying t = some (.array n e)) (he : Tryd.prog.underlying e = some (.int .u8)) (hn : Tryd.prog.cellsOf t = n) (h1 : Tryd.prog.cellsOf e = 1) : ∃ bs : List UInt8, bs.length = n ∧ RT (Cx (fun _ => True) W.heap.size) h0 μ0 W (.agg (bC bs)) v := by
  obtain ⟨cs, hcs⟩ := h.cells_arr ht
  obtain ⟨x, hx, r⟩ := h.agg ((shape_ints ht he hn h1).mapOk (E' := bC) (ok' := fun l => l.length = n) (fun zs => zs.map fun z => UInt8.ofNat z.toNat) (fun zs hz => by
    unfold bC
    rw [List.map_map]
    refine List.map_congr_left fun z hzz => ?_
    obtain ⟨k1, k2⟩ := hz.2 z hzz
    simp [IntKind.min, IntKind.max, IntKind.signed, IntKind.bits] at k1 k2
    show L.sc (Value.int .u8 z) = L.sc (Value.int .u8 ((UInt8.ofNat z.toNat).toNat : Int))
    rw [UInt8.toNat_ofNat', Nat.mod_eq_of_lt (by omega), Int.toNat_of_nonneg k1]) (fun x h => by simp [h.1])) cs hcs _ (fun _ => trivial)
  exact ⟨x, hx, r⟩
end Go.Proofs.YtiifcgaililllaaDoor
