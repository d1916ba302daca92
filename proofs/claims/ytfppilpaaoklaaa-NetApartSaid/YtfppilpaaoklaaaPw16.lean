/- The walk over plain values: a function's contract out of its body. -/
import Derived.Test.YtfppilpaaoklaaaPwOff
namespace Go.Proofs.Ytfppilpaaoklaaa
set_option linter.unusedSimpArgs false
set_option linter.unusedVariables false
open Go Go.RowKit
variable {Γ : Ctx}

def resVar (a : Array Value) : ResultVar → Sem Value
  | .tmp t => pure (a.getD t undef)
  | .cell b t => do loadVar t (← asAddr (a.getD b undef))
theorem resMany_spec {P : Program} {σ : St} {μ : Pos} {a : Array Value} {w : World} (I : Inv Γ σ.h μ w) (F : FrameR Γ σ.h μ w σ.tm a) : ∀ {xs : List ResultVar} {ts : List T}, resMany P σ xs = some ts →
    ∃ vs : List Value, (xs.mapM (resVar a)).run P w = .ok vs w ∧ vs.length = ts.length ∧ ∀ (j : Nat) (t : T), ts[j]? = some t → ∃ v, vs[j]? = some v ∧ RC Γ σ.h μ w t v
  | [], ts, h => by
    simp [resMany] at h; subst h
    exact ⟨[], by simp, rfl, fun j t h => by simp at h⟩
  | x :: xs, ts, h => by
    simp only [resMany] at h
    split at h
    · rename_i t ts' h1 h2
      split at h
      · rename_i hn
        injection h with h; subst h
        obtain ⟨v, k1, k2⟩ := resOne_spec I F h1
        obtain ⟨vs, m1, m2, m3⟩ := resMany_spec I F h2
        have k1' : (resVar a x).run P w = .ok v w := by cases x <;> exact k1
        refine ⟨v :: vs, by simp [List.mapM_cons, k1', m1], by simp [m2], fun j u hu => ?_⟩
        rcases j with _ | j
        · simp at hu; subst hu
          refine ⟨v, rfl, ?_⟩
          cases t with
          | tup us => simp [notTup] at hn
          | _ => exact k2
        · exact m3 j u (by simpa using hu)
      · cases h
    · cases h
theorem resMany_len {P : Program} {σ : St} : ∀ {xs : List ResultVar} {ts : List T}, resMany P σ xs = some ts → xs.length = ts.length
  | [], ts, h => by simp [resMany] at h; subst h; rfl
  | x :: xs, ts, h => by
    simp only [resMany] at h
    split at h
    · rename_i t ts' h1 h2
      split at h
      · injection h with h; subst h; simp [resMany_len h2]
      · cases h
    · cases h
theorem results_spec {P : Program} {fn : Func} {σ : St} {μ : Pos} {a : Array Value} {w : World} (I : Inv Γ σ.h μ w) (F : FrameR Γ σ.h μ w σ.tm a) {t : T} (h : resT P σ fn.results.toList = some t) :
    ∃ v, (results fn a).run P w = .ok v w ∧ RT Γ σ.h μ w t v := by
  have hm : ∀ vs : List Value, (fn.results.toList.mapM (resVar a)).run P w = .ok vs w → (results fn a).run P w = .ok (if h : vs.length = 1 then vs[0] else .tuple vs.toArray) w := by
    intro vs hvs
    have he : results fn a = (do let vs ← fn.results.mapM (resVar a); pure (if h : vs.size = 1 then vs[0] else .tuple vs)) := by
      unfold results
      congr 1
    rw [he]
    have h2 : (fn.results.mapM (resVar a)).run P w = .ok vs.toArray w := by
      rw [Array.mapM_eq_mapM_toList]
      simp [hvs]
    simp [h2]
  unfold resT at h
  split at h
  · rename_i x hx
    obtain ⟨v, k1, k2⟩ := resOne_spec I F h
    have k1' : (resVar a x).run P w = .ok v w := by cases x <;> exact k1
    exact ⟨v, by rw [hm [v] (by rw [hx]; simp [k1'])]; simp, k2⟩
  · rename_i hne
    obtain ⟨ts, hts, rfl⟩ := Option.map_eq_some_iff.1 h
    obtain ⟨vs, m1, m2, m3⟩ := resMany_spec I F hts
    have hlen : vs.length ≠ 1 := fun h1 => by
      have : fn.results.toList.length = 1 := by
        have := resMany_len hts
        omega
      match hh : fn.results.toList with
      | [] => rw [hh] at this; simp at this
      | [x] => exact hne x hh
      | x :: y :: r => rw [hh] at this; simp at this
    refine ⟨.tuple vs.toArray, by rw [hm vs m1, dif_neg hlen], vs.toArray, rfl, by simp [m2], fun j t ht => ?_⟩
    obtain ⟨v, h1, h2⟩ := m3 j t ht
    exact ⟨v, by simpa using h1, h2⟩

/-- In no round. -/
class Plain (Γ : Ctx) : Prop where
  md : Γ.md = none
/-- **A function's contract**, out of its body. -/
theorem PC.of_body {P : Program} {f : FuncId} {fn : Func} {c : Code} {vs : List T} {bl : List AB} {r : T} (hf : P.funcs[f]? = some fn) (hb : fn.body = some c)
    (h : ∀ (Γ : Ctx) [KK Γ 0] [Plain Γ], AW Γ P c (fun e σ' => (e = .normal ∨ e = .ret) ∧ ∃ t ρ, resT P σ' fn.results.toList = some t ∧ FinOk σ' t bl r ρ) ⟨vs ++ List.replicate (fn.ntmps - vs.length) undefT, []⟩) : PC P f vs bl r := by
  intro B args w hgl hsz hargs
  have hF : FrameR (Cx B w.heap.size) (hOf []) μ0 w (vs ++ List.replicate (fn.ntmps - vs.length) undefT) (args ++ Array.replicate (fn.ntmps - args.size) undef) := by
    refine ⟨⟨by simp [hsz], hgl⟩, fun i t ht => ?_⟩
    rcases Nat.lt_or_ge i vs.length with hi | hi
    · rw [List.getElem?_append_left hi] at ht
      have := hargs i t ht
      have hlt : i < args.size := by omega
      have e1 : (args ++ Array.replicate (fn.ntmps - args.size) undef).getD i undef = args.getD i undef := by
        simp only [Array.getD_eq_getD_getElem?]
        rw [Array.getElem?_append_left hlt]
      rw [e1]; exact this
    · rw [List.getElem?_append_right hi, List.getElem?_replicate] at ht
      split at ht
      · rename_i hlt
        injection ht with ht; subst ht
        have e1 : (args ++ Array.replicate (fn.ntmps - args.size) undef).getD i undef = undef := by
          have h3 : args.size ≤ i := by omega
          simp only [Array.getD_eq_getD_getElem?]
          rw [Array.getElem?_append_right h3, Array.getElem?_replicate]
          split <;> rfl
        rw [e1]; exact RT.sc _
      · cases ht
  haveI : KK (Cx B w.heap.size) 0 := ⟨rfl⟩
  haveI : Plain (Cx B w.heap.size) := ⟨rfl⟩
  have hbody : c.wp P (liftQ (Cx B w.heap.size) w (fun e σ' => (e = .normal ∨ e = .ret) ∧ ∃ t ρ, resT P σ' fn.results.toList = some t ∧ FinOk σ' t bl r ρ)) { tmps := args ++ Array.replicate (fn.ntmps - args.size) undef, defers := [] } w :=
    h (Cx B w.heap.size) w _ w ⟨μ0, ⟨rfl, rfl, rfl, Nat.le_refl _, fun b hb _ => ⟨rfl, fun id ab hh => by simp [hOf] at hh⟩, fun j ab0 hj => by simp at hj⟩, ⟨fun id ab hh => by simp [hOf] at hh, fun id ab hh => by simp [hOf] at hh, fun i j a b g h1 => by simp [hOf] at h1, Nat.le_refl _, fun id ab g hh => by simp [hOf] at hh⟩, hF, Marks.nil _ _⟩
  refine (callsIn_wide (n := 5)).1 (callsIn_of_wp_marks hf hb trivial (wpIn_wide.2 (Go.wp_mono hbody ?_)))
  rintro e a' w' ⟨σ', ⟨he, t, ρ, hres, fin⟩, μ, E, I, F, Ds, hds, hnd, hD⟩
  have hbelow : Below w.heap.size w w' := ⟨E.os, E.tape, E.output, E.size, fun b hb => (E.per b hb Cx_I).1⟩
  have post : LeavesInM Fence.wide 5 P fn a'.tmps (fun e w' => ∃ v μ, e = .returned v ∧ Below w.heap.size w w' ∧ Inv (Cx B w.heap.size) (hOf (bl.map some)) μ w' ∧ RT (Cx B w.heap.size) (hOf (bl.map some)) μ w' r v) a'.defers .returning w' := by
    rw [hds]
    refine leaves_marks Ds w' hnd hD fun w2 ho hb2 => ?_
    have I2 := I.off ho
    have F2 := F.off ho
    obtain ⟨v, k1, k2⟩ := results_spec I2 F2 hres
    exact ⟨v, k1, v, muF ρ μ, rfl, hbelow.trans hb2, fin_Inv I2 fin.nd fin.own, fin_RT I2 fin.nd fin.own fin.res k2 fin.ins⟩
  rcases he with rfl | rfl
  · exact post
  · exact post

/-- What is told can be told as less. -/
theorem PC.weak {P : Program} {f : FuncId} {vs : List T} {bl bl' : List AB} {r r' : T} (h : PC P f vs bl r) (ρ : List (Nat ⊕ Nat)) (fin : FinOk ⟨[], bl.map some⟩ r bl' r' ρ) : PC P f vs bl' r' := fun B args w hgl hs ha =>
  (h B args w hgl hs ha).mono fun e w' ⟨v, μ, he, hb, I, rr⟩ => ⟨v, muF ρ μ, he, hb, fin_Inv (σ := ⟨[], bl.map some⟩) I fin.nd fin.own, fin_RT (σ := ⟨[], bl.map some⟩) I fin.nd fin.own fin.res rr fin.ins⟩
end Go.Proofs.Ytfppilpaaoklaaa
