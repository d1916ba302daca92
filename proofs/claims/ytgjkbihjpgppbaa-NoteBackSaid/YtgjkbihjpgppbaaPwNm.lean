/- Notes: the map of kinds, made by hand; a look-up in a map that is read for good. -/
import Derived.Test.YtgjkbihjpgppbaaPwX
import Derived.MapKept
import Derived.Carry
namespace Go.Proofs.Ytgjkbihjpgppbaa
set_option linter.unusedSimpArgs false
set_option linter.unusedVariables false
open Go Go.RowKit
set_option maxRecDepth 100000
theorem isKeyI (k : Int) : MapKept.IsKey (.int .i64) (.int .i64 k) := by simp [MapKept.IsKey]
theorem run_insB {P : Program} {w : World} {T K E : TypeId} {es : Array MapEntry} {c : Nat} {k : Int} {v : Value} (ht : P.underlying T = some (.map K E)) (hk : P.underlying K = some (.int .i64)) (hn : Instr.findNow (.int .i64) (.int .i64 k) es.toList 0 = some none) :
    (Instr.mapUpdate T (.map (some w.heap.size)) (.int .i64 k) v).run P (w.alloc (.map es c)) = .ok () (w.alloc (.map (es.push { key := .int .i64 k, val := v, born := c }) (c + 1))) := by
  have hg : (w.alloc (.map es c)).heap[w.heap.size]? = some (.map es c) := (MapKept.heap_alloc w _).1
  have hs := MapKept.run_setObj_map (P := P) (.map (es.push { key := .int .i64 k, val := v, born := c }) (c + 1)) hg
  have e : ({ w.alloc (.map es c) with heap := (w.alloc (.map es c)).heap.setIfInBounds w.heap.size (.map (es.push { key := .int .i64 k, val := v, born := c }) (c + 1)) } : World) = w.alloc (.map (es.push { key := .int .i64 k, val := v, born := c }) (c + 1)) := by
    show ({ w with heap := (w.heap.push (.map es c)).setIfInBounds w.heap.size _ } : World) = { w with heap := w.heap.push _ }
    congr 1
    apply Array.toList_inj.1
    simp
  rw [e] at hs
  simp [Instr.mapUpdate, run_underlying ht, MapKept.run_getObj_map hg, MapKept.run_checkKey hk (isKeyI k), MapKept.run_findKey hk hn, hs, Result.andThen]
section
variable {P : Program} {σ : St} {o : Oper} {K : Eff → Prop}
def cellsV : Value → Option (List Value)
  | .agg cs => if cs.toList.all (·.oneCell') then some cs.toList else none
  | _ => none
def mapAt (P : Program) (et : TypeId) (es : Array MapEntry) (k : Int) : Option (List Value × Bool) :=
  match Instr.findNow (.int .i64) (.int .i64 k) es.toList 0 with
  | some (some (_, v)) => (cellsV v).map fun cs => (cs, true)
  | some none => match (P.info? et).bind (·.zero) with
    | some v => (cellsV v).map fun cs => (cs, false)
    | none => none
  | none => none
theorem cellsV_spec {v : Value} {cs : List Value} (h : cellsV v = some cs) : v = .agg cs.toArray ∧ ∀ x ∈ cs, x.oneCell' = true := by
  unfold cellsV at h
  split at h
  · split at h
    · rename_i hall
      injection h with h; subst h
      exact ⟨by simp, fun x hx => List.all_eq_true.1 hall x hx⟩
    · cases h
  · cases h
theorem RC.scOf {Γ : Ctx} {h : Heap} {μ : Pos} {w : World} (v : Value) : RC Γ h μ w (.leaf (.sc v)) v := RL.sc _
theorem RC.aggOf {Γ : Ctx} {h : Heap} {μ : Pos} {w : World} {cs : List Value} (hone : ∀ x ∈ cs, x.oneCell' = true) : RC Γ h μ w (.agg (cs.map .sc)) (.agg cs.toArray) := by
  refine ⟨cs.toArray, rfl, by simp, fun j l hl => ?_⟩
  rw [List.getElem?_map] at hl
  obtain ⟨v, hv, rfl⟩ := Option.map_eq_some_iff.1 hl
  exact ⟨v, by simpa using hv, hone v (List.mem_of_getElem? hv), RL.sc _⟩
theorem RT.two {Γ : Ctx} {h : Heap} {μ : Pos} {w : World} {t t' : T} {v v' : Value} (h1 : RC Γ h μ w t v) (h2 : RC Γ h μ w t' v') : RT Γ h μ w (.tup [t, t']) (.tuple #[v, v']) := by
  refine ⟨#[v, v'], rfl, rfl, fun j t hj => ?_⟩
  rcases j with _ | _ | j
  · simp at hj; subst hj; exact ⟨v, rfl, h1⟩
  · simp at hj; subst hj; exact ⟨v', rfl, h2⟩
  · simp at hj
theorem aSem.lookupI {x y : Operand} {T kt et : TypeId} {es : Array MapEntry} {k : Int} {cs : List Value} {ok : Bool} (ho : o.op = .lookup T x y true) (hx : σ.ev x = .leaf (.mp es)) (hy : σ.ev y = .leaf (.sc (.int .i64 k)))
    (ht : P.underlying T = some (.map kt et)) (hk : P.underlying kt = some (.int .i64)) (hf : mapAt P et es k = some (cs, ok)) (hK : K ⟨.tup [.agg (cs.map .sc), .leaf (.sc (.bool ok))], [], []⟩) : aSem P σ o K :=
  ⟨_, fun Γ => OpT.of_pure fun tm' h' μ a w h1 h2 I F => by
    have r := F.at' h1 (x := x) (by simp [ho, Op.operands])
    rw [show evalT σ.tm x = _ from hx] at r
    have r2 := F.at' h1 (x := y) (by simp [ho, Op.operands])
    rw [show evalT σ.tm y = _ from hy] at r2
    have hu2 := RT.sc_inv r2
    have r' : RL (PerG Γ h' μ w) w (.mp es) (a.eval x) := r
    generalize hu : a.eval x = u at r'
    cases r' with
    | mp es b clock hb =>
      unfold mapAt at hf
      split at hf
      · rename_i i v hfn
        obtain ⟨cs', hc, he⟩ := Option.map_eq_some_iff.1 hf
        injection he with h1 h2; subst h1 h2
        obtain ⟨rfl, hone⟩ := cellsV_spec hc
        refine ⟨.tuple #[.agg cs'.toArray, .bool true], ?_, ?_⟩
        · simp [execOp, ho, hu, hu2, Instr.lookup, run_underlying ht, run_underlying hk, MapKept.run_getObj_map hb.2, MapKept.run_checkKey hk (isKeyI k), MapKept.run_findKey hk hfn, Result.andThen]
        · exact RT.two (RC.aggOf hone) (RC.scOf _)
      · rename_i hfn
        split at hf
        · rename_i zv hz
          obtain ⟨it, hit, hzv⟩ := Option.bind_eq_some_iff.1 hz
          obtain ⟨cs', hc, he⟩ := Option.map_eq_some_iff.1 hf
          injection he with h1 h2; subst h1 h2
          obtain ⟨rfl, hone⟩ := cellsV_spec hc
          refine ⟨.tuple #[.agg cs'.toArray, .bool false], ?_, ?_⟩
          · simp [execOp, ho, hu, hu2, Instr.lookup, run_underlying ht, run_underlying hk, MapKept.run_getObj_map hb.2, MapKept.run_checkKey hk (isKeyI k), MapKept.run_findKey hk hfn, Result.andThen, zeroValue, typeInfo, hit, hzv]
          · exact RT.two (RC.aggOf hone) (RC.scOf _)
        · cases hf
      · (cases hf), wok_nil, hK⟩
end
end Go.Proofs.Ytgjkbihjpgppbaa
