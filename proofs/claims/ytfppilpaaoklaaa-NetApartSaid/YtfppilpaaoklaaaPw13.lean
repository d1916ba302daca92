/- The walk over plain values: regions, code, loops; a function's contract out of its body. -/
import Derived.Test.YtfppilpaaoklaaaPw0
namespace Go.Proofs.Ytfppilpaaoklaaa
set_option linter.unusedSimpArgs false
set_option linter.unusedVariables false
open Go Go.RowKit
variable {Γ : Ctx}

/-- What holds at a place of the text: the call began in the world w0. -/
structure Ev (Γ : Ctx) (w0 : World) (h : Heap) (μ : Pos) (w : World) : Prop where
  os : w.os = w0.os
  tape : w.tape = w0.tape
  output : w.output = w0.output
  size : w0.heap.size ≤ w.heap.size
  per : ∀ b, b < w0.heap.size → ¬ Γ.I b → w.heap[b]? = w0.heap[b]? ∧ ∀ id ab, h id = some (some ab) → μ id ≠ some b
  kp : ∀ j ab0, Γ.bi[j]? = some ab0 → h j ≠ none ∧ ∀ ab, h j = some (some ab) → ab.t = ab0.t ∧ ab.s = ab0.s ∧ ab.es.length = ab0.es.length ∧ μ j = Γ.μi j ∧
    ∀ g cur, Γ.μi j = some g → w0.heap[g]? = some (.cells cur ab0.t (0, 0)) → ∃ cur' : Array Value, w.heap[g]? = some (.cells cur' ab0.t (0, 0)) ∧ cur'.size = cur.size
theorem Ev.trans {Γ : Ctx} {w0 : World} {h h' : Heap} {μ μ' : Pos} {w w' : World} (e : Ev Γ w0 h μ w) (f : Evo h μ w h' μ' w') : Ev Γ w0 h' μ' w' where
  os := f.os.trans e.os
  tape := f.tape.trans e.tape
  output := f.output.trans e.output
  size := Nat.le_trans e.size f.size
  per := fun b hb hn => by
    obtain ⟨h1, h2⟩ := e.per b hb hn
    obtain ⟨h3, h4⟩ := f.per b ⟨Nat.lt_of_lt_of_le hb e.size, h2⟩
    exact ⟨h3.trans h1, h4⟩
  kp := fun j ab0 hj => by
    obtain ⟨h1, h2⟩ := e.kp j ab0 hj
    cases hh : h j with
    | none => exact (h1 hh).elim
    | some x => cases x with
      | none =>
        have hd := f.dead j hh
        exact ⟨by rw [hd]; simp, fun ab hab => by rw [hd] at hab; cases hab⟩
      | some ab =>
        obtain ⟨k1, k2, k3, k4, k5⟩ := h2 ab hh
        rcases f.live j ab hh with hd | ⟨ab', q1, q2, q3, q4, q5, q6⟩
        · exact ⟨by rw [hd]; simp, fun ab hab => by rw [hd] at hab; cases hab⟩
        · refine ⟨by rw [q1]; simp, fun ab2 hab => ?_⟩
          rw [q1] at hab; injection hab with hab; injection hab with hab; subst hab
          refine ⟨q2.trans k1, q3.trans k2, q4.trans k3, q5.trans k4, fun g cur hg hc => ?_⟩
          obtain ⟨cur1, c1, c2⟩ := k5 g cur hg hc
          obtain ⟨cur2, c3, c4⟩ := q6 g cur1 (k4.trans hg) (by rw [k1]; exact c1)
          exact ⟨cur2, by rw [k1] at c3; exact c3, c4.trans c2⟩
/-- Behind a range over a function: where its rounds' deferred calls would stand (there are none). -/
def mark (D : Nat) : Deferred := { target := .collected D, args := #[] }
def Marks (n : Nat) (w : World) (ds : List Deferred) : Prop := ∃ Ds : List Nat, ds = Ds.map mark ∧ Ds.Nodup ∧ ∀ D ∈ Ds, n ≤ D ∧ w.heap[D]? = some (.deferred (some []))
theorem Marks.nil (n : Nat) (w : World) : Marks n w [] := ⟨[], rfl, List.nodup_nil, fun D hD => by cases hD⟩
theorem per_dull {Γ : Ctx} {h : Heap} {μ : Pos} {w : World} (I : Inv Γ h μ w) {D : Nat} {o : Obj} (ho : w.heap[D]? = some o) (hc : o.isCells = false) : Per h μ w D :=
  ⟨(Array.getElem?_eq_some_iff.1 ho).1, fun id ab hi hg => by
    rcases I.at_ id ab hi with ⟨_, h2⟩ | ⟨g, cur, h1, h2, _⟩
    · rw [h2] at hg; cases hg
    · rw [h1] at hg; injection hg with hg; subst hg
      rw [ho] at h2; injection h2 with h2; subst h2; cases hc⟩
theorem Marks.evo {Γ : Ctx} {h h' : Heap} {μ μ' : Pos} {w w' : World} {n : Nat} {ds : List Deferred} (I : Inv Γ h μ w) (e : Evo h μ w h' μ' w') (m : Marks n w ds) : Marks n w' ds := by
  obtain ⟨Ds, h1, h2, h3⟩ := m
  exact ⟨Ds, h1, h2, fun D hD => ⟨(h3 D hD).1, by rw [(e.per D (per_dull I (h3 D hD).2 rfl)).1]; exact (h3 D hD).2⟩⟩
def Holds (Γ : Ctx) (w0 : World) (σ : St) (a : Act) (w : World) : Prop :=
  ∃ μ, Ev Γ w0 σ.h μ w ∧ Inv Γ σ.h μ w ∧ FrameR Γ σ.h μ w σ.tm a.tmps ∧ Marks Γ.base w a.defers
def liftQ (Γ : Ctx) (w0 : World) (Q : Exit → St → Prop) : Exit → Act → World → Prop := fun e a w => ∃ σ, Q e σ ∧ Holds Γ w0 σ a w
/-- **The walk**: from a state σ the code comes to its end, in a state of which Q holds. -/
def AW (Γ : Ctx) (P : Program) (c : Code) (Q : Exit → St → Prop) (σ : St) : Prop := ∀ w0 a w, Holds Γ w0 σ a w → wpG Γ.md P c (liftQ Γ w0 Q) a w

/-! ### Regions -/
inductive Gd where
  | yes
  | no
  | ask (d : Nat) (b : Bool) (want : Bool)
  | bad
def guardOf (ops : Array Oper) (tm : List T) (o : Oper) : Gd :=
  match o.guard with
  | none => .yes
  | some (g, want) => match (ops[g]?).bind (·.dst) with
    | some d => match tm[d]? with
      | some (.leaf (.sc (.bool b))) => .ask d b want
      | some (.leaf (.sc (.tuple vs))) => if vs.size = 0 then .no else .bad
      | _ => .bad
    | none => .no
theorem guardOf_yes {ops : Array Oper} {tm : List T} {o : Oper} (h : guardOf ops tm o = .yes) : GuardIs ops o tm true := by
  unfold guardOf at h
  unfold GuardIs
  split at h
  · rename_i hg; rw [hg]
  · split at h
    · split at h <;> first | cases h | (split at h <;> cases h)
    · cases h
theorem guardOf_no {ops : Array Oper} {tm : List T} {o : Oper} (h : guardOf ops tm o = .no) : GuardIs ops o tm false := by
  unfold guardOf at h
  unfold GuardIs
  split at h
  · cases h
  · rename_i g want hg
    rw [hg]
    simp only
    split at h
    · rename_i d hd
      rw [hd]
      simp only
      split at h
      · cases h
      · rename_i vs hv
        split at h
        · rename_i h0
          have : vs = #[] := by simpa using h0
          subst this
          exact .inr ⟨hv, trivial⟩
        · cases h
      · cases h
    · rename_i hd; rw [hd]; trivial
theorem guardOf_ask {ops : Array Oper} {tm : List T} {o : Oper} {d : Nat} {b want : Bool} (h : guardOf ops tm o = .ask d b want) : GuardIs ops o tm (b == want) ∧ tm[d]? = some (.leaf (.sc (.bool b))) := by
  unfold guardOf at h
  unfold GuardIs
  split at h
  · cases h
  · rename_i g want' hg
    rw [hg]
    simp only
    split at h
    · rename_i d' hd
      rw [hd]
      simp only
      split at h
      · rename_i b' hb
        injection h with h0 h1 h2
        subst h0 h1 h2
        exact ⟨.inl ⟨b', hb, rfl⟩, hb⟩
      · split at h <;> cases h
      · cases h
    · cases h
def askG (b want : Bool) (X Y : Prop) : Prop := (b = want → X) ∧ (b = (!want) → Y)
theorem askG.mk {b want : Bool} {X Y : Prop} (h1 : b = want → X) (h2 : b = (!want) → Y) : askG b want X Y := ⟨h1, h2⟩
theorem askG_tt {X Y : Prop} : askG true true X Y = X := by simp [askG]
theorem askG_ff {X Y : Prop} : askG false false X Y = X := by simp [askG]
theorem askG_tf {X Y : Prop} : askG true false X Y = Y := by simp [askG]
theorem askG_ft {X Y : Prop} : askG false true X Y = Y := by simp [askG]
def St.lit (σ : St) (d : Nat) (b : Bool) : St := ⟨σ.tm.set d (.leaf (.sc (.bool b))), σ.bl⟩
theorem St.lit_self {σ : St} {d : Nat} {b : Bool} (h : σ.tm[d]? = some (.leaf (.sc (.bool b)))) : σ.lit d b = σ := by
  have : σ.tm.set d (.leaf (.sc (.bool b))) = σ.tm := by
    refine List.ext_getElem? fun i => ?_
    rw [List.getElem?_set]
    split
    · rename_i hi; subst hi
      rw [h]
      have := (List.getElem?_eq_some_iff.1 h).1
      simp [this]
    · rfl
  unfold St.lit
  rw [this]

abbrev idleE : Eff := ⟨undefT, [], []⟩
/-- The region's operations, in the order of the text. -/
def AO (P : Program) (ops : Array Oper) (draw : Bool) : List Oper → List Eff → (St → Prop) → St → Prop
  | [], acc, K, σ => (draw = true → pairsOk ops acc = true) ∧ K σ
  | o :: rest, acc, K, σ => match guardOf ops σ.tm o with
    | .yes => AOp P σ o fun e => AO P ops draw rest (acc ++ [e]) K (σ.app o.dst e)
    | .no => AO P ops draw rest (acc ++ [idleE]) K (σ.app o.dst idleE)
    | .ask d b want => askG b want (AOp P (σ.lit d want) o fun e => AO P ops draw rest (acc ++ [e]) K ((σ.lit d want).app o.dst e)) (AO P ops draw rest (acc ++ [idleE]) K ((σ.lit d (!want)).app o.dst idleE))
    | .bad => False

theorem TM_pre {ops : Array Oper} {acc : List Eff} {es : List Eff} {tm0 : List T} : ∀ n, n ≤ acc.length → TM ops (acc ++ es) tm0 (fun _ => true) n = TM ops acc tm0 (fun _ => true) n
  | 0, _ => rfl
  | n + 1, h => by
    simp only [TM]
    rw [TM_pre n (by omega), List.getElem?_append_left (by omega)]
theorem HM_pre {acc : List Eff} {es : List Eff} {h0 : Heap} : ∀ n, n ≤ acc.length → HM (acc ++ es) h0 (fun _ => true) n = HM acc h0 (fun _ => true) n
  | 0, _ => rfl
  | n + 1, h => by
    simp only [HM]
    rw [HM_pre n (by omega), List.getElem?_append_left (by omega)]

/-- One way through a region. -/
structure Ran (Γ : Ctx) (P : Program) (ops : Array Oper) (σ0 : St) (effs : List Eff) (σ : St) : Prop where
  each : ∀ i o e, ops[i]? = some o → effs[i]? = some e → OpR Γ P ops o (TM ops effs σ0.tm (fun _ => true) i) (HM effs σ0.h (fun _ => true) i) e
  tm : TM ops effs σ0.tm (fun _ => true) effs.length = σ.tm
  hm : HM effs σ0.h (fun _ => true) effs.length = σ.h
theorem Ran.more {P : Program} {ops : Array Oper} {σ0 σ : St} {effs : List Eff} (R : Ran Γ P ops σ0 effs σ) {o : Oper} {e : Eff} (ho : ops[effs.length]? = some o) (hr : OpR Γ P ops o σ.tm σ.h e) (hw : Wok σ.bl e.writes) : Ran Γ P ops σ0 (effs ++ [e]) (σ.app o.dst e) := by
  refine ⟨fun i o' e' ho' he' => ?_, ?_, ?_⟩
  · rcases Nat.lt_or_ge i effs.length with hi | hi
    · rw [List.getElem?_append_left hi] at he'
      rw [TM_pre i (by omega), HM_pre i (by omega)]
      exact R.each i o' e' ho' he'
    · have hi2 : i = effs.length := by
        have := (List.getElem?_eq_some_iff.1 he').1
        simp at this; omega
      subst hi2
      rw [ho] at ho'; cases ho'
      simp at he'; subst he'
      rw [TM_pre _ (Nat.le_refl _), HM_pre _ (Nat.le_refl _), R.tm, R.hm]
      exact hr
  · simp only [List.length_append, List.length_cons, List.length_nil, Nat.zero_add, TM, ho]
    rw [List.getElem?_append_right (Nat.le_refl _), Nat.sub_self]
    simp only [List.getElem?_cons_zero]
    rw [TM_pre _ (Nat.le_refl _), R.tm]; rfl
  · simp only [List.length_append, List.length_cons, List.length_nil, Nat.zero_add, HM]
    rw [List.getElem?_append_right (Nat.le_refl _), Nat.sub_self]
    simp only [List.getElem?_cons_zero]
    rw [HM_pre _ (Nat.le_refl _), R.hm]
    exact hw.symm

theorem AO.run {P : Program} {ops : Array Oper} {draw : Bool} {K : St → Prop} {σ0 : St} : ∀ (rest : List Oper) (acc : List Eff) (σ : St), (∀ k, rest[k]? = ops[acc.length + k]?) → Ran Γ P ops σ0 acc σ → AO P ops draw rest acc K σ →
    ∃ effs σ', effs.length = acc.length + rest.length ∧ Ran Γ P ops σ0 effs σ' ∧ (draw = true → pairsOk ops effs = true) ∧ K σ'
  | [], acc, σ, _, R, h => ⟨acc, σ, rfl, R, h.1, h.2⟩
  | o :: rest, acc, σ, hl, R, h => by
    have ho : ops[acc.length]? = some o := by have := hl 0; simpa using this.symm
    have hl' : ∀ e : Eff, ∀ k, rest[k]? = ops[(acc ++ [e]).length + k]? := fun e k => by
      have := hl (k + 1)
      simp only [List.getElem?_cons_succ] at this
      rw [this]; congr 1; simp; omega
    have fin : ∀ (e : Eff), (∃ effs σ', effs.length = (acc ++ [e]).length + rest.length ∧ Ran Γ P ops σ0 effs σ' ∧ (draw = true → pairsOk ops effs = true) ∧ K σ') →
        ∃ effs σ', effs.length = acc.length + (o :: rest).length ∧ Ran Γ P ops σ0 effs σ' ∧ (draw = true → pairsOk ops effs = true) ∧ K σ' := fun e ⟨effs, σ', h1, h2⟩ => ⟨effs, σ', by rw [h1]; simp; omega, h2⟩
    have act : GuardIs ops o σ.tm true → (AOp P σ o fun e => AO P ops draw rest (acc ++ [e]) K (σ.app o.dst e)) → ∃ effs σ', effs.length = acc.length + (o :: rest).length ∧ Ran Γ P ops σ0 effs σ' ∧ (draw = true → pairsOk ops effs = true) ∧ K σ' := fun hg hop => by
      obtain ⟨e, h1, h2, h3⟩ := AOp.sound (Γ := Γ) hop
      exact fin e (AO.run rest _ _ (hl' e) (R.more ho (.inl ⟨hg, h1⟩) h2) h3)
    have idle : GuardIs ops o σ.tm false → AO P ops draw rest (acc ++ [idleE]) K (σ.app o.dst idleE) → ∃ effs σ', effs.length = acc.length + (o :: rest).length ∧ Ran Γ P ops σ0 effs σ' ∧ (draw = true → pairsOk ops effs = true) ∧ K σ' := fun hg hop =>
      fin idleE (AO.run rest _ _ (hl' _) (R.more ho (.inr ⟨hg, rfl⟩) wok_nil) hop)
    rw [AO] at h
    split at h
    · rename_i hg; exact act (guardOf_yes hg) h
    · rename_i hg; exact idle (guardOf_no hg) h
    · rename_i d b want hg
      obtain ⟨hg', hd⟩ := guardOf_ask hg
      by_cases hb : b = want
      · have : (b == want) = true := by simp [hb]
        rw [this] at hg'
        have h1 := h.1 hb
        subst hb
        rw [St.lit_self hd] at h1
        exact act hg' h1
      · have : (b == want) = false := by simp [hb]
        rw [this] at hg'
        have hb' : b = (!want) := by cases b <;> cases want <;> simp_all
        have h2 := h.2 hb'
        rw [← hb', St.lit_self hd] at h2
        exact idle hg' h2
    · exact h.elim

theorem seq_run {P : Program} {ops : Array Oper} {σ0 : St} {effs : List Eff} {σ' : St} (R : Ran Γ P ops σ0 effs σ') (hlen : effs.length = ops.size) {w0 : World} {Q : Exit → Act → World → Prop} (hQ : ∀ a w, Holds Γ w0 σ' a w → Q .normal a w) :
    ∀ (rest : List Oper) (i : Nat), (∀ k, rest[k]? = ops[i + k]?) → i + rest.length = ops.size → ∀ (a : Act) (w : World) (μ : Pos), Ev Γ w0 (HM effs σ0.h (fun _ => true) i) μ w → Inv Γ (HM effs σ0.h (fun _ => true) i) μ w → FrameR Γ (HM effs σ0.h (fun _ => true) i) μ w (TM ops effs σ0.tm (fun _ => true) i) a.tmps → Marks Γ.base w a.defers → wpList P ops Q rest a w
  | [], i, _, hi, a, w, μ, E, I, F, hd => by
    simp at hi
    have he : i = effs.length := by omega
    subst he
    rw [R.hm] at E I F
    rw [R.tm] at F
    exact hQ a w ⟨μ, E, I, F, hd⟩
  | o :: rest, i, hl, hi, a, w, μ, E, I, F, hd => by
    have ho : ops[i]? = some o := by have := hl 0; simpa using this.symm
    have hil : i < effs.length := by rw [hlen]; exact (Array.getElem?_eq_some_iff.1 ho).1
    have he : effs[i]? = some effs[i] := List.getElem?_eq_getElem hil
    have hl' : ∀ k, rest[k]? = ops[i + 1 + k]? := fun k => by
      have := hl (k + 1)
      simp only [List.getElem?_cons_succ] at this
      rw [this]; congr 1; omega
    have next := seq_run R hlen (w0 := w0) hQ rest (i + 1) hl' (by simp at hi; omega)
    have hput : ∀ v, (a.put o.dst v).defers = a.defers := fun v => by cases hod : o.dst <;> simp [Act.put]
    have hTM : TM ops effs σ0.tm (fun _ => true) (i + 1) = putT (TM ops effs σ0.tm (fun _ => true) i) o.dst effs[i].val := by simp only [TM, ho, he]
    have hHM : HM effs σ0.h (fun _ => true) (i + 1) = upd (HM effs σ0.h (fun _ => true) i) effs[i].writes := by simp only [HM, he]
    unfold wpList
    rcases R.each i o _ ho he with ⟨hg, hop⟩ | ⟨hg, heq⟩
    · rw [if_pos (hg.wanted F)]
      refine .inl (hop _ _ μ a w (fun x _ => rfl) (fun id _ => rfl) I F _ Q fun v μ' w' E' I' r => ?_)
      refine next _ _ μ' ?_ ?_ ?_ (by rw [hput]; exact hd.evo I E')
      · rw [hHM]; exact E.trans E'
      · rw [hHM]; exact I'
      · rw [hHM, hTM]; exact (F.evo E').put r o.dst
    · have hw := hg.wanted F
      rw [if_neg (by rw [hw]; simp)]
      refine next _ _ μ ?_ ?_ ?_ (by rw [hput]; exact hd)
      · rw [hHM, heq]; exact E
      · rw [hHM, heq]; exact I
      · rw [hHM, hTM, heq]; exact F.put (RT.sc _) o.dst

theorem AW.region {P : Program} {id : Nat} {ops : Array Oper} {draw : Bool} {Q : Exit → St → Prop} {σ : St} (hm : P.follows .mixedOrders = true) (hnd : noDefer ops = true) (h : AO P ops draw ops.toList [] (fun σ' => Q .normal σ') σ) : AW Γ P (.region id ops draw) Q σ := by
  intro w0 a w ⟨μ, E, I, F, hd⟩
  obtain ⟨effs, σ', hlen, R, hp, hK⟩ := AO.run (Γ := Γ) (σ0 := σ) ops.toList [] σ (fun k => by simp) ⟨fun i o e _ he => (by simp at he), rfl, rfl⟩ h
  have hlen' : effs.length = ops.size := by simpa using hlen
  cases draw with
  | false =>
    exact wpG_list hnd fun Q' hQ' => seq_run R hlen' (w0 := w0) (fun a w H => hQ' a w ⟨σ', hK, H⟩) ops.toList 0 (fun k => by simp) (by simp) a w μ E I F hd
  | true =>
    refine wpG_any hm hnd fun Q' hQ' => region_drawnA ⟨hlen', R.each, hp rfl⟩ I F fun a' w' μ' E' I' F' hd' => hQ' a' w' ⟨σ', hK, μ', ?_, ?_, ?_, by rw [hd']; exact hd.evo I E'⟩
    · rw [← hlen', R.hm] at E'; exact E.trans E'
    · rw [← hlen', R.hm] at I'; exact I'
    · rw [← hlen', R.hm, R.tm] at F'; exact F'

/-! ### Code -/
def thenS (next : St → Prop) (Q : Exit → St → Prop) : Exit → St → Prop
  | .normal, σ => next σ
  | e, σ => Q e σ
def inBlockS (id : Nat) (Q : Exit → St → Prop) : Exit → St → Prop
  | .exit id', σ => if id' = id then Q .normal σ else Q (.exit id') σ
  | e, σ => Q e σ
section
variable {P : Program} {Q : Exit → St → Prop} {σ : St}
theorem AW.mono {c : Code} {Q' : Exit → St → Prop} (h : AW Γ P c Q σ) (hq : ∀ e σ, Q e σ → Q' e σ) : AW Γ P c Q' σ := fun w0 a w H => wpG_mono (h w0 a w H) fun e a w ⟨σ', h1, h2⟩ => ⟨σ', hq e σ' h1, h2⟩
theorem AW.skip (h : Q .normal σ) : AW Γ P .skip Q σ := fun w0 a w H => wpG_skip ⟨σ, h, H⟩
theorem AW.exit {id : Nat} (h : Q (.exit id) σ) : AW Γ P (.exit id) Q σ := fun w0 a w H => wpG_exit ⟨σ, h, H⟩
theorem AW.ret (h : Q .ret σ) : AW Γ P .ret Q σ := fun w0 a w H => wpG_ret ⟨σ, h, H⟩
theorem AW.label {l : Nat} (h : Q .normal σ) : AW Γ P (.label l) Q σ := fun w0 a w H => wpG_label ⟨σ, h, H⟩
theorem AW.seq {x y : Code} (h : AW Γ P x (thenS (fun σ' => AW Γ P y Q σ') Q) σ) : AW Γ P (.seq x y) Q σ := fun w0 a w H => by
  refine wpG_seq (wpG_mono (h w0 a w H) fun e a' w' ⟨σ', h1, h2⟩ => ?_)
  cases e with
  | normal => exact h1 w0 a' w' h2
  | _ => exact ⟨σ', h1, h2⟩
theorem AW.block {id : Nat} {c : Code} (h : AW Γ P c (inBlockS id Q) σ) : AW Γ P (.block id c) Q σ := fun w0 a w H => by
  refine wpG_block (wpG_mono (h w0 a w H) fun e a' w' ⟨σ', h1, h2⟩ => ?_)
  cases e with
  | exit id' =>
    simp only [Exit.inBlock]
    simp only [inBlockS] at h1
    split
    · rename_i hi; rw [if_pos hi] at h1; exact ⟨σ', h1, h2⟩
    · rename_i hi; rw [if_neg hi] at h1; exact ⟨σ', h1, h2⟩
  | _ => exact ⟨σ', h1, h2⟩
theorem AW.cond {c : Operand} {x y : Code} {b : Bool} (hc : σ.ev c = .leaf (.sc (.bool b))) (ht : b = true → AW Γ P x Q σ) (hf : b = false → AW Γ P y Q σ) : AW Γ P (.cond c x y) Q σ := fun w0 a w H => by
  obtain ⟨μ, E, I, F, hd⟩ := H
  have hv : a.eval c = .bool b := by
    have := F.eval c
    rw [show evalT σ.tm c = _ from hc] at this
    exact RT.sc_inv this
  exact wpG_cond hv (fun h => ht h w0 a w ⟨μ, E, I, F, hd⟩) (fun h => hf h w0 a w ⟨μ, E, I, F, hd⟩)
theorem least {p : Nat → Prop} (h : ∃ n, p n) : ∃ n, p n ∧ ∀ m, p m → n ≤ m := by
  obtain ⟨n, hn⟩ := h
  induction n using Nat.strongRecOn with
  | _ n ih =>
    by_cases hm : ∃ m, m < n ∧ p m
    · obtain ⟨m, h1, h2⟩ := hm
      exact ih m h1 h2
    · refine ⟨n, hn, fun m h => ?_⟩
      rcases Nat.lt_or_ge m n with h1 | h1
      · exact absurd ⟨m, h1, h⟩ hm
      · exact h1
theorem AW.condB {c : Operand} {x y : Code} {p : Bool → Prop} (hc : σ.ev c = .leaf (.bb p)) (ht : p true → AW Γ P x Q σ) (hf : p false → AW Γ P y Q σ) : AW Γ P (.cond c x y) Q σ := fun w0 a w H => by
  obtain ⟨μ, E, I, F, hd⟩ := H
  obtain ⟨b, hv, hp⟩ : ∃ b : Bool, a.eval c = .bool b ∧ p b := by
    have := F.eval c
    rw [show evalT σ.tm c = _ from hc] at this
    exact this
  exact wpG_cond hv (fun h => ht (h ▸ hp) w0 a w ⟨μ, E, I, F, hd⟩) (fun h => hf (h ▸ hp) w0 a w ⟨μ, E, I, F, hd⟩)
theorem AW.loop {c : Code} (I : Nat → St → Prop) (n : Nat) (hs : I n σ) (round : ∀ n σ, I n σ → AW Γ P c (thenS (fun σ' => ∃ m, m < n ∧ I m σ') Q) σ) : AW Γ P (.loop c) Q σ := fun w0 a w H => by
  let p : Act → World → Nat → Prop := fun a w n => ∃ σ, I n σ ∧ Holds Γ w0 σ a w
  have dec : ∀ a w, Decidable (∃ n, p a w n) := fun a w => Classical.propDecidable _
  let ms : Act → World → Nat := fun a w => @dite _ (∃ n, p a w n) (dec a w) (fun h => Classical.choose (least h)) fun _ => 0
  have hms : ∀ a w, (∃ n, p a w n) → p a w (ms a w) ∧ ∀ m, p a w m → ms a w ≤ m := fun a w h => by
    have : ms a w = Classical.choose (least h) := by simp only [ms]; rw [dif_pos h]
    rw [this]; exact Classical.choose_spec (least h)
  refine wpG_loop (fun a w => ∃ n, p a w n) ms ⟨n, σ, hs, H⟩ fun a w hI => ?_
  obtain ⟨⟨σ1, h1, h2⟩, _⟩ := hms a w hI
  refine wpG_mono (round _ σ1 h1 w0 a w h2) fun e a' w' ⟨σ', k1, k2⟩ => ?_
  cases e with
  | normal =>
    obtain ⟨m, hm, hI'⟩ := k1
    exact ⟨⟨m, σ', hI', k2⟩, Nat.lt_of_le_of_lt ((hms a' w' ⟨m, σ', hI', k2⟩).2 m ⟨σ', hI', k2⟩) hm⟩
  | _ => exact ⟨σ', k1, k2⟩
end
end Go.Proofs.Ytfppilpaaoklaaa
