/- The walk over plain values: a range over a function. -/
import Derived.Test.YtiifcgaililllaaDoorPwM
namespace Go.Proofs.YtiifcgaililllaaDoor
set_option linter.unusedSimpArgs false
set_option linter.unusedVariables false
open Go Go.RowKit
variable {Γ : Ctx}

/-- A function that is ranged over: its yields tell what Y says, N of them, unless a round leaves (inf: for ever). -/
def SeqY (P : Program) (g : FuncId) (lb : Array Value) (Y : Nat → Array Value → World → World → Prop) (Kp : World → World → Prop) (N : Nat) (inf : Bool) (W : World) : Prop :=
  ∀ (m l : Nat) (J Jx : Nat → World → Prop),
    (∀ k args W0 W1, J k W0 → Below W0.heap.size W0 W1 → Y k args W0 W1 → k < N → YieldAt Fence.wide m P l args W1 fun e W' => (e = .returned (.bool true) ∧ J (k + 1) W' ∧ Kp W0 W') ∨ (e = .returned (.bool false) ∧ Jx (k + 1) W')) →
    (inf = true → ∀ W, ¬ J N W) → J 0 W →
    CallsIn Fence.wide (m + 1) P g (#[.func (.yield l) #[] #[]] ++ lb) W fun e W' => (∃ v, e = .returned v) ∧ ((∃ W0, J N W0 ∧ Below W0.heap.size W0 W') ∨ ∃ k W0, Jx k W0 ∧ Below W0.heap.size W0 W')
def KpB (B : Nat → Prop) (A C : World) : Prop := A.heap.size ≤ C.heap.size ∧ ∀ b, B b → C.heap[b]? = A.heap[b]?
/-- .. that has captured what reads as ls. -/
def PIt (P : Program) (g : FuncId) (ls : List L) (ys : Nat → List L) (N : Nat) (inf : Bool) : Prop :=
  ∀ (B : Nat → Prop) (cs : Array Value) (W : World), (∀ b, B b → b < W.heap.size) → cs.size = ls.length → (∀ (j : Nat) (l : L), ls[j]? = some l → RL B W l (cs.getD j undef)) → Globs (Cx B W.heap.size) h0 μ0 W →
    SeqY P g cs (fun k args W0 W1 => args.size = (ys k).length ∧ ∀ (j : Nat) (l : L), (ys k)[j]? = some l → persP l = true ∧ RL (fun b => B b ∨ W0.heap.size ≤ b) W1 l (args.getD j undef)) (KpB B) N inf W

/-! ### A piece of the way: what was there may be written where it is the call's own -/
abbrev Seg (Γ : Ctx) (bs : List AB) (μ : Pos) (W : World) (n : Nat) (md : Option Nat) : Ctx := ⟨PerG Γ (hOf (bs.map some)) μ W, n, bs, μ, md⟩
theorem hOf_some {bs : List AB} {id : Nat} {ab : AB} : hOf (bs.map some) id = some (some ab) ↔ bs[id]? = some ab := by
  simp [hOf, List.getElem?_map]
theorem hOf_live {bs : List AB} {id : Nat} {x : Option AB} (h : hOf (bs.map some) id = some x) : ∃ ab, x = some ab ∧ bs[id]? = some ab := by
  simp only [hOf, List.getElem?_map] at h
  cases hb : bs[id]? with
  | none => simp [hb] at h
  | some ab => simp [hb] at h; exact ⟨ab, h.symm, rfl⟩
theorem seg_start {bs : List AB} {μ : Pos} {W : World} {n : Nat} {md : Option Nat} (hn : n ≤ W.heap.size) (I : Inv Γ (hOf (bs.map some)) μ W) {tm : List T} {a : Act} (F : FrameR (Seg Γ bs μ W n md) (hOf (bs.map some)) μ W tm a.tmps) (M : Marks n W a.defers) :
    Holds (Seg Γ bs μ W n md) W ⟨tm, bs.map some⟩ a W := by
  refine ⟨μ, ⟨rfl, rfl, rfl, Nat.le_refl _, fun b hb hnI => ⟨rfl, fun id ab hi hg => hnI ⟨id, ab, hOf_some.1 hi, hg⟩⟩, fun j ab0 hj => ⟨fun h => ?_, fun ab hh => ?_⟩⟩, ?_, F, M⟩
  · have : hOf (bs.map some) j = none := h
    rw [hOf_some.2 hj] at this; cases this
  · have h2 : bs[j]? = some ab := hOf_some.1 hh
    have hj' : bs[j]? = some ab0 := hj
    rw [hj'] at h2; injection h2 with h2; subst h2
    exact ⟨rfl, rfl, rfl, rfl, fun g cur _ hw => ⟨cur, hw, rfl⟩⟩
  · exact Inv.offG (fun b hb _ => ⟨hb.1, .inl hb⟩) (Off.refl W) hn (fun id ab g h1 h2 _ => .inr ⟨id, ab, hOf_some.1 h1, h2⟩) I
theorem seg_end {bs : List AB} {μ : Pos} {W W' : World} {n : Nat} {md : Option Nat} (hn : Γ.base ≤ n) (hnW : n ≤ W.heap.size) (I : Inv Γ (hOf (bs.map some)) μ W) {σ : St} {a : Act} (H : Holds (Seg Γ bs μ W n md) W σ a W') :
    ∃ μ', Evo (hOf (bs.map some)) μ W σ.h μ' W' ∧ Inv Γ σ.h μ' W' ∧ FrameR Γ σ.h μ' W' σ.tm a.tmps ∧ Marks n W' a.defers := by
  obtain ⟨μ', E, I', F, M⟩ := H
  have hO : ∀ g, (Seg Γ bs μ W n md).O g → Γ.O g := fun g hg => by
    rcases hg with hg | ⟨j, ab, h1, h2⟩
    · exact .inl (Nat.le_trans hn hg)
    · exact I.own j ab g (hOf_some.2 h1) h2
  have hG : ∀ b, PerG (Seg Γ bs μ W n md) σ.h μ' W' b → rdb W' b → PerG Γ σ.h μ' W' b := fun b hb _ => ⟨hb.1, by
    rcases hb.2 with h | h
    · exact (show PerG Γ (hOf (bs.map some)) μ W b from h).2
    · exact .inr (hO b h)⟩
  refine ⟨μ', ⟨E.os, E.tape, E.output, E.size, fun b hb => ?_, fun id ab hi => ?_, fun id hi => ?_⟩, Inv.offG hG (Off.refl W') (Nat.le_trans I.base E.size) (fun _ _ g _ _ h => hO g h) I', F.offG hG (Off.refl W'), M⟩
  · exact E.per b hb.1 fun ⟨j, ab, h1, h2⟩ => hb.2 j ab (hOf_some.2 h1) h2
  · obtain ⟨k1, k2⟩ := E.kp id ab (hOf_some.1 hi)
    cases hx : σ.h id with
    | none => exact absurd hx k1
    | some x => cases x with
      | none => exact .inl rfl
      | some ab' =>
        obtain ⟨q1, q2, q3, q4, q5⟩ := k2 ab' hx
        exact .inr ⟨ab', rfl, q1, q2, q3, q4, fun g cur hg hw => q5 g cur hg hw⟩
  · obtain ⟨ab, hab, _⟩ := hOf_live hi
    cases hab

/-- Parameters are set. -/
def setTs : List T → List Tmp → List L → List T
  | tm, p :: ps, l :: ls => setTs (tm.set p (.leaf l)) ps ls
  | tm, _, _ => tm
theorem FrameR.setTs {h : Heap} {μ : Pos} {w : World} : ∀ (ps : List Tmp) (ls : List L) (vs : List Value) (tm : List T) (a : Array Value), ps.length = ls.length → vs.length = ls.length → FrameR Γ h μ w tm a →
    (∀ (j : Nat) (l : L) (v : Value), ls[j]? = some l → vs[j]? = some v → RX Γ h μ w l v) → FrameR Γ h μ w (setTs tm ps ls) ((ps.zip vs).foldl (fun t (p, v) => t.setIfInBounds p v) a)
  | [], [], [], tm, a, _, _, F, _ => F
  | p :: ps, l :: ls, v :: vs, tm, a, h1, h2, F, hr => by
    refine FrameR.setTs ps ls vs (tm.set p (.leaf l)) (a.setIfInBounds p v) (by simpa using h1) (by simpa using h2) ⟨⟨by simpa using F.1.1, F.1.2⟩, fun i t ht => ?_⟩ fun j l' v' hl hv => hr (j + 1) l' v' (by simpa using hl) (by simpa using hv)
    rw [List.getElem?_set] at ht
    split at ht
    · rename_i hpi
      subst hpi
      split at ht
      · rename_i hlt
        injection ht with ht; subst ht
        have : (a.setIfInBounds p v).getD p undef = v := by
          have h3 : p < a.size := by rw [F.1.1]; exact hlt
          simp [Array.getD_eq_getD_getElem?, h3]
        rw [this]
        exact hr 0 l v rfl rfl
      · cases ht
    · rename_i hpi
      have : (a.setIfInBounds p v).getD i undef = a.getD i undef := by
        simp [Array.getD_eq_getD_getElem?, Array.getElem?_setIfInBounds_ne hpi]
      rw [this]; exact F.2 i t ht
  | [], l :: ls, vs, _, _, h, _, _, _ => by simp at h
  | p :: ps, [], vs, _, _, h, _, _, _ => by simp at h
  | [], [], v :: vs, _, _, _, h, _, _ => by simp at h
  | p :: ps, l :: ls, [], _, _, _, h, _, _ => by simp at h

/-- How a round may leave. -/
def leaves : Exit → Option Code
  | .ret => some .ret
  | .exit id => some (.exit id)
  | _ => none
theorem Ev.off {w0 W W' : World} [kk : KK Γ 0] {h : Heap} {μ : Pos} (E : Ev Γ w0 h μ W) (hb : Below w0.heap.size W W') : Ev Γ w0 h μ W' :=
  ⟨hb.os.trans E.os, hb.tape.trans E.tape, hb.output.trans E.output, Nat.le_trans E.size hb.size, fun b hb' hI => ⟨(hb.block b hb').trans (E.per b hb' hI).1, (E.per b hb' hI).2⟩, fun j ab0 hj => by
    have := kk.len
    have h2 := (List.getElem?_eq_some_iff.1 hj).1
    omega⟩
theorem Marks.put {n : Nat} {W : World} {ds : List Deferred} (m : Marks n W ds) {l : Nat} {o : Obj} (hl : W.heap[l]? = some o) (ho : o ≠ .deferred (some [])) (o' : Obj) : Marks n (W.putObj l o') ds := by
  obtain ⟨Ds, h1, h2, h3⟩ := m
  refine ⟨Ds, h1, h2, fun D hD => ⟨(h3 D hD).1, ?_⟩⟩
  have hne : D ≠ l := fun e => by
    have := (h3 D hD).2
    rw [e, hl] at this
    injection this with this; exact ho this
  rw [World.putObj_heap_other hne]; exact (h3 D hD).2
theorem Marks.below {n : Nat} {W W' : World} {ds : List Deferred} (m : Marks n W ds) (hb : Below W.heap.size W W') : Marks n W' ds := by
  obtain ⟨Ds, h1, h2, h3⟩ := m
  exact ⟨Ds, h1, h2, fun D hD => ⟨(h3 D hD).1, by rw [hb.block D (Array.getElem?_eq_some_iff.1 (h3 D hD).2).1]; exact (h3 D hD).2⟩⟩

/-- What holds between two rounds. -/
structure Btw (Γ : Ctx) (w0 : World) (tm0 : List T) (bs : List AB) (a : Act) (B : Nat → Prop) (wS : World) (μ : Pos) (W : World) : Prop where
  ev : Ev Γ w0 (hOf (bs.map some)) μ W
  inv : Inv Γ (hOf (bs.map some)) μ W
  fr : FrameR Γ (hOf (bs.map some)) μ W tm0 a.tmps
  mks : Marks Γ.base W a.defers
  keep : ∀ b, B b → PerG Γ (hOf (bs.map some)) μ W b ∧ W.heap[b]? = wS.heap[b]?
theorem Btw.below [kk : KK Γ 0] {w0 wS W W' : World} {tm0 : List T} {bs : List AB} {a : Act} {B : Nat → Prop} {μ : Pos} (b : Btw Γ w0 tm0 bs a B wS μ W) (hb : Below W.heap.size W W') : Btw Γ w0 tm0 bs a B wS μ W' :=
  ⟨b.ev.off (hb.mono b.ev.size), b.inv.off (Off.below hb), b.fr.off (Off.below hb), b.mks.below hb, fun c hc => ⟨(b.keep c hc).1.off (Off.below hb), by rw [hb.block c (b.keep c hc).1.1.1]; exact (b.keep c hc).2⟩⟩
theorem Btw.put [kk : KK Γ 0] {w0 wS W : World} {tm0 : List T} {bs : List AB} {a : Act} {B : Nat → Prop} {μ : Pos} (b : Btw Γ w0 tm0 bs a B wS μ W) {l : Nat} {r : Loop} (hl : W.heap[l]? = some (.loop r)) (hw : w0.heap.size ≤ l) (hB : ¬ B l) (o' : Obj) : Btw Γ w0 tm0 bs a B wS μ (W.putObj l o') := by
  have ho := Off.put hl rfl o'
  refine ⟨b.ev.off ⟨rfl, rfl, rfl, by simp, fun k hk => World.putObj_heap_other (by omega)⟩, b.inv.off ho, b.fr.off ho, b.mks.put hl (fun h => by cases h) o', fun c hc => ⟨(b.keep c hc).1.off ho, ?_⟩⟩
  rw [World.putObj_heap_other (fun e => hB (by rw [← e]; exact hc))]
  exact (b.keep c hc).2

set_option maxHeartbeats 1000000 in
/-- A range over a function. -/
theorem AW.rangeFunc [kk : KK Γ 0] [pl : Plain Γ] {P : Program} {g : Operand} {ps : Array Tmp} {assign body : Code} {Q : Exit → St → Prop} {σ0 : St} {gf : FuncId} {ls : List L} {ys : Nat → List L} {N : Nat} {inf : Bool} {α : Type}
    (tm0 : List T) (bl : α → List AB) (inv : Nat → α → Prop) (invX : Exit → Nat → α → Prop) (x0 : α) (ρ0 : List Nat) (tm1 : Nat → List T)
    (it : PIt P gf ls ys N inf) (hf : FnOk P gf) (hi0 : inv 0 x0) (le0 : St.le 0 ρ0 σ0 ⟨tm0, (bl x0).map some⟩) (ok : ∀ k x, inv k x → St.ok ⟨tm0, (bl x).map some⟩) (okX : ∀ e k x, invX e k x → St.ok ⟨tm0, (bl x).map some⟩)
    (hg : evalT tm0 g = .leaf (.clo gf ls)) (hls : ls.all persP = true) (hps : ∀ k, (ys k).length = ps.size)
    (hinf : inf = true → ∀ x, ¬ inv N x)
    (assg : ∀ (Γ' : Ctx) (k : Nat) (x : α) [KK Γ' (bl x).length], inv k x → k < N → AW Γ' P assign (fun e σ' => e = .normal ∧ σ' = ⟨tm1 k, (bl x).map some⟩) ⟨setTs tm0 ps.toList (ys k), (bl x).map some⟩)
    (round : ∀ (Γ' : Ctx) (k : Nat) (x : α) [KK Γ' (bl x).length], inv k x → k < N → AW Γ' P body (fun e σ' => ∃ ρ y, (e = .normal ∧ inv (k + 1) y ∨ leaves e ≠ none ∧ invX e (k + 1) y) ∧ St.le 0 ρ ⟨tm0, σ'.bl⟩ ⟨tm0, (bl y).map some⟩) ⟨tm1 k, (bl x).map some⟩)
    (done : inf = false → ∀ x, inv N x → Q .normal ⟨tm0, (bl x).map some⟩)
    (stop : ∀ e k x, leaves e ≠ none → invX e k x → Q e ⟨tm0, (bl x).map some⟩) : AW Γ P (.rangeFunc g ps assign body) Q σ0 := by
  intro w0 a w H
  obtain ⟨μ, E, I, F, M⟩ := H
  obtain ⟨E, I, F, M⟩ := HoldsAt.le E I F M le0 (ok 0 x0 hi0)
  generalize muR ρ0 μ = μ at *
  clear le0
  show wpG Γ.md P _ _ a w
  rw [pl.md]
  show (Code.rangeFunc g ps assign body).wp P (liftQ Γ w0 Q) a w
  have hev : a.tmps = a.tmps := rfl
  obtain ⟨cs, hu, hcs, hr⟩ : ∃ cs : Array Value, a.eval g = .func (.func gf) #[] cs ∧ cs.size = ls.length ∧ ∀ (k : Nat) (l : L), ls[k]? = some l → RP Γ (hOf ((bl x0).map some)) μ w l (cs.getD k undef) := by
    have := F.eval g
    rw [hg] at this
    exact this
  have hrl : ∀ (j : Nat) (l : L), ls[j]? = some l → RL (PerG Γ (hOf ((bl x0).map some)) μ w) w l (cs.getD j undef) := fun j l hl => by
    have hp := List.all_eq_true.1 hls l (List.mem_of_getElem? hl)
    have := hr j l hl
    cases l <;> first | exact this | cases hp
  obtain ⟨B, hB⟩ : ∃ B : Nat → Prop, B = PerG Γ (hOf ((bl x0).map some)) μ w := ⟨_, rfl⟩
  rw [← hB] at hrl
  refine (wpIn_wide (n := 5)).1 (wpIn_rangeFunc ?_)
  intro fn hfn
  obtain ⟨rec, hrec⟩ : ∃ rec : LoopState → Option Code → Loop, rec = fun st pe => { state := st, pending := pe, fn, tmps := a.tmps, params := ps, assign, body, defers := w.heap.size } := ⟨_, rfl⟩
  obtain ⟨W1, hW1⟩ : ∃ W1, (w.alloc (.deferred (some []))).alloc (.loop (rec .ready none)) = W1 := ⟨_, rfl⟩
  have hL1 : W1.heap[w.heap.size + 1]? = some (.loop (rec .ready none)) := by
    rw [← hW1]; have := World.alloc_heap_new (w.alloc (.deferred (some []))) (.loop (rec .ready none)); rwa [World.size_alloc] at this
  have hK1 : W1.heap[w.heap.size]? = some (.deferred (some [])) := by
    rw [← hW1]; exact (Below.heap_alloc _ _ _ (by simp)).trans (World.alloc_heap_new w _)
  have hb1 : Below w.heap.size w W1 := by
    rw [← hW1]; exact ((Below.refl _ w).alloc (Nat.le_refl _) _).alloc (by simp) _
  have hBlt : ∀ b, B b → b < w.heap.size := fun b hb => by rw [hB] at hb; exact hb.1.1
  have hw0 : w0.heap.size ≤ w.heap.size := E.size
  have hbase : Γ.base ≤ w.heap.size := I.base
  have b0 : Btw Γ w0 tm0 (bl x0) a B w μ w := ⟨E, I, F, M, fun b hb => ⟨by rw [hB] at hb; exact hb, rfl⟩⟩
  have b1 := b0.below hb1
  have hgl0 : Globs (Cx B w.heap.size) h0 μ0 w := globs_in I F fun b hb => by rw [hB]; exact hb
  have hgl : Globs (Cx B W1.heap.size) h0 μ0 W1 := fun q vs hq => RL.keep (fun b hb => by
    have hBb : B b := by
      rcases hb.2 with h | h
      · exact h
      · exact absurd (Cx_O h) (Nat.not_le.2 hb.1.1)
    exact ⟨⟨⟨Nat.lt_of_lt_of_le hb.1.1 hb1.size, fun id ab h => by cases h⟩, .inl hBb⟩, hb1.block b hb.1.1⟩) (hgl0 q vs hq)
  have eg : ∀ args w, (callFunc gf args).run P w = .ok (.enter gf args) w := fun args w => by
    obtain ⟨fn', c', e1, e2, e3⟩ := hf
    have h1 : fn'.name ≠ "runtime.NumGoroutine" := by simpa using e2
    simp [callFunc, e1, h1, e3]
  obtain ⟨J, hJ⟩ : ∃ J : Nat → World → Prop, J = fun k W => ∃ x μ, inv k x ∧ Btw Γ w0 tm0 (bl x) a B w μ W ∧ W.heap[w.heap.size + 1]? = some (.loop (rec .ready none)) ∧ W.heap[w.heap.size]? = some (.deferred (some [])) := ⟨_, rfl⟩
  obtain ⟨Jx, hJx⟩ : ∃ Jx : Nat → World → Prop, Jx = fun k W => ∃ e c x μ, leaves e = some c ∧ invX e k x ∧ Btw Γ w0 tm0 (bl x) a B w μ W ∧ W.heap[w.heap.size + 1]? = some (.loop (rec .done (some c))) ∧ W.heap[w.heap.size]? = some (.deferred (some [])) := ⟨_, rfl⟩
  refine ⟨w.heap.size + 1, [mark w.heap.size], W1, { target := .fn (.func gf) cs, args := #[.func (.yield (w.heap.size + 1)) #[] #[]] }, W1, gf,
    #[.func (.yield (w.heap.size + 1)) #[] #[]] ++ cs, W1, ?_, ?_, fun _ _ => trivial, ?_, fun h => (by cases h), ?_⟩
  · rw [← hW1, hrec]; exact run_enterLoop_outer _ _ _ _ _
  · simp only [resolve, hu]
    simp [go_sem]
  · simp [invoke, go_sem, eg]
  · refine (it B cs W1 (fun b hb => Nat.lt_of_lt_of_le (hBlt b hb) hb1.size) hcs (fun j l hl => RL.keep (fun b hb => ⟨hb, hb1.block b (hBlt b hb)⟩) (hrl j l hl)) hgl 3 (w.heap.size + 1) J Jx ?_ ?_ ?_).mono ?_
    · -- a round
      intro k args V0 V1 hh hbel hY hk
      rw [hJ] at hh
      obtain ⟨x, μk, hinv, hbt, hl0, hd0⟩ := hh
      have hbt1 := hbt.below hbel
      have hl1 : V1.heap[w.heap.size + 1]? = some (.loop (rec .ready none)) := by rw [hbel.block _ (Array.getElem?_eq_some_iff.1 hl0).1]; exact hl0
      have hd1 : V1.heap[w.heap.size]? = some (.deferred (some [])) := by rw [hbel.block _ (Array.getElem?_eq_some_iff.1 hd0).1]; exact hd0
      obtain ⟨hsz, hargs⟩ := hY
      have hy := run_yield (P := P) (args := args) hl1 (by rw [hrec]; exact hsz.trans (hps k))
      rw [hrec] at hy
      refine ⟨fn, _, assign, body, hy, roundIn_of_wpIn trivial ?_⟩
      haveI : KK (Seg Γ (bl x) μk V1 V1.heap.size (some (w.heap.size + 1))) (bl x).length := ⟨rfl⟩
      have hF0 : FrameR (Seg Γ (bl x) μk V1 V1.heap.size (some (w.heap.size + 1))) (hOf ((bl x).map some)) μk V1 tm0 a.tmps := hbt1.fr.offG (fun b hb _ => ⟨hb.1, .inl hb⟩) (Off.refl V1)
      have hF1 := FrameR.setTs ps.toList (ys k) args.toList tm0 a.tmps (by simp [hps]) (by simpa using hsz) hF0 fun j l v hl hv => by
        obtain ⟨hp, hrl⟩ := hargs j l hl
        have hv' : args.getD j undef = v := by
          rw [Array.getElem?_toList] at hv
          simp [Array.getD_eq_getD_getElem?, hv]
        rw [hv'] at hrl
        refine RL.rx (RL.off (Off.refl V1) (fun b hb ⟨o, ho, _⟩ => ?_) hrl)
        have hblt : b < V1.heap.size := (Array.getElem?_eq_some_iff.1 ho).1
        have hper : PerG Γ (hOf ((bl x).map some)) μk V1 b := by
          rcases hb with hb | hb
          · exact (hbt1.keep b hb).1
          · refine ⟨⟨hblt, fun id ab hi hg => ?_⟩, .inr (.inl (Nat.le_trans hbt.inv.base hb))⟩
            rcases hbt.inv.at_ id ab hi with ⟨_, h2⟩ | ⟨g', cur, h1, h2, _⟩
            · rw [h2] at hg; cases hg
            · rw [h1] at hg; injection hg with hg; subst hg
              exact absurd (Array.getElem?_eq_some_iff.1 h2).1 (Nat.not_lt.2 hb)
        exact ⟨hper.1, .inl hper⟩
      have hz : (ps.zip args).foldl (fun t (p, v) => t.setIfInBounds p v) a.tmps = (ps.toList.zip args.toList).foldl (fun t (p, v) => t.setIfInBounds p v) a.tmps := by
        rw [← Array.foldl_toList, Array.toList_zip]
      have H1 := seg_start (md := some (w.heap.size + 1)) (a := { tmps := (ps.zip args).foldl (fun t (p, v) => t.setIfInBounds p v) a.tmps, defers := [] }) (Nat.le_refl _) hbt1.inv (by rw [hz]; exact hF1) (Marks.nil _ _)
      refine wpIn_mono (assg _ k x hinv hk V1 _ V1 H1 _) ?_
      rintro e a1 V2 ⟨σ1, ⟨rfl, rfl⟩, H2⟩
      have hn1 : Γ.base ≤ V1.heap.size := hbt1.inv.base
      obtain ⟨μ2, E2, I2, F2, M2⟩ := seg_end hn1 (Nat.le_refl _) hbt1.inv H2
      have hl2 : V2.heap[w.heap.size + 1]? = some (.loop (rec .ready none)) := by rw [(E2.per _ (per_dull hbt1.inv hl1 rfl)).1]; exact hl1
      obtain ⟨V3, hV3⟩ : ∃ V3, V3 = V2.putObj (w.heap.size + 1) (.loop { rec .ready none with state := .busy }) := ⟨_, rfl⟩
      refine ⟨V3, by rw [hV3]; exact run_beginRound hl2 (by rw [hrec]), ?_⟩
      have ho2 : Off V2 V3 := by rw [hV3]; exact Off.put hl2 rfl _
      have hn3 : V1.heap.size ≤ V3.heap.size := Nat.le_trans E2.size ho2.size
      haveI : KK (Seg Γ (bl x) μ2 V3 V1.heap.size (some (w.heap.size + 1))) (bl x).length := ⟨rfl⟩
      have I3 := I2.off ho2
      have hF3 := (F2.off ho2).offG (Γ' := Seg Γ (bl x) μ2 V3 V1.heap.size (some (w.heap.size + 1))) (fun b hb _ => ⟨hb.1, .inl hb⟩) (Off.refl _)
      have M3 : Marks V1.heap.size V3 a1.defers := by rw [hV3]; exact M2.put hl2 (fun h => by cases h) _
      have H3 := seg_start (md := some (w.heap.size + 1)) hn3 I3 hF3 M3
      refine wpIn_mono (round _ k x hinv hk V3 a1 V3 H3 _) ?_
      rintro e a4 V4 ⟨σ4, ⟨ρ, y, hy2, hle⟩, H4⟩
      obtain ⟨μ4, E4, I4, _, _⟩ := seg_end hn1 hn3 I3 H4
      -- from the round's beginning to its end
      have hbt2 : Btw Γ w0 tm0 (bl x) a B w μ2 V2 := by
        refine ⟨hbt1.ev.trans E2, I2, hbt1.fr.evo E2, hbt1.mks.evo hbt1.inv E2, fun b hb => ⟨⟨E2.perm (hbt1.keep b hb).1.1, (hbt1.keep b hb).1.2⟩, ?_⟩⟩
        rw [(E2.per b (hbt1.keep b hb).1.1).1]; exact (hbt1.keep b hb).2
      have hnB : ¬ B (w.heap.size + 1) := fun h => by have := hBlt _ h; omega
      have hbt3 : Btw Γ w0 tm0 (bl x) a B w μ2 V3 := by rw [hV3]; exact hbt2.put hl2 (by omega) hnB _
      have hl3 : V3.heap[w.heap.size + 1]? = some (.loop { rec .ready none with state := .busy }) := by rw [hV3]; exact World.putObj_heap_same (Array.getElem?_eq_some_iff.1 hl2).1
      have hd3 : V3.heap[w.heap.size]? = some (.deferred (some [])) := by
        rw [hV3, World.putObj_heap_other (by omega), (E2.per _ (per_dull hbt1.inv hd1 rfl)).1]; exact hd1
      have hl4 : V4.heap[w.heap.size + 1]? = some (.loop { rec .ready none with state := .busy }) := by rw [(E4.per _ (per_dull hbt3.inv hl3 rfl)).1]; exact hl3
      have hd4 : V4.heap[w.heap.size]? = some (.deferred (some [])) := by rw [(E4.per _ (per_dull hbt3.inv hd3 rfl)).1]; exact hd3
      have hoky : St.ok ⟨tm0, (bl y).map some⟩ := by
        rcases hy2 with ⟨_, h⟩ | ⟨_, h⟩
        · exact ok _ _ h
        · exact okX _ _ _ h
      obtain ⟨E5, I5, F5, M5⟩ := HoldsAt.le (Γ := Γ) (σ := ⟨tm0, σ4.bl⟩) (a := a) (hbt3.ev.trans E4) I4 (hbt3.fr.evo E4) (hbt3.mks.evo hbt3.inv E4) hle hoky
      have hbt4 : Btw Γ w0 tm0 (bl y) a B w (muR ρ μ4) V4 := ⟨E5, I5, F5, M5, fun b hb => by
        have hp := (hbt3.keep b hb).1
        refine ⟨⟨le_per hle.bl (E4.perm hp.1), hp.2⟩, ?_⟩
        rw [(E4.per b hp.1).1]; exact (hbt3.keep b hb).2⟩
      have hsz4 : V0.heap.size ≤ V4.heap.size := Nat.le_trans hbel.size (Nat.le_trans hn3 E4.size)
      have fin : ∀ jump : Option Code, (Instr.endRound (w.heap.size + 1) jump).run P V4 = .ok (.bool jump.isNone) (V4.putObj (w.heap.size + 1) (.loop (rec (if jump.isNone then .ready else .done) jump))) ∧
          Btw Γ w0 tm0 (bl y) a B w (muR ρ μ4) (V4.putObj (w.heap.size + 1) (.loop (rec (if jump.isNone then .ready else .done) jump))) ∧
          (V4.putObj (w.heap.size + 1) (.loop (rec (if jump.isNone then .ready else .done) jump))).heap[w.heap.size + 1]? = some (.loop (rec (if jump.isNone then .ready else .done) jump)) ∧
          (V4.putObj (w.heap.size + 1) (.loop (rec (if jump.isNone then .ready else .done) jump))).heap[w.heap.size]? = some (.deferred (some [])) := fun jump => by
        have := run_endRound (P := P) jump hl4
        refine ⟨by rw [hrec] at this ⊢; exact this, hbt4.put hl4 (by omega) hnB _, World.putObj_heap_same (Array.getElem?_eq_some_iff.1 hl4).1, (World.putObj_heap_other (by omega)).trans hd4⟩
      have kpb : ∀ o', KpB B V0 (V4.putObj (w.heap.size + 1) o') := fun o' => ⟨by simpa using hsz4, fun b hb => by
        rw [World.putObj_heap_other (fun e => hnB (by rw [← e]; exact hb)), (hbt4.keep b hb).2, (hbt.keep b hb).2]⟩
      rcases hy2 with ⟨rfl, hiy⟩ | ⟨hlv, hxy⟩
      · obtain ⟨f1, f2, f3, f4⟩ := fin none
        exact ⟨_, _, f1, .inl ⟨rfl, by rw [hJ]; exact ⟨y, _, hiy, f2, f3, f4⟩, kpb _⟩⟩
      · cases e with
        | ret =>
          obtain ⟨f1, f2, f3, f4⟩ := fin (some .ret)
          exact ⟨_, _, f1, .inr ⟨rfl, by rw [hJx]; exact ⟨_, _, y, _, rfl, hxy, f2, f3, f4⟩⟩⟩
        | exit id =>
          obtain ⟨f1, f2, f3, f4⟩ := fin (some (.exit id))
          exact ⟨_, _, f1, .inr ⟨rfl, by rw [hJx]; exact ⟨_, _, y, _, rfl, hxy, f2, f3, f4⟩⟩⟩
        | _ => exact absurd rfl hlv
    · intro hi W hh
      rw [hJ] at hh
      obtain ⟨x, _, h, _⟩ := hh
      exact hinf hi x h
    · rw [hJ]; exact ⟨x0, μ, hi0, b1, hL1, hK1⟩
    · -- behind it
      have hnB : ¬ B (w.heap.size + 1) := fun h => by have := hBlt _ h; omega
      have mks : ∀ (W : World) (ds : List Deferred), Marks Γ.base w a.defers → Marks Γ.base W a.defers → W.heap[w.heap.size]? = some (.deferred (some [])) → Marks Γ.base W (mark w.heap.size :: a.defers) := fun W ds m0 m hd => by
        obtain ⟨Ds, h1, h2, h3⟩ := m0
        obtain ⟨Ds', h1', h2', h3'⟩ := m
        have hinj : ∀ x y : Nat, mark x = mark y → x = y := fun x y h => by
          unfold mark at h; injection h with h1 h2; injection h1
        have hDs : Ds' = Ds := (List.map_inj_right hinj).1 (h1'.symm.trans h1)
        subst hDs
        refine ⟨w.heap.size :: Ds', by rw [h1]; rfl, List.nodup_cons.2 ⟨fun hm => ?_, h2⟩, fun D hD => ?_⟩
        · have := (Array.getElem?_eq_some_iff.1 (h3 _ hm).2).1
          omega
        · rcases List.mem_cons.1 hD with rfl | hD
          · exact ⟨hbase, hd⟩
          · exact h3' D hD
      have last : ∀ (e : Exit) (W W2 : World) (x : α) (μk : Pos) (st : LoopState) (pe : Option Code), Btw Γ w0 tm0 (bl x) a B w μk W → W.heap[w.heap.size + 1]? = some (.loop (rec st pe)) → W.heap[w.heap.size]? = some (.deferred (some [])) → Below W.heap.size W W2 → st ≠ .busy →
          ∃ W4, (Instr.endLoop (w.heap.size + 1)).run P W2 = .ok pe W4 ∧ (Q e ⟨tm0, (bl x).map some⟩ → liftQ Γ w0 Q e { a with defers := mark w.heap.size :: a.defers } W4) := fun e W W2 x μk st pe hbt hl hd hbel hst => by
        have hl2 : W2.heap[w.heap.size + 1]? = some (.loop (rec st pe)) := by rw [hbel.block _ (Array.getElem?_eq_some_iff.1 hl).1]; exact hl
        have hd2 : W2.heap[w.heap.size]? = some (.deferred (some [])) := by rw [hbel.block _ (Array.getElem?_eq_some_iff.1 hd).1]; exact hd
        have hbt2 := (hbt.below hbel).put hl2 (by omega) hnB (.loop { rec st pe with state := .exhausted })
        have hend := run_endLoop (P := P) hl2 (by rw [hrec]; exact hst)
        refine ⟨_, by rw [hend, hrec], fun hq => ⟨_, hq, μk, hbt2.ev, hbt2.inv, hbt2.fr, ?_⟩⟩
        exact mks _ a.defers M hbt2.mks ((World.putObj_heap_other (by omega)).trans hd2)
      rintro e W2 ⟨⟨v, rfl⟩, ⟨W0, hh, hbel⟩ | ⟨k, W0, hh, hbel⟩⟩
      · rw [hJ] at hh
        obtain ⟨x, μk, hinv, hbt, hl, hd⟩ := hh
        obtain ⟨W4, h1, h2⟩ := last .normal W0 W2 x μk _ _ hbt hl hd hbel (by simp)
        refine ⟨none, W4, h1, h2 (done ?_ x hinv)⟩
        cases hi : inf with
        | false => rfl
        | true => exact absurd hinv (hinf hi x)
      · rw [hJx] at hh
        obtain ⟨e, c, x, μk, hc, hinv, hbt, hl, hd⟩ := hh
        obtain ⟨W4, h1, h2⟩ := last e W0 W2 x μk _ _ hbt hl hd hbel (by simp)
        refine ⟨some c, W4, h1, ?_⟩
        have hq := h2 (stop e k x (by rw [hc]; simp) hinv)
        cases e with
        | ret => cases hc; exact wpIn_ret hq
        | exit id => cases hc; exact wpIn_exit hq
        | _ => cases hc
end Go.Proofs.YtiifcgaililllaaDoor
