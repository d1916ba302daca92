/- What each kind of operation does to plain values: cuts, rows made, appended to, copied over. -/
import Derived.Test.YtfppilpaaoklaaaPw6
import Derived.Great.BuildSlice
import Derived.Laws.AppendOwn
import Derived.Deep.Upon
namespace Go.Proofs.Ytfppilpaaoklaaa
set_option linter.unusedSimpArgs false
set_option linter.unusedVariables false
open Go Go.RowKit
variable {Γ : Ctx}

theorem mul_add_lt {i j s n : Nat} (hi : i < n) (hj : j < s) : i * s + j < n * s := by
  have := Nat.mul_le_mul_right s (show i + 1 ≤ n from hi)
  rw [Nat.add_mul, Nat.one_mul] at this
  omega
theorem div_at {k s : Nat} (hs : 0 < s) : k / s * s + k % s = k := by rw [Nat.mul_comm]; exact Nat.div_add_mod k s
theorem div_lt_of {k s n : Nat} (h : k < n * s) : k / s < n := Nat.div_lt_of_lt_mul (by rw [Nat.mul_comm]; exact h)

theorem Reads.vals {h : Heap} {μ : Pos} {w : World} {es : List (List L)} {A : Option Addr} {c s : Nat} (R : Reads Γ h μ w es A c s) :
    ∃ vs : List Value, vs.length = es.length * s ∧ (∀ v ∈ vs, v.oneCell' = true) ∧ (∀ (k : Nat) (v : Value), vs[k]? = some v → ∃ p, A = some p ∧ w.cell? (p.add k) = some v) ∧
      (∀ (i : Nat) (e : List L) (j : Nat) (x : L), es[i]? = some e → e[j]? = some x → ∃ v, vs[i * s + j]? = some v ∧ RXc Γ h μ w x v) := by
  rcases A with _ | p
  · have h0 : es.length * s = 0 := by
      rcases Nat.eq_zero_or_pos (es.length * s) with h | h
      · exact h
      · have h1 : 0 < es.length := Nat.pos_of_mul_pos_right h
        have h2 : 0 < s := Nat.pos_of_mul_pos_left h
        have hl := R.len es[0] (List.getElem_mem h1)
        obtain ⟨p, v, hp, _⟩ := R.at_ 0 es[0] 0 (es[0][0]'(by omega)) (List.getElem?_eq_getElem h1) (List.getElem?_eq_getElem _)
        cases hp
    refine ⟨[], by rw [h0]; rfl, by simp, by simp, fun i e j x he hx => ?_⟩
    obtain ⟨p, v, hp, _⟩ := R.at_ i e j x he hx
    cases hp
  · let vs : List Value := (List.range (es.length * s)).map fun k => (w.cell? (p.add k)).getD undef
    have hget : ∀ k, k < es.length * s → ∃ v, vs[k]? = some v ∧ w.cell? (p.add k) = some v ∧ v.oneCell' = true ∧ ∀ i e j x, es[i]? = some e → e[j]? = some x → i * s + j = k → RXc Γ h μ w x v := by
      intro k hk
      have hs : 0 < s := by
        rcases Nat.eq_zero_or_pos s with h | h
        · subst h; simp at hk
        · exact h
      have hi := div_lt_of hk
      have he : es[k / s]? = some es[k / s] := List.getElem?_eq_getElem hi
      have hl := R.len _ (List.getElem_mem hi)
      have hj : k % s < es[k / s].length := by rw [hl]; exact Nat.mod_lt _ hs
      obtain ⟨p', v, hp, hc, hx⟩ := R.at_ (k / s) _ (k % s) _ he (List.getElem?_eq_getElem hj)
      cases hp
      rw [div_at hs] at hc
      refine ⟨v, by simp [vs, hk, hc], hc, hx.1, fun i e j x he' hx' hk' => ?_⟩
      obtain ⟨p', v', hp', hc', hx''⟩ := R.at_ i e j x he' hx'
      cases hp'
      rw [hk', hc] at hc'
      cases hc'
      exact hx''
    have hlen : vs.length = es.length * s := by simp [vs]
    refine ⟨vs, hlen, fun v hv => ?_, fun k v hv => ?_, fun i e j x he hx => ?_⟩
    · obtain ⟨k, hk⟩ := List.getElem?_of_mem hv
      have hlt : k < es.length * s := by rw [← hlen]; exact (List.getElem?_eq_some_iff.1 hk).1
      obtain ⟨v', h1, _, h2, _⟩ := hget k hlt
      rw [hk] at h1; injection h1 with h1; subst h1; exact h2
    · have hlt : k < es.length * s := by rw [← hlen]; exact (List.getElem?_eq_some_iff.1 hv).1
      obtain ⟨v', h1, h2, _⟩ := hget k hlt
      rw [hv] at h1; injection h1 with h1; subst h1
      exact ⟨p, rfl, h2⟩
    · have hi : i < es.length := (List.getElem?_eq_some_iff.1 he).1
      have hj : j < s := by rw [← R.len e (List.mem_of_getElem? he)]; exact (List.getElem?_eq_some_iff.1 hx).1
      obtain ⟨v, h1, _, _, h3⟩ := hget _ (mul_add_lt hi hj)
      exact ⟨v, h1, h3 i e j x he hx rfl⟩

section
variable {h : Heap} {μ : Pos} {w : World}
/-- Cells written over a piece of a block. -/
theorem written_seg (I : Inv Γ h μ w) {id : Nat} {ab : AB} (hi : h id = some (some ab)) {g : Nat} (hg : μ id = some g) {cur : Array Value} (hw : w.heap[g]? = some (.cells cur ab.t (0, 0))) (off : Nat) (vs : List Value) (hfit : off + vs.length ≤ cur.size)
    (es : List (List L)) (hel : es.length = ab.es.length) (hlen : ∀ e ∈ es, e.length = ab.s)
    (hR : ∀ (i : Nat) (e : List L) (j : Nat) (l : L), es[i]? = some e → e[j]? = some l →
      if off ≤ i * ab.s + j ∧ i * ab.s + j < off + vs.length then ∃ u, vs[i * ab.s + j - off]? = some u ∧ RXc Γ h μ w l u else ∃ e', ab.es[i]? = some e' ∧ e'[j]? = some l) :
    Evo h μ w (upd h [(id, some ⟨ab.t, ab.s, es⟩)]) μ (w.setRow g (cur.toList.take off ++ vs ++ cur.toList.drop (off + vs.length)).toArray) ∧
    Inv Γ (upd h [(id, some ⟨ab.t, ab.s, es⟩)]) μ (w.setRow g (cur.toList.take off ++ vs ++ cur.toList.drop (off + vs.length)).toArray) := by
  refine written I hi hg hw (by simp only [List.size_toArray, List.length_append, List.length_take, List.length_drop, Array.length_toList]; omega) es hel hlen fun i e j l he hl => ?_
  have := hR i e j l he hl
  have hb : (cur.toList.take off).length = off := by simp; omega
  simp only [List.getElem?_toArray]
  split at this
  · rename_i hk
    obtain ⟨u, hu, hx⟩ := this
    refine ⟨u, ?_, hx⟩
    rw [List.append_assoc, List.getElem?_append_right (by rw [hb]; exact hk.1), hb, List.getElem?_append_left (by omega)]
    exact hu
  · rename_i hk
    obtain ⟨e', he', hl'⟩ := this
    rcases I.at_ id ab hi with ⟨h0, _⟩ | ⟨g', cur', hg', hw', hle, hr⟩
    · rw [h0] at he'; simp at he'
    · rw [hg] at hg'; cases hg'
      rw [hw] at hw'; cases hw'
      obtain ⟨u, hu, hx⟩ := hr i e' j l he' hl'
      refine ⟨u, ?_, hx⟩
      rcases Nat.lt_or_ge (i * ab.s + j) off with h1 | h1
      · rw [List.append_assoc, List.getElem?_append_left (by rw [hb]; exact h1), List.getElem?_take, if_pos h1, Array.getElem?_toList]; exact hu
      · rw [List.append_assoc, List.getElem?_append_right (by rw [hb]; exact h1), hb, List.getElem?_append_right (by omega), List.getElem?_drop, Array.getElem?_toList]
        rw [show off + vs.length + (i * ab.s + j - off - vs.length) = i * ab.s + j by omega]; exact hu

/-- A new number for a block that is there: the elder one goes, more stands in it. -/
theorem taken (I : Inv Γ h μ w) {id0 id : Nat} {ab : AB} (hi0 : h id0 = some (some ab)) (hi : h id = none) {g : Nat} (hg : μ id0 = some g) {cur cur' : Array Value} (hw : w.heap[g]? = some (.cells cur ab.t (0, 0)))
    (es : List (List L)) (hsz : es.length * ab.s ≤ cur'.size) (hlen : ∀ e ∈ es, e.length = ab.s)
    (hR : ∀ (i : Nat) (e : List L) (j : Nat) (l : L), es[i]? = some e → e[j]? = some l → ∃ u, cur'[i * ab.s + j]? = some u ∧ RXc Γ h μ w l u) :
    Evo h μ w (upd h [(id0, none), (id, some ⟨ab.t, ab.s, es⟩)]) (fun i => if i = id then some g else μ i) (w.setRow g cur') ∧
    Inv Γ (upd h [(id0, none), (id, some ⟨ab.t, ab.s, es⟩)]) (fun i => if i = id then some g else μ i) (w.setRow g cur') := by
  have hne : id0 ≠ id := fun e => by rw [e, hi] at hi0; cases hi0
  have hset : (w.setRow g cur').heap[g]? = some (.cells cur' ab.t (0, 0)) := setRow_heap w g cur cur' ab.t (0, 0) hw
  have hoth : ∀ b, b ≠ g → (w.setRow g cur').heap[b]? = w.heap[b]? := fun b hb => setRow_other w g b cur' hb
  have hu0 : upd h [(id0, none), (id, some ⟨ab.t, ab.s, es⟩)] id0 = some none := by rw [← upd_two hne, upd_one, if_neg hne, upd_one, if_pos rfl]
  have hu1 : upd h [(id0, none), (id, some ⟨ab.t, ab.s, es⟩)] id = some (some ⟨ab.t, ab.s, es⟩) := by rw [← upd_two hne, upd_one, if_pos rfl]
  have hu2 : ∀ i, i ≠ id0 → i ≠ id → upd h [(id0, none), (id, some ⟨ab.t, ab.s, es⟩)] i = h i := fun i h1 h2 => by rw [← upd_two hne, upd_one, if_neg h2, upd_one, if_neg h1]
  have hone : ∀ i a, h i = some (some a) → μ i = some g → i = id0 := fun i a hh hm => I.inj i id0 a ab g hh hi0 hm hg
  have hback : ∀ i a, upd h [(id0, none), (id, some ⟨ab.t, ab.s, es⟩)] i = some (some a) → i ≠ id → i ≠ id0 ∧ h i = some (some a) := fun i a hh hn => by
    by_cases h0 : i = id0
    · rw [h0, hu0] at hh; cases hh
    · rw [hu2 i h0 hn] at hh; exact ⟨h0, hh⟩
  have E : Evo h μ w (upd h [(id0, none), (id, some ⟨ab.t, ab.s, es⟩)]) (fun i => if i = id then some g else μ i) (w.setRow g cur') := by
    refine ⟨rfl, rfl, rfl, by simp [World.setRow], fun b hb => ⟨hoth b (fun e => hb.2 id0 ab hi0 (by rw [e]; exact hg)), fun i a hh => ?_⟩, fun i a hh => ?_, fun i hh => ?_⟩
    · by_cases he : i = id
      · simp only [he, if_true]; rw [← hg]; exact hb.2 id0 ab hi0
      · simp only [he, if_false]; exact hb.2 i a (hback i a hh he).2
    · by_cases h0 : i = id0
      · exact .inl (by rw [h0]; exact hu0)
      · have h1 : i ≠ id := fun e => by rw [e, hi] at hh; cases hh
        refine .inr ⟨a, by rw [hu2 i h0 h1]; exact hh, rfl, rfl, rfl, by simp [h1], fun g' c hg' hw' => ⟨c, ?_, rfl⟩⟩
        rw [hoth g' (fun e => h0 (hone i a hh (by rw [hg', e])))]
        exact hw'
    · have h0 : i ≠ id0 := fun e => by rw [e, hi0] at hh; cases hh
      have h1 : i ≠ id := fun e => by rw [e, hi] at hh; cases hh
      rw [hu2 i h0 h1]; exact hh
  refine ⟨E, ⟨fun i a hh => ?_, fun i a hh => ?_, fun i j a b g' h1 h2 g1 g2 => ?_, Nat.le_trans I.base E.size, fun i a g' hh hg' => ?_⟩⟩
  · by_cases he : i = id
    · rw [he, hu1] at hh; injection hh with hh; injection hh with hh; subst hh; exact hlen
    · exact I.len i a (hback i a hh he).2
  · by_cases he : i = id
    · rw [he, hu1] at hh; injection hh with hh; injection hh with hh; subst hh
      refine .inr ⟨g, cur', by simp [he], hset, hsz, fun i e j l k1 k2 => ?_⟩
      obtain ⟨u, hu, hx⟩ := hR i e j l k1 k2
      exact ⟨u, hu, hx.evo E⟩
    · obtain ⟨h0, hh'⟩ := hback i a hh he
      rcases I.at_ i a hh' with ⟨r1, r2⟩ | ⟨g', c, hg', hw', hl, hr⟩
      · exact .inl ⟨r1, by simp only [he, if_false]; exact r2⟩
      · refine .inr ⟨g', c, by simp only [he, if_false]; exact hg', by rw [hoth g' (fun e => h0 (hone i a hh' (by rw [hg', e])))]; exact hw', hl, fun i e j l k1 k2 => ?_⟩
        obtain ⟨u, hu, hx⟩ := hr i e j l k1 k2
        exact ⟨u, hu, hx.evo E⟩
  · by_cases he : i = id
    · by_cases hf : j = id
      · exact he.trans hf.symm
      · simp only [he, if_true] at g1; simp only [hf, if_false] at g2
        injection g1 with g1; subst g1
        obtain ⟨k0, k1⟩ := hback j b h2 hf
        exact absurd (hone j b k1 g2) k0
    · simp only [he, if_false] at g1
      by_cases hf : j = id
      · simp only [hf, if_true] at g2
        injection g2 with g2; subst g2
        obtain ⟨k0, k1⟩ := hback i a h1 he
        exact absurd (hone i a k1 g1) k0
      · simp only [hf, if_false] at g2
        exact I.inj i j a b g' (hback i a h1 he).2 (hback j b h2 hf).2 g1 g2
  · by_cases he : i = id
    · simp only [he, if_true] at hg'; injection hg' with hg'; rw [← hg']; exact I.own id0 ab g hi0 hg
    · simp only [he, if_false] at hg'; exact I.own i a g' (hback i a hh he).2 hg'

/-- A row without elements, and without a block. -/
theorem laid_none (I : Inv Γ h μ w) {id : Nat} (hi : h id = none) (t : TypeId) (s : Nat) : Evo h μ w (upd h [(id, some ⟨t, s, []⟩)]) (fun i => if i = id then none else μ i) w ∧ Inv Γ (upd h [(id, some ⟨t, s, []⟩)]) (fun i => if i = id then none else μ i) w := by
  have hback : ∀ i a, upd h [(id, some ⟨t, s, []⟩)] i = some (some a) → i ≠ id → h i = some (some a) := fun i a hh hne => by rw [upd_one, if_neg hne] at hh; exact hh
  have E : Evo h μ w (upd h [(id, some ⟨t, s, []⟩)]) (fun i => if i = id then none else μ i) w := by
    refine ⟨rfl, rfl, rfl, Nat.le_refl _, fun b hb => ⟨rfl, fun i a hh => ?_⟩, fun i a hh => ?_, fun i hh => ?_⟩
    · by_cases he : i = id
      · simp [he]
      · simp only [he, if_false]; exact hb.2 i a (hback i a hh he)
    · have he : i ≠ id := fun e => by subst e; rw [hi] at hh; cases hh
      exact .inr ⟨a, by rw [upd_one, if_neg he]; exact hh, rfl, rfl, rfl, by simp [he], fun g c _ hw => ⟨c, hw, rfl⟩⟩
    · have he : i ≠ id := fun e => by subst e; rw [hi] at hh; cases hh
      rw [upd_one, if_neg he]; exact hh
  refine ⟨E, ⟨fun i a hh => ?_, fun i a hh => ?_, fun i j a b g h1 h2 g1 g2 => ?_, I.base, fun i a g hh hg => ?_⟩⟩
  · by_cases he : i = id
    · rw [upd_one, if_pos he] at hh; injection hh with hh; injection hh with hh; subst hh; simp
    · exact I.len i a (hback i a hh he)
  · by_cases he : i = id
    · rw [upd_one, if_pos he] at hh; injection hh with hh; injection hh with hh; subst hh
      exact .inl ⟨rfl, by simp [he]⟩
    · rcases I.at_ i a (hback i a hh he) with ⟨r1, r2⟩ | ⟨g, c, hg, hw, hl, hr⟩
      · exact .inl ⟨r1, by simp only [he, if_false]; exact r2⟩
      · exact .inr ⟨g, c, by simp only [he, if_false]; exact hg, hw, hl, fun i e j l k1 k2 => by obtain ⟨u, hu, hx⟩ := hr i e j l k1 k2; exact ⟨u, hu, hx.evo E⟩⟩
  · have e1 : i ≠ id := fun e => by simp [e] at g1
    have e2 : j ≠ id := fun e => by simp [e] at g2
    simp only [e1, if_false] at g1; simp only [e2, if_false] at g2
    exact I.inj i j a b g (hback i a h1 e1) (hback j b h2 e2) g1 g2
  · have e1 : i ≠ id := fun e => by simp [e] at hg
    simp only [e1, if_false] at hg
    exact I.own i a g (hback i a hh e1) hg
end

/-- What an element type is. -/
structure ElTy (P : Program) (t e : TypeId) (s bytes : Nat) (z : List Value) : Prop where
  und : P.underlying t = some (.slice e)
  inf : ∃ i zv, P.info? e = some i ∧ i.zero = some zv ∧ zv.cells.toList = z ∧ i.size = s ∧ i.bytes = bytes
  zlen : z.length = s
  one : ∀ v ∈ z, v.oneCell' = true
  pos : 0 < s
def eltyB (P : Program) (t : TypeId) : Option (TypeId × Nat × Nat × List Value) :=
  match P.underlying t with
  | some (.slice e) => match P.info? e with
    | some i => match i.zero with
      | some zv => if zv.cells.size = i.size ∧ zv.cells.toList.all (·.oneCell') = true ∧ 0 < i.size then some (e, i.size, i.bytes, zv.cells.toList) else none
      | none => none
    | none => none
  | _ => none
theorem eltyB_spec {P : Program} {t e : TypeId} {s bytes : Nat} {z : List Value} (h : eltyB P t = some (e, s, bytes, z)) : ElTy P t e s bytes z := by
  unfold eltyB at h
  split at h
  · rename_i e' hu
    split at h
    · rename_i i hi
      split at h
      · rename_i zv hz
        split at h
        · rename_i hc
          injection h with h
          injection h with h1 h; injection h with h2 h; injection h with h3 h4
          subst h1 h2 h3 h4
          exact ⟨hu, ⟨i, zv, hi, hz, rfl, rfl, rfl⟩, by simpa using hc.1, fun v hv => List.all_eq_true.1 hc.2.1 v hv, hc.2.2⟩
        · cases h
      · cases h
    · cases h
  · cases h

section
variable {P : Program} {o : Oper} {tm : List T} {h : Heap}

/-! ### Cuts -/
/-- What a bound says: nothing, or a number. -/
def bnd (tm : List T) : Option Operand → Option (Option Int)
  | none => some none
  | some x => match evalT tm x with | .leaf (.sc (.int _ n)) => some (some n) | _ => none
theorem bnd_spec {tm tm' : List T} {h' : Heap} {μ : Pos} {w : World} {a : Act} {x : Option Operand} {b : Option Int} (hb : bnd tm x = some b) (hx : ∀ y, x = some y → evalT tm' y = evalT tm y) (F : FrameR Γ h' μ w tm' a.tmps) :
    (x = none ∧ b = none) ∨ ∃ y k n, x = some y ∧ b = some n ∧ a.eval y = .int k n := by
  cases x with
  | none => simp [bnd] at hb; exact .inl ⟨rfl, hb.symm⟩
  | some y =>
    simp only [bnd] at hb
    split at hb
    · rename_i k n he
      injection hb with hb; subst hb
      have r := F.eval y
      rw [hx y rfl, he] at r
      exact .inr ⟨y, k, n, rfl, rfl, RT.sc_inv r⟩
    · cases hb

theorem op_slice {t e : TypeId} {x : Operand} {lo hi mx : Option Operand} {lo' hi' mx' : Option Int} {l : L} {es : List (List L)} {s : Nat} (ho : o.op = .slice t x lo hi mx) (ht : elemB P t = some e) (hs : sizeB P e = some s) (hx : evalT tm x = .leaf l) (hr : rowsOf h l = some es)
    (hlo : bnd tm lo = some lo') (hhi : bnd tm hi = some hi') (hmx : bnd tm mx = some mx') (hmh : mx' = none ∨ hi' ≠ none)
    (h0 : 0 ≤ lo'.getD 0) (h1 : lo'.getD 0 ≤ hi'.getD es.length) (h2 : hi'.getD es.length ≤ mx'.getD es.length) (h3 : mx'.getD es.length ≤ es.length) (hlen : ∀ x ∈ es, x.length = s) :
    OpT Γ P o tm h ⟨.leaf (cutL l (lo'.getD 0).toNat (hi'.getD es.length).toNat), idsL l, []⟩ :=
  OpT.of_pure fun tm' h' μ a w g1 g2 I F => by
    have r := F.at' g1 (x := x) (by simp [ho, Op.operands])
    rw [hx] at r
    have hr' : rowsOf h' l = some es := by rw [rowsOf_congr g2]; exact hr
    obtain ⟨A, c, s', hu, R⟩ := rows_spec I (l := l) r hr'
    rw [hu] at r
    have hcap := R.cap
    have hel : P.elem t = e := by unfold Program.elem; rw [elemB_spec ht]
    have hund : P.underlying t = some (.slice (P.elem t)) := by rw [hel]; exact elemB_spec ht
    have hsz : ∀ w, (sizeOf (P.elem t)).run P w = .ok s w := fun w => by rw [hel]; exact run_sizeB hs w
    have mem : ∀ y, (lo = some y ∨ hi = some y ∨ mx = some y) → y ∈ o.op.operands := fun y hy => by
      rw [ho]; rcases hy with h | h | h <;> subst h <;> simp [Op.operands]
    have b1 := bnd_spec (a := a) hlo (fun y hy => g1 y (mem y (.inl hy))) F
    have b2 := bnd_spec (a := a) hhi (fun y hy => g1 y (mem y (.inr (.inl hy)))) F
    have b3 := bnd_spec (a := a) hmx (fun y hy => g1 y (mem y (.inr (.inr hy)))) F
    have key : ∀ (m : Nat), (Instr.slice t (.slice A es.length c) (lo.map a.eval) (hi.map a.eval) (mx.map a.eval)).run P w = .ok (sliced A (lo'.getD 0).toNat (hi'.getD es.length).toNat m s) w → (hi'.getD es.length).toNat ≤ m →
        ∃ v, (execOp a.eval o).run P w = .ok (.value v) w ∧ RT Γ h' μ w (.leaf (cutL l (lo'.getD 0).toNat (hi'.getD es.length).toNat)) v := by
      intro m hrun hm
      have hrun' := run_sliceAt_slice (P := P) (w := w) t (.slice A es.length c) (lo.map a.eval) (hi.map a.eval) (mx.map a.eval) hund
      refine ⟨_, by simp [execOp, ho, hu, hrun', hrun]; rfl, ?_⟩
      refine cut_spec I r hr' R (by omega) (by omega) (by omega) s (.inl hlen) fun hlt => ?_
      rw [if_neg (by omega)]
    rcases b1 with ⟨rfl, rfl⟩ | ⟨y1, k1, n1, rfl, rfl, v1⟩ <;> rcases b2 with ⟨rfl, rfl⟩ | ⟨y2, k2, n2, rfl, rfl, v2⟩ <;> rcases b3 with ⟨rfl, rfl⟩ | ⟨y3, k3, n3, rfl, rfl, v3⟩ <;> simp only [Option.getD_none, Option.getD_some] at * <;>
      first | (simp at hmh; done) | skip
    · exact key c (by simp [run_slice_all w t A es.length c hund, hsz]) (by omega)
    · exact key c (by simp [v2, run_slice_h w t A es.length c hund k2 n2 (by omega) (by omega), hsz]) (by omega)
    · exact key n3.toNat (by simp [v2, v3, run_slice_hm w t A es.length c hund k2 k3 n2 n3 (by omega) (by omega) (by omega), hsz]) (by omega)
    · exact key c (by simp [v1, run_slice_l w t A es.length c hund k1 n1 (by omega) (by omega), hsz]) (by omega)
    · exact key c (by simp [v1, v2, run_slice_lh w t A es.length c hund k1 k2 n1 n2 (by omega) (by omega) (by omega), hsz]) (by omega)
    · exact key n3.toNat (by simp [v1, v2, v3, run_slice_lhm w t A es.length c hund k1 k2 k3 n1 n2 n3 (by omega) (by omega) (by omega) (by omega), hsz]) (by omega)
end
end Go.Proofs.Ytfppilpaaoklaaa
