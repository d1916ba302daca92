/- The walk over plain values: what the kit's own rules say of some operations. -/
import Derived.Test.YtfppilpaaoklaaaPwS
import Derived.Lib.AppendZeros
namespace Go.Proofs.Ytfppilpaaoklaaa
set_option linter.unusedSimpArgs false
set_option linter.unusedVariables false
open Go Go.RowKit
/-- Rows of the call's own under another number, cut short. -/
theorem renamed {Γ : Ctx} {h : Heap} {μ : Pos} {w : World} (I : Inv Γ h μ w) {id N : Nat} {ab : AB} (hi : h id = some (some ab)) (hN : h N = none) (m : Nat) :
    Evo h μ w (upd h [(id, none), (N, some ⟨ab.t, ab.s, ab.es.take m⟩)]) (fun i => if i = N then μ id else μ i) w ∧
    Inv Γ (upd h [(id, none), (N, some ⟨ab.t, ab.s, ab.es.take m⟩)]) (fun i => if i = N then μ id else μ i) w := by
  obtain ⟨E1, I1⟩ := killed I hi
  have hne : id ≠ N := fun e => by rw [e, hN] at hi; cases hi
  have hN1 : upd h [(id, none)] N = none := by rw [upd_one, if_neg (Ne.symm hne)]; exact hN
  have hback : ∀ i a, upd h [(id, none), (N, some ⟨ab.t, ab.s, ab.es.take m⟩)] i = some (some a) → (i = N ∧ a = ⟨ab.t, ab.s, ab.es.take m⟩) ∨ (i ≠ N ∧ i ≠ id ∧ h i = some (some a)) := fun i a hh => by
    rw [← upd_two hne, upd_one] at hh
    split at hh
    · rename_i he; injection hh with hh; injection hh with hh; exact .inl ⟨he, hh.symm⟩
    · rename_i he
      rw [upd_one] at hh
      split at hh
      · cases hh
      · exact .inr ⟨he, ‹_›, hh⟩
  have hnew : upd h [(id, none), (N, some ⟨ab.t, ab.s, ab.es.take m⟩)] N = some (some ⟨ab.t, ab.s, ab.es.take m⟩) := by rw [← upd_two hne, upd_one, if_pos rfl]
  have hold : ∀ i a, h i = some (some a) → i ≠ id → upd h [(id, none), (N, some ⟨ab.t, ab.s, ab.es.take m⟩)] i = some (some a) := fun i a hh h1 => by
    have h2 : i ≠ N := fun e => by rw [e, hN] at hh; cases hh
    rw [← upd_two hne, upd_one, if_neg h2, upd_one, if_neg h1]; exact hh
  have E : Evo h μ w (upd h [(id, none), (N, some ⟨ab.t, ab.s, ab.es.take m⟩)]) (fun i => if i = N then μ id else μ i) w := by
    refine ⟨rfl, rfl, rfl, Nat.le_refl _, fun b hb => ⟨rfl, fun i a hh => ?_⟩, fun i a hh => ?_, fun i hh => ?_⟩
    · rcases hback i a hh with ⟨rfl, rfl⟩ | ⟨h1, h2, h3⟩
      · simp only [if_true]; exact hb.2 id ab hi
      · simp only [h1, if_false]; exact hb.2 i a h3
    · by_cases he : i = id
      · left; rw [he, ← upd_two hne, upd_one, if_neg hne, upd_one, if_pos rfl]
      · have h2 : i ≠ N := fun e => by rw [e, hN] at hh; cases hh
        exact .inr ⟨a, hold i a hh he, rfl, rfl, rfl, by simp [h2], fun g cur _ hg => ⟨cur, hg, rfl⟩⟩
    · rw [← upd_two hne, upd_one]
      have h2 : i ≠ N := fun e => by rw [e, hN] at hh; cases hh
      rw [if_neg h2, upd_one]
      split
      · rfl
      · exact hh
  refine ⟨E, ⟨fun i a hh => ?_, fun i a hh => ?_, fun i j a b g h1 h2 g1 g2 => ?_, I.base, fun i a g hh hg => ?_⟩⟩
  · rcases hback i a hh with ⟨rfl, rfl⟩ | ⟨h1, h2, h3⟩
    · exact fun e he => I.len id ab hi e (List.mem_of_mem_take he)
    · exact I.len i a h3
  · rcases hback i a hh with ⟨rfl, rfl⟩ | ⟨h1, h2, h3⟩
    · simp only [if_true]
      rcases I.at_ id ab hi with ⟨r1, r2⟩ | ⟨g, cur, hg, hw, hl, hr⟩
      · exact .inl ⟨by simp [r1], r2⟩
      · refine .inr ⟨g, cur, hg, hw, Nat.le_trans (Nat.mul_le_mul_right _ (by simp; omega)) hl, fun i e j l he hl' => ?_⟩
        rw [List.getElem?_take] at he
        split at he
        · obtain ⟨u, hu, hx⟩ := hr i e j l he hl'
          exact ⟨u, hu, hx.evo E⟩
        · cases he
    · simp only [h1, if_false]
      exact (I.at_ i a h3).imp (fun h => h) fun ⟨g, cur, q1, q2, q3, q4⟩ => ⟨g, cur, q1, q2, q3, fun i e j l he hl' => by obtain ⟨u, hu, hx⟩ := q4 i e j l he hl'; exact ⟨u, hu, hx.evo E⟩⟩
  · rcases hback i a h1 with ⟨rfl, rfl⟩ | ⟨p1, p2, p3⟩ <;> rcases hback j b h2 with ⟨rfl, rfl⟩ | ⟨q1, q2, q3⟩
    · rfl
    · simp only [if_true] at g1
      simp only [q1, if_false] at g2
      exact (q2 (I.inj j id b ab g q3 hi g2 g1)).elim
    · simp only [if_true] at g2
      simp only [p1, if_false] at g1
      exact (p2 (I.inj i id a ab g p3 hi g1 g2)).elim
    · simp only [p1, if_false] at g1
      simp only [q1, if_false] at g2
      exact I.inj i j a b g p3 q3 g1 g2
  · rcases hback i a hh with ⟨rfl, rfl⟩ | ⟨h1, h2, h3⟩
    · simp only [if_true] at hg; exact I.own id ab g hi hg
    · simp only [h1, if_false] at hg; exact I.own i a g h3 hg
section
variable {P : Program} {σ : St} {o : Oper} {K : Eff → Prop}
theorem aSem.capNil {x : Operand} {t e : TypeId} {v : Value} (ho : o.op = .call { callee := .builtin .cap, args := #[x], argTypes := #[t] }) (hx : σ.ev x = .leaf (.sc v)) (hv : isNilSl v = true) (ht : elemB P t = some e) (hK : K ⟨.leaf (.sc (.int .i64 0)), [], []⟩) : aSem P σ o K :=
  ⟨_, fun Γ => OpT.of_pure fun tm' h' μ a w h1 h2 I F => by
    have r := F.at' h1 (x := x) (by simp [ho, Op.operands, Call.operands])
    rw [show evalT σ.tm x = _ from hx] at r
    have hu := RT.sc_inv r
    obtain rfl := isNilSl_spec hv
    refine ⟨_, ?_, RT.sc _⟩
    simp [execOp, ho, resolve, invoke, builtin, Builtin.cap_, hu, run_underlying (elemB_spec ht), goInt], wok_nil, hK⟩
theorem aSem.cutNil {x y : Operand} {t e : TypeId} {v : Value} {k : IntKind} {s : Nat} (ho : o.op = .slice t x none (some y) none) (hx : σ.ev x = .leaf (.sc v)) (hv : isNilSl v = true) (hy : σ.ev y = .leaf (.sc (.int k 0))) (ht : elemB P t = some e) (hs : sizeB P e = some s) (hK : K ⟨.leaf (.sc (.slice none 0 0)), [], []⟩) : aSem P σ o K :=
  ⟨_, fun Γ => OpT.of_pure fun tm' h' μ a w h1 h2 I F => by
    have r := F.at' h1 (x := x) (by simp [ho, Op.operands])
    rw [show evalT σ.tm x = _ from hx] at r
    have hu := RT.sc_inv r
    have r2 := F.at' h1 (x := y) (by simp [ho, Op.operands])
    rw [show evalT σ.tm y = _ from hy] at r2
    have hu2 := RT.sc_inv r2
    obtain rfl := isNilSl_spec hv
    have hel : P.elem t = e := by unfold Program.elem; rw [elemB_spec ht]
    have hund : P.underlying t = some (.slice (P.elem t)) := by rw [hel]; exact elemB_spec ht
    have hsz : (sizeOf (P.elem t)).run P w = .ok s w := by rw [hel]; exact run_sizeB hs w
    refine ⟨_, ?_, RT.sc _⟩
    have hrun' := run_sliceAt_slice (P := P) (w := w) t (.slice none 0 0) none (some (.int k 0)) none hund
    simp [execOp, ho, hu, hu2, hrun', run_slice_h w t none 0 0 hund k 0 (by omega) (by omega), hsz, sliced], wok_nil, hK⟩
/-- The rows of its own, cut short, are its own still. -/
theorem aSem.shrink {x y : Operand} {t e : TypeId} {k : IntKind} {id s n : Nat} {m : Int} {ab : AB} (ho : o.op = .slice t x none (some y) none) (hx : σ.ev x = .leaf (.own id s n)) (hab : σ.h id = some (some ab)) (hn : n = ab.es.length) (hs' : ab.s = s) (hy : σ.ev y = .leaf (.sc (.int k m))) (h0 : 0 ≤ m) (hm : m.toNat ≤ n) (ht : elemB P t = some e) (hs : sizeB P e = some s)
    (hK : K ⟨.leaf (.own σ.new s m.toNat), [id], [(id, none), (σ.new, some ⟨ab.t, ab.s, ab.es.take m.toNat⟩)]⟩) : aSem P σ o K := by
  have hlt := hOf_lt hab
  refine ⟨_, fun Γ => OpT.of_value fun tm' h' μ a w h1 h2 I F => ?_, wok_cons (by omega) (by simp [St.new]; omega) (by rw [if_pos hlt]; exact wok_one (by simp [St.new])), hK⟩
  have r := F.at' h1 (x := x) (by simp [ho, Op.operands])
  rw [show evalT σ.tm x = _ from hx] at r
  have r2 := F.at' h1 (x := y) (by simp [ho, Op.operands])
  rw [show evalT σ.tm y = _ from hy] at r2
  have hu2 := RT.sc_inv r2
  have hab' : h' id = some (some ab) := by rw [h2 id (by simp [Eff.ids])]; exact hab
  have hN : h' σ.new = none := by rw [h2 σ.new (by simp [Eff.ids, Eff.wids])]; exact hOf_none (Nat.le_refl _)
  have hne : id ≠ σ.new := fun e => by rw [e, hN] at hab'; cases hab'
  obtain ⟨E, I'⟩ := renamed I hab' hN m.toNat
  have hel : P.elem t = e := by unfold Program.elem; rw [elemB_spec ht]
  have hund : P.underlying t = some (.slice (P.elem t)) := by rw [hel]; exact elemB_spec ht
  have hsz : (sizeOf (P.elem t)).run P w = .ok s w := by rw [hel]; exact run_sizeB hs w
  have hnew : upd h' [(id, none), (σ.new, some ⟨ab.t, ab.s, ab.es.take m.toNat⟩)] σ.new = some (some ⟨ab.t, ab.s, ab.es.take m.toNat⟩) := by rw [← upd_two hne, upd_one, if_pos rfl]
  rcases r with hd | ⟨ab2, k1, k2, k3, r⟩
  · rw [hab'] at hd; cases hd
  · rw [hab'] at k1; injection k1 with k1; injection k1 with k1; subst k1
    rcases r with ⟨rfl, A, hu⟩ | ⟨g, cap, cur, hg, hu, hw, hcs, hc, hcm⟩
    · have hm0 : m = 0 := by omega
      subst hm0
      have hrun' := run_sliceAt_slice (P := P) (w := w) t (.slice A 0 0) none (some (.int k 0)) none hund
      refine ⟨.slice A 0 0, _, w, .inl ?_, E, I', ?_⟩
      · simp [execOp, ho, hu, hu2, hrun', run_slice_h w t A 0 0 hund k 0 (by omega) (by omega), hsz, sliced]
      · exact .inr ⟨_, hnew, hs', by simp, .inl ⟨rfl, A, rfl⟩⟩
    · have hrun' := run_sliceAt_slice (P := P) (w := w) t (.slice (some ⟨g, 0, none⟩) n cap) none (some (.int k m)) none hund
      refine ⟨.slice (some ⟨g, 0, none⟩) m.toNat cap, _, w, .inl ?_, E, I', ?_⟩
      · have hz : (⟨g, 0, none⟩ : Addr).add (0 * s) = ⟨g, 0, none⟩ := by simp [Addr.add]
        simp [execOp, ho, hu, hu2, hrun', run_slice_h w t (some ⟨g, 0, none⟩) n cap hund k m (by omega) (by omega), hsz, sliced, Addr.add]
      · refine .inr ⟨_, hnew, hs', by simp; omega, ?_⟩
        exact .inr ⟨g, cap, cur, by simp [hg], rfl, hw, hcs, by omega, hcm⟩
theorem drew_ok {Γ : Ctx} {h : Heap} {μ : Pos} {w : World} (I : Inv Γ h μ w) : Evo h μ w h μ w.drew ∧ Inv Γ h μ w.drew := by
  have Ed : Evo h μ w h μ w.drew := ⟨rfl, rfl, rfl, Nat.le_refl _, fun b hb => ⟨rfl, hb.2⟩, fun id ab hi => .inr ⟨ab, hi, rfl, rfl, rfl, rfl, fun g cur _ hg => ⟨cur, hg, rfl⟩⟩, fun id hi => hi⟩
  exact ⟨Ed, ⟨I.len, fun id ab hi => (I.at_ id ab hi).imp (fun h => h) fun ⟨g, cur, h1, h2, h3, h4⟩ => ⟨g, cur, h1, h2, h3, fun i e j l he hl => by obtain ⟨u, hu, hx⟩ := h4 i e j l he hl; exact ⟨u, hu, hx.evo Ed⟩⟩, I.inj, I.base, I.own⟩⟩
theorem aSem.zeros {x y : Operand} {t tn e : TypeId} {v : Value} {k kn : IntKind} {n : Int} {s bytes : Nat} {z : List Value} (ho : o.op = .call { callee := .builtin .append, args := #[x, y], argTypes := #[t, tn] }) (hx : σ.ev x = .leaf (.sc v)) (hv : isNilSl v = true) (hy : σ.ev y = .leaf (.sc (.int k n)))
    (ht : eltyB P t = some (e, s, bytes, z)) (htn : intKindB P tn = some kn) (h0 : 0 < n) (h63 : n ≤ 140737488355328) (hb : n * bytes ≤ 140737488355328)
    (hK : K ⟨.leaf (.own σ.new s n.toNat), [], [(σ.new, some ⟨e, s, List.replicate n.toNat (List.replicate s .any)⟩)]⟩) : aSem P σ o K := by
  refine ⟨_, fun Γ => OpT.of_value fun tm' h' μ a w h1 h2 I F => ?_, wok_one (Nat.le_refl _), hK⟩
  have r := F.at' h1 (x := x) (by simp [ho, Op.operands, Call.operands])
  rw [show evalT σ.tm x = _ from hx] at r
  have hu := RT.sc_inv r
  have r2 := F.at' h1 (x := y) (by simp [ho, Op.operands, Call.operands])
  rw [show evalT σ.tm y = _ from hy] at r2
  have hu2 := RT.sc_inv r2
  obtain rfl := isNilSl_spec hv
  have hN : h' σ.new = none := by rw [h2 σ.new (by simp [Eff.ids, Eff.wids])]; exact hOf_none (Nat.le_refl _)
  have E0 := eltyB_spec ht
  obtain ⟨i, zv, hinf, hzero, hz, hsz, hby⟩ := E0.inf
  obtain ⟨m, rfl⟩ : ∃ m : Nat, n = (m : Int) := ⟨n.toNat, by omega⟩
  simp only [Int.toNat_natCast] at *
  have hmb : m * bytes ≤ 140737488355328 := by
    have : ((m * bytes : Nat) : Int) ≤ 140737488355328 := by simpa using hb
    omega
  have hrun := Lib.run_append_nil_zeros (P := P) w t tn o.type e i zv k kn E0.und (intKindB_spec htn) hinf hzero m (by omega) (by rw [hsz]; exact E0.pos) (by omega) (by rw [hby]; omega)
  obtain ⟨Ed, I2⟩ := drew_ok I
  have hge := grownCap_ge w m 0 e
  have hcm : grownCap w m 0 e ≤ maxLen := grownCap_le_maxLen w _ 0 e (by unfold maxLen; omega)
  have hzs : zv.cells.size = s := by rw [← E0.zlen, ← hz]; simp
  generalize hcur : Builtin.zeroCells zv.cells m ++ Builtin.zeroCells zv.cells (grownCap w m 0 e - m) = cur at hrun
  have hcs : cur.size = grownCap w m 0 e * s := by
    rw [← hcur]
    simp only [Array.size_append, size_zeroCells, hzs, ← Nat.add_mul]
    congr 1; omega
  have hone : ∀ (q : Nat) (u : Value), cur[q]? = some u → u.oneCell' = true := fun q u hq => by
    have hm : u ∈ cur := Array.mem_of_getElem? hq
    rw [← hcur, Array.mem_append] at hm
    have key : ∀ c, u ∈ Builtin.zeroCells zv.cells c → u.oneCell' = true := fun c hc => by
      simp only [Builtin.zeroCells, Array.mem_map] at hc
      obtain ⟨q, _, rfl⟩ := hc
      have hlt : q % zv.cells.size < zv.cells.size := Nat.mod_lt _ (by rw [hzs]; exact E0.pos)
      refine E0.one _ ?_
      rw [← hz]
      simp [hlt]
    rcases hm with hm | hm
    · exact key _ hm
    · exact key _ hm
  obtain ⟨E3, I3⟩ := laid I2 hN cur e s (List.replicate m (List.replicate s .any)) (fun r hr => by rw [List.eq_of_mem_replicate hr]; simp) (by rw [hcs]; simp; exact Nat.mul_le_mul_right _ hge) (fun q r j l hr hl => by
    have hq : q < m := by have := (List.getElem?_eq_some_iff.1 hr).1; simpa using this
    have hr' : r = List.replicate s .any := List.eq_of_mem_replicate (List.mem_of_getElem? hr)
    subst hr'
    have hj : j < s := by have := (List.getElem?_eq_some_iff.1 hl).1; simpa using this
    have hl' : l = .any := List.eq_of_mem_replicate (List.mem_of_getElem? hl)
    subst hl'
    have hlt : q * s + j < cur.size := by
      rw [hcs]
      have := mul_add_lt hq hj
      have := Nat.mul_le_mul_right s hge
      omega
    exact ⟨cur[q * s + j], Array.getElem?_eq_getElem hlt, hone _ _ (Array.getElem?_eq_getElem hlt), trivial⟩)
  refine ⟨_, _, _, .inl (by simp [execOp, ho, resolve, invoke, builtin, hu, hu2, hrun]; rfl), Ed.trans E3, I3, ?_⟩
  exact .inr ⟨_, by rw [upd_one, if_pos rfl], rfl, by simp, .inr ⟨w.heap.size, grownCap w m 0 e, cur, by simp, rfl, heap_alloc_new w.drew _, hcs, hge, hcm⟩⟩
end
/-! ### Cells that hold a nil slice hold rows without elements -/
def wkEs (es es' : List (List L)) : Prop := es.length = es'.length ∧ ∀ (i : Nat) (e e' : List L), es[i]? = some e → es'[i]? = some e' → wkLs e e'
theorem wkEs_rep {n : Nat} {e e' : List L} (h : wkLs e e') : wkEs (List.replicate n e) (List.replicate n e') := ⟨by simp, fun i x x' hx hx' => by
  obtain rfl := List.eq_of_mem_replicate (List.mem_of_getElem? hx)
  obtain rfl := List.eq_of_mem_replicate (List.mem_of_getElem? hx')
  exact h⟩
theorem AW.wkRowsG {Γ : Ctx} {P : Program} {c : Code} {Q : Exit → St → Prop} {σ : St} (id : Nat) (ab : AB) (es' : List (List L)) (hi : σ.bl[id]? = some (some ab)) (hw : ab.es.length = es'.length ∧ ∀ (i : Nat) (e e' : List L), ab.es[i]? = some e → es'[i]? = some e' → e.length = e'.length ∧ ∀ (j : Nat) (l' : L), e'[j]? = some l' → ∃ l, e[j]? = some l ∧ ∀ (μ : Pos) (w : World) (u : Value), RX Γ σ.h μ w l u → RX Γ σ.h μ w l' u) (h : AW Γ P c Q ⟨σ.tm, σ.bl.set id (some ⟨ab.t, ab.s, es'⟩)⟩) : AW Γ P c Q σ := by
  intro w0 a w ⟨μ, E, I, F, hd⟩
  have hi' : σ.h id = some (some ab) := hi
  have hlt : id < σ.bl.length := (List.getElem?_eq_some_iff.1 hi).1
  have hstep : hOf (σ.bl.set id (some ⟨ab.t, ab.s, es'⟩)) = upd (hOf σ.bl) [(id, some ⟨ab.t, ab.s, es'⟩)] := by
    have := hOf_step (bl := σ.bl) (id := id) (x := some ⟨ab.t, ab.s, es'⟩) (Nat.le_of_lt hlt)
    rwa [if_pos hlt] at this
  have hother : ∀ i a, upd σ.h [(id, some ⟨ab.t, ab.s, es'⟩)] i = some (some a) → (i = id ∧ a = ⟨ab.t, ab.s, es'⟩) ∨ (i ≠ id ∧ σ.h i = some (some a)) := fun i a hh => by
    rw [upd_one] at hh
    split at hh
    · rename_i he; injection hh with hh; injection hh with hh; exact .inl ⟨he, hh.symm⟩
    · exact .inr ⟨‹_›, hh⟩
  have E1 : Evo σ.h μ w (upd σ.h [(id, some ⟨ab.t, ab.s, es'⟩)]) μ w := by
    refine ⟨rfl, rfl, rfl, Nat.le_refl _, fun b hb => ⟨rfl, fun i a hh => ?_⟩, fun i a hh => ?_, fun i hh => ?_⟩
    · rcases hother i a hh with ⟨rfl, _⟩ | ⟨_, h1⟩
      · exact hb.2 _ ab hi'
      · exact hb.2 i a h1
    · by_cases he : i = id
      · subst he
        rw [hi'] at hh; injection hh with hh; injection hh with hh; subst hh
        exact .inr ⟨⟨ab.t, ab.s, es'⟩, by rw [upd_one, if_pos rfl], rfl, rfl, hw.1.symm, rfl, fun g cur _ hg => ⟨cur, hg, rfl⟩⟩
      · exact .inr ⟨a, by rw [upd_one, if_neg he]; exact hh, rfl, rfl, rfl, rfl, fun g cur _ hg => ⟨cur, hg, rfl⟩⟩
    · have he : i ≠ id := fun e => by rw [e, hi'] at hh; cases hh
      rw [upd_one, if_neg he]; exact hh
  have I1 : Inv Γ (upd σ.h [(id, some ⟨ab.t, ab.s, es'⟩)]) μ w := by
    refine ⟨fun i a hh e he => ?_, fun i a hh => ?_, fun i j a b g h1 h2 => ?_, I.base, fun i a g hh => ?_⟩
    · rcases hother i a hh with ⟨rfl, rfl⟩ | ⟨_, h1⟩
      · obtain ⟨k, hk⟩ := List.getElem?_of_mem he
        have hkl : k < ab.es.length := by rw [hw.1]; exact (List.getElem?_eq_some_iff.1 hk).1
        have := (hw.2 k _ e (List.getElem?_eq_getElem hkl) hk).1
        rw [← this]; exact I.len _ ab hi' _ (List.getElem_mem hkl)
      · exact I.len i a h1 e he
    · rcases hother i a hh with ⟨rfl, rfl⟩ | ⟨_, h1⟩
      · rcases I.at_ _ ab hi' with ⟨r1, r2⟩ | ⟨g, cur, hg, hwc, hl, hr⟩
        · refine .inl ⟨?_, r2⟩
          have := hw.1
          rw [r1] at this
          exact List.eq_nil_of_length_eq_zero this.symm
        · refine .inr ⟨g, cur, hg, hwc, by rw [← hw.1]; exact hl, fun k e j l he hl' => ?_⟩
          have hkl : k < ab.es.length := by rw [hw.1]; exact (List.getElem?_eq_some_iff.1 he).1
          obtain ⟨q1, q2⟩ := hw.2 k _ e (List.getElem?_eq_getElem hkl) he
          obtain ⟨l0, hl0, hwl⟩ := q2 j l hl'
          obtain ⟨u, hu, hx⟩ := hr k _ j l0 (List.getElem?_eq_getElem hkl) hl0
          exact ⟨u, hu, hx.1, (hwl μ w u hx.2).evo E1⟩
      · exact (I.at_ i a h1).imp (fun h => h) fun ⟨g, cur, q1, q2, q3, q4⟩ => ⟨g, cur, q1, q2, q3, fun k e j l he hl => by obtain ⟨u, hu, hx⟩ := q4 k e j l he hl; exact ⟨u, hu, hx.evo E1⟩⟩
    · have k : ∀ i a, upd σ.h [(id, some ⟨ab.t, ab.s, es'⟩)] i = some (some a) → ∃ a', σ.h i = some (some a') := fun i a hh => by
        rcases hother i a hh with ⟨rfl, _⟩ | ⟨_, h1⟩
        · exact ⟨ab, hi'⟩
        · exact ⟨a, h1⟩
      obtain ⟨a', ha⟩ := k i a h1
      obtain ⟨b', hb⟩ := k j b h2
      exact I.inj i j a' b' g ha hb
    · rcases hother i a hh with ⟨rfl, rfl⟩ | ⟨_, h1⟩
      · exact I.own _ ab g hi'
      · exact I.own i a g h1
  refine h w0 a w ⟨μ, ?_, ?_, ?_, hd⟩
  · show Ev Γ w0 (hOf (σ.bl.set id (some ⟨ab.t, ab.s, es'⟩))) _ w
    rw [hstep]; exact E.trans E1
  · show Inv Γ (hOf (σ.bl.set id (some ⟨ab.t, ab.s, es'⟩))) _ w
    rw [hstep]; exact I1
  · show FrameR Γ (hOf (σ.bl.set id (some ⟨ab.t, ab.s, es'⟩))) _ w _ _
    rw [hstep]; exact F.evo E1
theorem AW.wkRows {Γ : Ctx} {P : Program} {c : Code} {Q : Exit → St → Prop} {σ : St} (id : Nat) (ab : AB) (es' : List (List L)) (hi : σ.bl[id]? = some (some ab)) (hw : wkEs ab.es es') (h : AW Γ P c Q ⟨σ.tm, σ.bl.set id (some ⟨ab.t, ab.s, es'⟩)⟩) : AW Γ P c Q σ :=
  AW.wkRowsG id ab es' hi ⟨hw.1, fun i e e' he he' => by
    obtain ⟨q1, q2⟩ := wkLs_len (hw.2 i e e' he he')
    refine ⟨q1, fun j l' hl' => ?_⟩
    obtain ⟨l, h1, h2⟩ := q2 j l' hl'
    exact ⟨l, h1, fun μ w u r => RX.wk h2 r⟩⟩ h
/-- A row without elements, that lies nowhere. -/
theorem AW.virtB {Γ : Ctx} {P : Program} {c : Code} {Q : Exit → St → Prop} {σ : St} (t : TypeId) (s : Nat) (h : AW Γ P c Q ⟨σ.tm, σ.bl ++ [some ⟨t, s, []⟩]⟩) : AW Γ P c Q σ := by
  intro w0 a w ⟨μ, E, I, F, hd⟩
  have hi : σ.h σ.bl.length = none := hOf_none (Nat.le_refl _)
  have hstep : hOf (σ.bl ++ [some ⟨t, s, []⟩]) = upd (hOf σ.bl) [(σ.bl.length, some ⟨t, s, []⟩)] := by
    have := hOf_step (bl := σ.bl) (id := σ.bl.length) (x := some ⟨t, s, []⟩) (Nat.le_refl _)
    rwa [if_neg (Nat.lt_irrefl _)] at this
  obtain ⟨E', I'⟩ := virt I hi t s
  refine h w0 a w ⟨fun k => if k = σ.bl.length then none else μ k, ?_, ?_, ?_, hd⟩
  · show Ev Γ w0 (hOf (σ.bl ++ [some ⟨t, s, []⟩])) _ w
    rw [hstep]; exact E.trans E'
  · show Inv Γ (hOf (σ.bl ++ [some ⟨t, s, []⟩])) _ w
    rw [hstep]; exact I'
  · show FrameR Γ (hOf (σ.bl ++ [some ⟨t, s, []⟩])) _ w _ _
    rw [hstep]; exact F.evo E'
/-- A cell that holds a nil slice holds a row of the call's own without elements. -/
theorem AW.nilCell {Γ : Ctx} {P : Program} {c : Code} {Q : Exit → St → Prop} {σ : St} (id i j : Nat) (ab : AB) (e : List L) (v : Value) (t : TypeId) (s : Nat) (hi : σ.bl[id]? = some (some ab)) (he : ab.es[i]? = some e) (hl : e[j]? = some (.sc v)) (hv : isNilSl v = true)
    (h : AW Γ P c Q ⟨σ.tm, (σ.bl ++ [some (⟨t, s, []⟩ : AB)]).set id (some ⟨ab.t, ab.s, ab.es.set i (e.set j (.own σ.bl.length s 0))⟩)⟩) : AW Γ P c Q σ := by
  refine AW.virtB t s (AW.wkRowsG (σ := ⟨σ.tm, σ.bl ++ [some ⟨t, s, []⟩]⟩) id ab (ab.es.set i (e.set j (.own σ.bl.length s 0))) (by show (σ.bl ++ [some ⟨t, s, []⟩])[id]? = _; rw [List.getElem?_append_left (List.getElem?_eq_some_iff.1 hi).1]; exact hi) ⟨by simp, fun k e1 e2 h1 h2 => ?_⟩ h)
  rw [List.getElem?_set] at h2
  split at h2
  · rename_i hk
    subst hk
    split at h2
    · injection h2 with h2
      rw [he] at h1; injection h1 with h1; subst h1 h2
      refine ⟨by simp, fun m l' hl' => ?_⟩
      rw [List.getElem?_set] at hl'
      split at hl'
      · rename_i hm
        subst hm
        split at hl'
        · injection hl' with hl'; subst hl'
          refine ⟨_, hl, fun μ w u r => ?_⟩
          have : u = v := by cases r; rfl
          rw [this, isNilSl_spec hv]
          exact .inr ⟨⟨t, s, []⟩, by simp [hOf], rfl, rfl, .inl ⟨rfl, none, rfl⟩⟩
        · cases hl'
      · exact ⟨l', hl', fun μ w u r => r⟩
    · cases h2
  · rw [h1] at h2; injection h2 with h2; subst h2
    exact ⟨rfl, fun m l' hl' => ⟨l', hl', fun μ w u r => r⟩⟩
end Go.Proofs.Ytfppilpaaoklaaa
