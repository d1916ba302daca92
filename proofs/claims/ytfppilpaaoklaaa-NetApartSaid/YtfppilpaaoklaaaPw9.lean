/- What each kind of operation does to plain values: append, copy. -/
import Derived.Test.YtfppilpaaoklaaaPw8
namespace Go.Proofs.Ytfppilpaaoklaaa
set_option linter.unusedSimpArgs false
set_option linter.unusedVariables false
open Go Go.RowKit
variable {Γ : Ctx}

/-- What is appended to: nothing, or a row of the call's own. -/
inductive Onto (h : Heap) (e : TypeId) (s : Nat) : L → List (List L) → List (Nat × Option AB) → Prop
  | nil (v : Value) : isNilSl v = true → Onto h e s (.sc v) [] []
  | own (id : Nat) (ab : AB) : h id = some (some ab) → ab.t = e → ab.s = s → Onto h e s (.own id s ab.es.length) ab.es [(id, none)]

section
variable {P : Program} {o : Oper} {tm : List T} {h : Heap}

theorem runs_append {t e : TypeId} {zv : Value} {m : Nat} {i : TypeInfo} {w : World} {ty : TypeId} (hund : P.underlying t = some (.slice e)) (hinf : P.info? e = some i) (hzero : i.zero = some zv)
    (A : Option Addr) (olds : List Value) (n c : Nat) (ho : olds.length = n * i.size) (hold : ∀ (k : Nat) (v : Value), olds[k]? = some v → ∃ p, A = some p ∧ w.cell? (p.add k) = some v) (hc : c < n + m) (hA : A = none → c = 0)
    (B : Option Addr) (c1 : Nat) (news : List Value) (hn : news.length = m * i.size) (hnew : ∀ (k : Nat) (v : Value), news[k]? = some v → ∃ p, B = some p ∧ w.cell? (p.add k) = some v) (hpos : 0 < i.size) (hm : 0 < m)
    (h63 : n + m ≤ 140737488355328) (hb : (n + m) * i.bytes ≤ 140737488355328) :
    (Builtin.append_ #[t, t] ty #[.slice A n c, .slice B m c1]).run P w = .ok (.slice (some ⟨w.heap.size, 0, none⟩) (n + m) (grownCap w (n + m) c e))
      (w.drew.alloc (.cells (olds.toArray ++ news.toArray ++ Builtin.zeroCells zv.cells (grownCap w (n + m) c e - (n + m))) e)) := by
  have hne : 0 < news.length := by rw [hn]; exact Nat.mul_pos hm hpos
  obtain ⟨b, hB, _⟩ := hnew 0 news[0] (List.getElem?_eq_getElem hne)
  subst hB
  have hnews : ∀ j v, news[j]? = some v → w.cell? (b.add j) = some v := fun j v hj => by
    obtain ⟨p, hp, hc⟩ := hnew j v hj
    cases hp; exact hc
  rcases A with _ | p
  · obtain rfl := hA rfl
    have hn0 : n = 0 := by
      rcases Nat.eq_zero_or_pos n with h | h
      · exact h
      · have h0 : 0 < olds.length := by rw [ho]; exact Nat.mul_pos h hpos
        obtain ⟨p, hp, _⟩ := hold 0 olds[0] (List.getElem?_eq_getElem h0)
        cases hp
    subst hn0
    have h0 : olds = [] := List.eq_nil_of_length_eq_zero (by simpa using ho)
    subst h0
    have := run_append_nil (P := P) w t ty e i zv hund hinf hzero b m c1 news hn hnews hm (by omega) (by rw [Nat.zero_add] at hb; omega)
    simpa using this
  · have holds : ∀ j v, olds[j]? = some v → w.cell? (p.add j) = some v := fun j v hj => by
      obtain ⟨q, hq, hc⟩ := hold j v hj
      cases hq; exact hc
    exact run_append_grow (P := P) w t ty e i zv hund hinf hzero p n c olds ho holds b m c1 news hn hnews hc (by omega) (growslice_fits hc hb)

theorem op_append {t e : TypeId} {x y : Operand} {l l2 : L} {es news : List (List L)} {ws : List (Nat × Option AB)} {s bytes : Nat} {z : List Value} {id : Nat} (ho : o.op = .call { callee := .builtin .append, args := #[x, y], argTypes := #[t, t] })
    (ht : eltyB P t = some (e, s, bytes, z)) (hx : evalT tm x = .leaf l) (hy : evalT tm y = .leaf l2) (hon : Onto h e s l es ws) (hr : rowsOf h l2 = some news) (hlen : ∀ r ∈ news, r.length = s) (hi : h id = none)
    (h63 : es.length + news.length ≤ 140737488355328) (hb : (es.length + news.length) * bytes ≤ 140737488355328) :
    OpT Γ P o tm h ⟨.leaf (.own id s (es.length + news.length)), idsL l ++ idsL l2, ws ++ [(id, some ⟨e, s, es ++ news⟩)]⟩ :=
  OpT.of_value fun tm' h' μ a w g1 g2 I F => by
    have hi' : h' id = none := by rw [g2 id (by simp [Eff.ids, Eff.wids])]; exact hi
    have E0 := eltyB_spec ht
    obtain ⟨i, zv, hinf, hzero, hz, hsz, hby⟩ := E0.inf
    have r1 := F.at' g1 (x := x) (by simp [ho, Op.operands, Call.operands])
    rw [hx] at r1
    have r2 := F.at' g1 (x := y) (by simp [ho, Op.operands, Call.operands])
    rw [hy] at r2
    have hr' : rowsOf h' l2 = some news := by rw [rowsOf_congr (fun k hk => g2 k (by simp [Eff.ids, hk]))]; exact hr
    obtain ⟨B, c1, s2, hu2, R2⟩ := rows_spec I (l := l2) r2 hr'
    -- the new cells, s to a row
    obtain ⟨vs, v1, v2, v3, v4⟩ := R2.vals
    have hs2 : news = [] ∨ s2 = s := by
      rcases news with _ | ⟨r, rs⟩
      · exact .inl rfl
      · exact .inr ((R2.len r (by simp)).symm.trans (hlen r (by simp)))
    have hvl : vs.length = news.length * s := by
      rcases hs2 with h | h
      · rw [v1, h]; simp
      · rw [v1, h]
    have hv4 : ∀ (i : Nat) (e : List L) (j : Nat) (x : L), news[i]? = some e → e[j]? = some x → ∃ v, vs[i * s + j]? = some v ∧ RXc Γ h' μ w x v := fun i e j x he hx => by
      rcases hs2 with h | h
      · rw [h] at he; simp at he
      · rw [← h]; exact v4 i e j x he hx
    -- what stands already
    have old : ∃ (A : Option Addr) (c : Nat) (olds : List Value), a.eval x = .slice A es.length c ∧ es.length ≤ c ∧ olds.length = es.length * s ∧ (∀ v ∈ olds, v.oneCell' = true) ∧ (∀ (k : Nat) (v : Value), olds[k]? = some v → ∃ p, A = some p ∧ w.cell? (p.add k) = some v) ∧
        (∀ (i : Nat) (e : List L) (j : Nat) (x : L), es[i]? = some e → e[j]? = some x → ∃ v, olds[i * s + j]? = some v ∧ RXc Γ h' μ w x v) ∧ (∀ e ∈ es, e.length = s) ∧
        ((c = 0 ∧ (ws = [] ∨ ∃ id0 ab, ws = [(id0, none)] ∧ h' id0 = some (some ab))) ∨ ∃ id0 ab g cap cur, ws = [(id0, none)] ∧ h' id0 = some (some ab) ∧ ab.t = e ∧ ab.s = s ∧ ab.es = es ∧ μ id0 = some g ∧ A = some ⟨g, 0, none⟩ ∧ c = cap ∧ w.heap[g]? = some (.cells cur e (0, 0)) ∧ cur.size = cap * s ∧ cap ≤ maxLen) ∧ (A = none → c = 0) := by
      cases hon with
      | nil v hv =>
        obtain rfl := isNilSl_spec hv
        have := RT.sc_inv r1
        exact ⟨none, 0, [], this, by simp, by simp, by simp, by simp, by simp, by simp, .inl ⟨rfl, .inl rfl⟩, fun _ => rfl⟩
      | own id0 ab hab hte hse =>
        have hab' : h' id0 = some (some ab) := by rw [g2 id0 (by simp [Eff.ids, idsL])]; exact hab
        have hro : rowsOf h' (.own id0 s ab.es.length) = some ab.es := by simp [rowsOf, hab']
        obtain ⟨A, c, s', hu, R⟩ := rows_spec I (l := .own id0 s ab.es.length) r1 hro
        obtain ⟨olds, o1, o2, o3, o4⟩ := R.vals
        have hs' : ab.es = [] ∨ s' = s := by
          rcases hrs : ab.es with _ | ⟨r, rs⟩
          · exact .inl rfl
          · refine .inr ?_
            have k1 := R.len r (by rw [hrs]; simp)
            have k2 := I.len id0 ab hab' r (by rw [hrs]; simp)
            rw [hse] at k2; omega
        have hol : olds.length = ab.es.length * s := by
          rcases hs' with h | h
          · rw [o1, h]; simp
          · rw [o1, h]
        refine ⟨A, c, olds, hu, R.cap, hol, o2, o3, fun i e j x he hx => ?_, fun r hr => by rw [← hse]; exact I.len id0 ab hab' r hr, ?_, ?_⟩
        · rcases hs' with h | h
          · rw [h] at he; simp at he
          · rw [← h]; exact o4 i e j x he hx
        · rcases r1 with hd | ⟨ab', k1, _, _, r1⟩
          · rw [hab'] at hd; cases hd
          · rw [hab'] at k1; injection k1 with k1; injection k1 with k1; subst k1
            rcases r1 with ⟨k2, A', hA'⟩ | ⟨g, cap, cur, hg, hu', hw, hcs, hc, hm⟩
            · rw [hu] at hA'; injection hA' with q1 q2 q3
              exact .inl ⟨q3, .inr ⟨id0, ab, rfl, hab'⟩⟩
            · rw [hu] at hu'; injection hu' with q1 q2 q3
              exact .inr ⟨id0, ab, g, cap, cur, rfl, hab', hte, hse, rfl, hg, q1, q3, by rw [← hte]; exact hw, hcs, hm⟩
        · intro hA
          rcases r1 with hd | ⟨ab', k1, _, _, r1⟩
          · rw [hab'] at hd; cases hd
          · rcases r1 with ⟨k2, A', hA'⟩ | ⟨g, cap, cur, hg, hu', hw, hcs, hc, hm⟩
            · rw [hu] at hA'; injection hA'
            · rw [hu] at hu'; injection hu' with q1 q2 q3
              rw [hA] at q1; cases q1
    obtain ⟨A, c, olds, hu, hcap, ol, oo, oc, orr, olen, hwhere, hnone⟩ := old
    have hne : ∀ id0 ab, h' id0 = some (some ab) → id0 ≠ id := fun id0 ab hh e => by rw [e, hi'] at hh; cases hh
    have hall : ∀ r ∈ es ++ news, r.length = s := fun r hr => by
      rcases List.mem_append.1 hr with h | h
      · exact olen r h
      · exact hlen r h
    have exec : ∀ r, (Builtin.append_ #[t, t] o.type #[.slice A es.length c, .slice B news.length c1]).run P w = r → (execOp a.eval o).run P w = r.andThen fun v w => .ok (.value v) w := fun r hr => by
      simp [execOp, ho, resolve, invoke, builtin, hu, hu2, hr]
    -- what is read, both together
    have hget : ∀ (i : Nat) (r : List L) (j : Nat) (x : L), (es ++ news)[i]? = some r → r[j]? = some x → ∃ v, (olds ++ vs)[i * s + j]? = some v ∧ RXc Γ h' μ w x v := by
      intro i r j x hr hx
      have hj : j < s := by rw [← hall r (List.mem_of_getElem? hr)]; exact (List.getElem?_eq_some_iff.1 hx).1
      rcases Nat.lt_or_ge i es.length with h1 | h1
      · rw [List.getElem?_append_left h1] at hr
        obtain ⟨v, hv, hx'⟩ := orr i r j x hr hx
        exact ⟨v, by rw [List.getElem?_append_left (by rw [ol]; exact mul_add_lt h1 hj)]; exact hv, hx'⟩
      · rw [List.getElem?_append_right h1] at hr
        obtain ⟨v, hv, hx'⟩ := hv4 _ r j x hr hx
        have hle := Nat.mul_le_mul_right s h1
        refine ⟨v, ?_, hx'⟩
        rw [List.getElem?_append_right (by rw [ol]; omega), ol]
        rw [Nat.sub_mul] at hv
        rw [show i * s + j - es.length * s = i * s - es.length * s + j by omega]; exact hv
    have hone : ∀ v ∈ olds ++ vs, v.oneCell' = true := fun v hv => by
      rcases List.mem_append.1 hv with h | h
      · exact oo v h
      · exact v2 v h
    -- a block of its own
    have hgrown : c < es.length + news.length → 0 < news.length → ∃ v μ' w', (execOp a.eval o).run P w = .ok (.value v) w' ∧ Evo h' μ w (upd h' (ws ++ [(id, some ⟨e, s, es ++ news⟩)])) μ' w' ∧ Inv Γ (upd h' (ws ++ [(id, some ⟨e, s, es ++ news⟩)])) μ' w' ∧
        RT Γ (upd h' (ws ++ [(id, some ⟨e, s, es ++ news⟩)])) μ' w' (.leaf (.own id s (es.length + news.length))) v := by
      intro hc hm
      have hrun := runs_append (P := P) (m := news.length) (ty := o.type) E0.und hinf hzero A olds es.length c (by rw [hsz]; exact ol) oc hc hnone B c1 vs (by rw [hsz]; exact hvl) v3 (by rw [hsz]; exact E0.pos) hm h63 (by rw [hby]; exact hb)
      have hge := grownCap_ge w (es.length + news.length) c e
      have hcm : grownCap w (es.length + news.length) c e ≤ maxLen := grownCap_le_maxLen w _ c e (by unfold maxLen; omega)
      generalize hcur : olds.toArray ++ vs.toArray ++ Builtin.zeroCells zv.cells (grownCap w (es.length + news.length) c e - (es.length + news.length)) = cur at hrun
      have hcs : cur.size = grownCap w (es.length + news.length) c e * s := by
        rw [← hcur]
        simp only [Array.size_append, List.size_toArray, size_zeroCells, ol, hvl]
        have : zv.cells.size = s := by rw [← E0.zlen, ← hz]; simp
        rw [this, ← Nat.add_mul, ← Nat.add_mul]
        congr 1; omega
      have hcg : ∀ k v, (olds ++ vs)[k]? = some v → cur[k]? = some v := fun k v hk => by
        rw [← hcur]
        have hlt : k < (olds ++ vs).length := (List.getElem?_eq_some_iff.1 hk).1
        rw [Array.getElem?_append_left (by simp at hlt ⊢; exact hlt)]
        simpa using hk
      -- the elder one goes first
      have step : ∃ h1, Evo h' μ w h1 μ w ∧ Inv Γ h1 μ w ∧ h1 id = none ∧ upd h1 [(id, some ⟨e, s, es ++ news⟩)] = upd h' (ws ++ [(id, some ⟨e, s, es ++ news⟩)]) := by
        rcases hwhere with ⟨_, rfl | ⟨id0, ab, rfl, hab⟩⟩ | ⟨id0, ab, g, cap, cur', rfl, hab, _⟩
        · exact ⟨h', Evo.refl _ _ _, I, hi', rfl⟩
        · obtain ⟨E1, I1⟩ := killed I hab
          exact ⟨_, E1, I1, by rw [upd_one, if_neg (Ne.symm (hne id0 ab hab))]; exact hi', upd_two (hne id0 ab hab)⟩
        · obtain ⟨E1, I1⟩ := killed I hab
          exact ⟨_, E1, I1, by rw [upd_one, if_neg (Ne.symm (hne id0 ab hab))]; exact hi', upd_two (hne id0 ab hab)⟩
      obtain ⟨h1, E1, I1, hi1, hup⟩ := step
      have Ed : Evo h1 μ w h1 μ w.drew := ⟨rfl, rfl, rfl, Nat.le_refl _, fun b hb => ⟨rfl, hb.2⟩, fun id ab hi => .inr ⟨ab, hi, rfl, rfl, rfl, rfl, fun g cur _ hg => ⟨cur, hg, rfl⟩⟩, fun id hi => hi⟩
      have I2 : Inv Γ h1 μ w.drew := ⟨I1.len, fun id ab hi => (I1.at_ id ab hi).imp (fun h => h) fun ⟨g, cur, h1, h2, h3, h4⟩ => ⟨g, cur, h1, h2, h3, fun i e j l he hl => by obtain ⟨u, hu, hx⟩ := h4 i e j l he hl; exact ⟨u, hu, hx.evo Ed⟩⟩, I1.inj, I1.base, I1.own⟩
      obtain ⟨E3, I3⟩ := laid I2 hi1 cur e s (es ++ news) hall (by rw [hcs, List.length_append]; exact Nat.mul_le_mul_right _ hge) (fun i r j x hr hx => by
        obtain ⟨v, hv, hx'⟩ := hget i r j x hr hx
        exact ⟨v, hcg _ _ hv, hx'.evo (E1.trans Ed)⟩)
      rw [hup] at E3 I3
      refine ⟨_, _, _, by rw [exec _ hrun]; rfl, (E1.trans Ed).trans E3, I3, ?_⟩
      refine .inr ⟨⟨e, s, es ++ news⟩, by rw [← hup, upd_one, if_pos rfl], rfl, by simp, .inr ⟨w.heap.size, grownCap w (es.length + news.length) c e, cur, by simp, rfl, heap_alloc_new w.drew _, hcs, hge, hcm⟩⟩
    -- nothing is appended
    by_cases hm : news.length = 0
    · have hnil : news = [] := List.eq_nil_of_length_eq_zero hm
      subst hnil
      have hv0 : vs = [] := List.eq_nil_of_length_eq_zero (by rw [hvl]; simp)
      subst hv0
      have hrun : (Builtin.append_ #[t, t] o.type #[.slice A es.length c, .slice B 0 c1]).run P w = .ok (.slice A es.length c) w := by
        cases A <;> cases B <;> simp [Builtin.append_, run_underlying E0.und, sizeOf, typeInfo, hinf, Builtin.lenOf, hcap, Builtin.firstCells, loadCells, loadCellsFrom, storeCells]
      have hex := exec _ hrun
      rcases hwhere with ⟨hc0, hws⟩ | ⟨id0, ab, g, cap, cur, rfl, hab, hte, hse, hes, hg, rfl, rfl, hw, hcs, hcm⟩
      · have hes0 : es = [] := List.eq_nil_of_length_eq_zero (by omega)
        subst hes0
        subst hc0
        rcases hws with rfl | ⟨id0, ab, rfl, hab⟩
        · obtain ⟨E1, I1⟩ := laid_none I hi' e s
          exact ⟨_, _, _, .inl (by rw [hex]; rfl), E1, I1, .inr ⟨⟨e, s, []⟩, by rw [List.nil_append, List.nil_append, upd_one, if_pos rfl], rfl, rfl, .inl ⟨rfl, A, rfl⟩⟩⟩
        · obtain ⟨E1, I1⟩ := killed I hab
          obtain ⟨E2, I2⟩ := laid_none I1 (id := id) (by rw [upd_one, if_neg (Ne.symm (hne id0 ab hab))]; exact hi') e s
          rw [upd_two (hne id0 ab hab)] at E2 I2
          refine ⟨_, _, _, .inl (by rw [hex]; rfl), E1.trans E2, I2, .inr ⟨⟨e, s, []⟩, ?_, rfl, rfl, .inl ⟨rfl, A, rfl⟩⟩⟩
          rw [List.nil_append, List.singleton_append, ← upd_two (hne id0 ab hab), upd_one, if_pos rfl]
      · subst hes hte hse
        have hle : ab.es.length * ab.s ≤ cur.size := by rw [hcs]; exact Nat.mul_le_mul_right _ hcap
        obtain ⟨E1, I1⟩ := taken I hab hi' hg hw (cur' := cur) ab.es hle (I.len id0 ab hab) (fun i r j x hr hx => by
          rcases I.at_ id0 ab hab with ⟨h0, _⟩ | ⟨g', cur', hg', hw', _, hr'⟩
          · rw [h0] at hr; simp at hr
          · rw [hg] at hg'; cases hg'
            rw [hw] at hw'; cases hw'
            exact hr' i r j x hr hx)
        rw [setRow_self w g cur ab.t (0, 0) hw] at E1 I1
        refine ⟨_, _, _, .inl (by rw [hex]; rfl), by rw [List.append_nil]; exact E1, by rw [List.append_nil]; exact I1, ?_⟩
        refine .inr ⟨⟨ab.t, ab.s, ab.es ++ []⟩, ?_, rfl, by simp, .inr ⟨g, c, cur, by simp, rfl, hw, hcs, hcap, hcm⟩⟩
        rw [List.singleton_append, ← upd_two (hne id0 ab hab), upd_one, if_pos rfl]
    · by_cases hc : c < es.length + news.length
      · obtain ⟨v, μ', w', k1, k2, k3, k4⟩ := hgrown hc (by omega)
        exact ⟨v, μ', w', .inl k1, k2, k3, k4⟩
      · rcases hwhere with ⟨hc0, _⟩ | ⟨id0, ab, g, cap, cur, rfl, hab, hte, hse, hes, hg, rfl, rfl, hw, hcs, hcm⟩
        · omega
        · subst hes hte hse
          have hnz : 0 < vs.length := by rw [hvl]; exact Nat.mul_pos (by omega) E0.pos
          obtain ⟨b, hB, _⟩ := v3 0 vs[0] (List.getElem?_eq_getElem hnz)
          subst hB
          have hnews : ∀ j v, vs[j]? = some v → w.cell? (b.add j) = some v := fun j v hj => by
            obtain ⟨p, hp, hc⟩ := v3 j v hj
            cases hp; exact hc
          have hfit : ab.es.length * ab.s + vs.length ≤ cur.size := by rw [hvl, hcs, ← Nat.add_mul]; exact Nat.mul_le_mul_right _ (by omega)
          have hrun := run_append_room (P := P) w t o.type ab.t i E0.und hinf g ab.es.length c cur hw b news.length c1 vs (by rw [hsz]; exact hvl) hnews v2 (by omega) (by rw [hsz]; exact hfit)
          rw [hsz] at hrun
          have hex := exec _ hrun
          obtain ⟨E1, I1⟩ := taken I hab hi' hg hw (cur' := (cur.toList.take (ab.es.length * ab.s) ++ vs ++ cur.toList.drop (ab.es.length * ab.s + vs.length)).toArray) (ab.es ++ news) (by
              simp only [List.size_toArray, List.length_append, List.length_take, List.length_drop, Array.length_toList, Nat.add_mul]
              rw [← hvl]; omega) hall (fun i r j x hr hx => by
            have hb2 : (cur.toList.take (ab.es.length * ab.s)).length = ab.es.length * ab.s := by simp; omega
            rcases Nat.lt_or_ge i ab.es.length with h1 | h1
            · rw [List.getElem?_append_left h1] at hr
              rcases I.at_ id0 ab hab with ⟨h0, _⟩ | ⟨g', cur', hg', hw', _, hr'⟩
              · rw [h0] at hr; simp at hr
              · rw [hg] at hg'; cases hg'
                rw [hw] at hw'; cases hw'
                obtain ⟨u, hu, hx'⟩ := hr' i r j x hr hx
                have hj : j < ab.s := by rw [← I.len id0 ab hab r (List.mem_of_getElem? hr)]; exact (List.getElem?_eq_some_iff.1 hx).1
                have hlt := mul_add_lt h1 hj
                refine ⟨u, ?_, hx'⟩
                rw [List.getElem?_toArray, List.append_assoc, List.getElem?_append_left (by rw [hb2]; exact hlt), List.getElem?_take, if_pos hlt, Array.getElem?_toList]
                exact hu
            · rw [List.getElem?_append_right h1] at hr
              obtain ⟨u, hu, hx'⟩ := hv4 _ r j x hr hx
              have hle := Nat.mul_le_mul_right ab.s h1
              have hlt : (i - ab.es.length) * ab.s + j < vs.length := (List.getElem?_eq_some_iff.1 hu).1
              rw [Nat.sub_mul] at hu hlt
              refine ⟨u, ?_, hx'⟩
              rw [List.getElem?_toArray, List.append_assoc, List.getElem?_append_right (by rw [hb2]; omega), hb2, List.getElem?_append_left (by omega)]
              rw [show i * ab.s + j - ab.es.length * ab.s = i * ab.s - ab.es.length * ab.s + j by omega]; exact hu)
          refine ⟨_, _, _, .inl (by rw [hex]; rfl), E1, I1, ?_⟩
          refine .inr ⟨⟨ab.t, ab.s, ab.es ++ news⟩, ?_, rfl, by simp, .inr ⟨g, c, _, by simp, rfl, setRow_heap w g cur _ ab.t _ hw, ?_, by omega, hcm⟩⟩
          · rw [List.singleton_append, ← upd_two (hne id0 ab hab), upd_one, if_pos rfl]
          · simp only [List.size_toArray, List.length_append, List.length_take, List.length_drop, Array.length_toList]; omega
end
end Go.Proofs.Ytfppilpaaoklaaa
