/- An append of zeros onto a row of the call's own. -/
import Derived.Test.YtikeikkcgddmiaaDoorPwX
import Derived.Lib.AppendZerosOnto
namespace Go.Proofs.YtikeikkcgddmiaaDoor
set_option linter.unusedSimpArgs false
set_option linter.unusedVariables false
open Go Go.RowKit
variable {Γ : Ctx}
section
variable {P : Program} {o : Oper} {tm : List T} {h : Heap}
theorem zcells_get {P : Program} {t e : TypeId} {s bytes : Nat} {z : List Value} {zv : Value} (E0 : ElTy P t e s bytes z) (hz : zv.cells.toList = z) (k i j : Nat) (hi : i < k) (hj : j < s) : ∃ v, z[j]? = some v ∧ (Builtin.zeroCells zv.cells k).toList[i * s + j]? = some v ∧ v.oneCell' = true := by
  have hzs : zv.cells.size = s := by rw [← E0.zlen, ← hz]; simp
  have hlt := mul_add_lt hi hj
  have hjz : j < z.length := by rw [E0.zlen]; exact hj
  refine ⟨z[j], List.getElem?_eq_getElem hjz, ?_, E0.one _ (List.getElem_mem hjz)⟩
  have hjc : j < zv.cells.size := by omega
  have hm : (i * s + j) % s = j := by rw [Nat.mul_comm, Nat.mul_add_mod]; exact Nat.mod_eq_of_lt hj
  simp only [Builtin.zeroCells, Array.getElem?_toList, Array.getElem?_map, hzs]
  rw [Array.getElem?_eq_getElem (by simpa using hlt)]
  simp only [Option.map_some, Array.getElem_range, hm, Option.some.injEq]
  rw [getElem!_pos zv.cells j hjc]
  simp only [← hz, Array.getElem_toList]

theorem zcells_one {P : Program} {t e : TypeId} {s bytes : Nat} {z : List Value} {zv : Value} (E0 : ElTy P t e s bytes z) (hz : zv.cells.toList = z) (k : Nat) : ∀ v ∈ (Builtin.zeroCells zv.cells k).toList, v.oneCell' = true := by
  have hzs : zv.cells.size = s := by rw [← E0.zlen, ← hz]; simp
  intro u hc
  simp only [Builtin.zeroCells, Array.toList_map, List.mem_map] at hc
  obtain ⟨q, _, rfl⟩ := hc
  have hlt : q % zv.cells.size < zv.cells.size := Nat.mod_lt _ (by rw [hzs]; exact E0.pos)
  refine E0.one _ ?_
  rw [← hz]
  simp [hlt]

theorem run_append_room_zeros {P : Program} (w : World) (t tn ty e : TypeId) (i : TypeInfo) (z : Value) (kq kn : IntKind) (ht : P.underlying t = some (.slice e)) (htn : P.underlying tn = some (.int kn)) (hi : P.info? e = some i) (hz : i.zero = some z)
    (g sLen sCap : Nat) (cur : Array Value) (hg : w.heap[g]? = some (.cells cur e (0, 0)))
    (k : Nat) (h0 : 0 < k) (hs : 0 < i.size) (h1 : ∀ u ∈ (Builtin.zeroCells z.cells k).toList, u.oneCell' = true) (h63 : k ≤ 140737488355328) (h48 : k * i.bytes ≤ 281474976710656)
    (hroom : sLen + k ≤ sCap) (hfit : sLen * i.size + (Builtin.zeroCells z.cells k).toList.length ≤ cur.size) :
    (Builtin.append_ #[t, tn] ty #[.slice (some ⟨g, 0, none⟩) sLen sCap, .int kq k]).run P w =
      .ok (.slice (some ⟨g, 0, none⟩) (sLen + k) sCap) (w.setRow g (cur.toList.take (sLen * i.size) ++ (Builtin.zeroCells z.cells k).toList ++ cur.toList.drop (sLen * i.size + (Builtin.zeroCells z.cells k).toList.length)).toArray) := by
  have hst := run_storeCells_at P g (sLen * i.size) e (Builtin.zeroCells z.cells k).toList 0 cur w hg (by simpa using hfit) h1
  simp only [Nat.add_zero] at hst
  have hk : k ≠ 0 := by omega
  have hw : IntKind.i64.wrap (k : Int) = k := by rw [IntKind.wrap_i64]; omega
  have hneg : ¬ ((k : Int) < 0) := by omega
  have hns : ¬ (k * i.size = 0) := Nat.mul_ne_zero hk (by omega)
  have h48i : ¬ (281474976710656 < (k : Int) * (i.bytes : Int)) := by
    rw [← Int.natCast_mul]
    omega
  simp only [Array.length_toList] at hst
  simp [Builtin.append_, run_underlying ht, run_underlying htn, sizeOf, typeInfo, zeroValue, hi, hz, asInt, asIntOf, hw, hneg, hns, h48i, hroom, Addr.add_lit, hst]

theorem op_appendZ {t e tn : TypeId} {kq kn : IntKind} {x y : Operand} {l : L} {es : List (List L)} {ws : List (Nat × Option AB)} {s bytes m : Nat} {z : List Value} {id : Nat} (ho : o.op = .call { callee := .builtin .append, args := #[x, y], argTypes := #[t, tn] })
    (ht : eltyB P t = some (e, s, bytes, z)) (htn : intKindB P tn = some kn) (hx : evalT tm x = .leaf l) (hy : evalT tm y = .leaf (.sc (.int kq (m : Int)))) (hon : Onto h e s l es ws) (hi : h id = none)
    (h63 : es.length + m ≤ 140737488355328) (hb : (es.length + m) * bytes ≤ 140737488355328) :
    OpT Γ P o tm h ⟨.leaf (.own id s (es.length + m)), idsL l, ws ++ [(id, some ⟨e, s, es ++ List.replicate m (z.map .sc)⟩)]⟩ :=
  OpT.of_value fun tm' h' μ a w g1 g2 I F => by
    have hi' : h' id = none := by rw [g2 id (by simp [Eff.ids, Eff.wids])]; exact hi
    have E0 := eltyB_spec ht
    obtain ⟨i, zv, hinf, hzero, hz, hsz, hby⟩ := E0.inf
    have r1 := F.at' g1 (x := x) (by simp [ho, Op.operands, Call.operands])
    rw [hx] at r1
    have r2 := F.at' g1 (x := y) (by simp [ho, Op.operands, Call.operands])
    rw [hy] at r2
    have hu2 := RT.sc_inv r2
    have hzl : z.length = s := E0.zlen
    have hnl : (List.replicate m (z.map L.sc)).length = m := by simp
    have hlen : ∀ r ∈ List.replicate m (z.map L.sc), r.length = s := fun r hr => by rw [List.eq_of_mem_replicate hr]; simp [hzl]
    have hzs : zv.cells.size = s := by rw [← hzl, ← hz]; simp
    have hvl : (Builtin.zeroCells zv.cells m).toList.length = m * s := by rw [Array.length_toList, size_zeroCells, hzs]
    have v2 := zcells_one E0 hz m
    have hv4 : ∀ (i : Nat) (e : List L) (j : Nat) (x : L), (List.replicate m (z.map L.sc))[i]? = some e → e[j]? = some x → ∃ v, (Builtin.zeroCells zv.cells m).toList[i * s + j]? = some v ∧ RXc Γ h' μ w x v := fun i e j x he hx => by
      have hi : i < m := by have := (List.getElem?_eq_some_iff.1 he).1; simpa using this
      have he' : e = z.map L.sc := List.eq_of_mem_replicate (List.mem_of_getElem? he)
      subst he'
      have hj : j < s := by have := (List.getElem?_eq_some_iff.1 hx).1; simpa [hzl] using this
      obtain ⟨v, a1, a2, a3⟩ := zcells_get E0 hz m i j hi hj
      rw [List.getElem?_map, a1] at hx
      simp only [Option.map_some, Option.some.injEq] at hx
      subst hx
      exact ⟨v, a2, a3, RL.sc v⟩
    generalize hnews : List.replicate m (z.map L.sc) = news at *
    generalize hvs : (Builtin.zeroCells zv.cells m).toList = vs at *
    subst hnl
    -- what stands already
    have old : ∃ (A : Option Addr) (c : Nat) (olds : List Value), a.eval x = .slice A es.length c ∧ es.length ≤ c ∧ olds.length = es.length * s ∧ (∀ v ∈ olds, v.oneCell' = true) ∧ (∀ (k : Nat) (v : Value), olds[k]? = some v → ∃ p, A = some p ∧ w.cell? (p.add k) = some v) ∧
        (∀ (i : Nat) (e : List L) (j : Nat) (x : L), es[i]? = some e → e[j]? = some x → ∃ v, olds[i * s + j]? = some v ∧ RXc Γ h' μ w x v) ∧ (∀ e ∈ es, e.length = s) ∧
        ((c = 0 ∧ (ws = [] ∨ ∃ id0 ab, ws = [(id0, none)] ∧ h' id0 = some (some ab))) ∨ ∃ id0 ab g cap cur, ws = [(id0, none)] ∧ h' id0 = some (some ab) ∧ ab.t = e ∧ ab.s = s ∧ ab.es = es ∧ μ id0 = some g ∧ A = some ⟨g, 0, none⟩ ∧ c = cap ∧ w.heap[g]? = some (.cells cur e (0, 0)) ∧ cur.size = cap * s ∧ cap ≤ maxLen) ∧ (A = none → c = 0) := by
      cases hon with
      | nil v hv =>
        obtain rfl := isNilSl_spec hv
        have := RT.sc_inv r1
        exact ⟨none, 0, [], this, by simp, by simp, by simp, by simp, by simp, by simp, .inl ⟨rfl, .inl rfl⟩, fun _ => rfl⟩
      | own id0 ab hab hte hse =>
        have hab' : h' id0 = some (some ab) := by rw [g2 id0 (by simp [Eff.ids, idsL])]; exact hab
        have hro : rowsOf h' (.own id0 s ab.es.length) = some ab.es := by simp [rowsOf, hab']
        obtain ⟨A, c, s', hu, R⟩ := rows_spec I (l := .own id0 s ab.es.length) r1 hro
        obtain ⟨olds, o1, o2, o3, o4⟩ := R.vals
        have hs' : ab.es = [] ∨ s' = s := by
          rcases hrs : ab.es with _ | ⟨r, rs⟩
          · exact .inl rfl
          · refine .inr ?_
            have k1 := R.len r (by rw [hrs]; simp)
            have k2 := I.len id0 ab hab' r (by rw [hrs]; simp)
            rw [hse] at k2; omega
        have hol : olds.length = ab.es.length * s := by
          rcases hs' with h | h
          · rw [o1, h]; simp
          · rw [o1, h]
        refine ⟨A, c, olds, hu, R.cap, hol, o2, o3, fun i e j x he hx => ?_, fun r hr => by rw [← hse]; exact I.len id0 ab hab' r hr, ?_, ?_⟩
        · rcases hs' with h | h
          · rw [h] at he; simp at he
          · rw [← h]; exact o4 i e j x he hx
        · rcases r1 with hd | ⟨ab', k1, _, _, r1⟩
          · rw [hab'] at hd; cases hd
          · rw [hab'] at k1; injection k1 with k1; injection k1 with k1; subst k1
            rcases r1 with ⟨k2, A', hA'⟩ | ⟨g, cap, cur, hg, hu', hw, hcs, hc, hm⟩
            · rw [hu] at hA'; injection hA' with q1 q2 q3
              exact .inl ⟨q3, .inr ⟨id0, ab, rfl, hab'⟩⟩
            · rw [hu] at hu'; injection hu' with q1 q2 q3
              exact .inr ⟨id0, ab, g, cap, cur, rfl, hab', hte, hse, rfl, hg, q1, q3, by rw [← hte]; exact hw, hcs, hm⟩
        · intro hA
          rcases r1 with hd | ⟨ab', k1, _, _, r1⟩
          · rw [hab'] at hd; cases hd
          · rcases r1 with ⟨k2, A', hA'⟩ | ⟨g, cap, cur, hg, hu', hw, hcs, hc, hm⟩
            · rw [hu] at hA'; injection hA'
            · rw [hu] at hu'; injection hu' with q1 q2 q3
              rw [hA] at q1; cases q1
    obtain ⟨A, c, olds, hu, hcap, ol, oo, oc, orr, olen, hwhere, hnone⟩ := old
    have hne : ∀ id0 ab, h' id0 = some (some ab) → id0 ≠ id := fun id0 ab hh e => by rw [e, hi'] at hh; cases hh
    have hall : ∀ r ∈ es ++ news, r.length = s := fun r hr => by
      rcases List.mem_append.1 hr with h | h
      · exact olen r h
      · exact hlen r h
    have exec : ∀ r, (Builtin.append_ #[t, tn] o.type #[.slice A es.length c, .int kq (news.length : Int)]).run P w = r → (execOp a.eval o).run P w = r.andThen fun v w => .ok (.value v) w := fun r hr => by
      simp [execOp, ho, resolve, invoke, builtin, hu, hu2, hr]
    -- what is read, both together
    have hget : ∀ (i : Nat) (r : List L) (j : Nat) (x : L), (es ++ news)[i]? = some r → r[j]? = some x → ∃ v, (olds ++ vs)[i * s + j]? = some v ∧ RXc Γ h' μ w x v := by
      intro i r j x hr hx
      have hj : j < s := by rw [← hall r (List.mem_of_getElem? hr)]; exact (List.getElem?_eq_some_iff.1 hx).1
      rcases Nat.lt_or_ge i es.length with h1 | h1
      · rw [List.getElem?_append_left h1] at hr
        obtain ⟨v, hv, hx'⟩ := orr i r j x hr hx
        exact ⟨v, by rw [List.getElem?_append_left (by rw [ol]; exact mul_add_lt h1 hj)]; exact hv, hx'⟩
      · rw [List.getElem?_append_right h1] at hr
        obtain ⟨v, hv, hx'⟩ := hv4 _ r j x hr hx
        have hle := Nat.mul_le_mul_right s h1
        refine ⟨v, ?_, hx'⟩
        rw [List.getElem?_append_right (by rw [ol]; omega), ol]
        rw [Nat.sub_mul] at hv
        rw [show i * s + j - es.length * s = i * s - es.length * s + j by omega]; exact hv
    have hone : ∀ v ∈ olds ++ vs, v.oneCell' = true := fun v hv => by
      rcases List.mem_append.1 hv with h | h
      · exact oo v h
      · exact v2 v h
    -- a block of its own
    have hgrown : c < es.length + news.length → 0 < news.length → ∃ v μ' w', (execOp a.eval o).run P w = .ok (.value v) w' ∧ Evo h' μ w (upd h' (ws ++ [(id, some ⟨e, s, es ++ news⟩)])) μ' w' ∧ Inv Γ (upd h' (ws ++ [(id, some ⟨e, s, es ++ news⟩)])) μ' w' ∧
        RT Γ (upd h' (ws ++ [(id, some ⟨e, s, es ++ news⟩)])) μ' w' (.leaf (.own id s (es.length + news.length))) v := by
      intro hc hm
      have hfc : (Builtin.firstCells i.size es.length (.slice A es.length c)).run P w.drew = .ok olds.toArray w.drew := by
        rcases A with _ | p
        · obtain rfl := hnone rfl
          have he0 : es.length = 0 := by omega
          have h0 : olds = [] := List.eq_nil_of_length_eq_zero (by rw [ol, he0]; simp)
          subst h0
          exact run_firstCells_none (P := P) w.drew i.size es.length es.length 0
        · exact run_firstCells_some (P := P) w.drew i.size es.length p es.length c olds (by rw [hsz]; exact ol) (fun j v hj => by
            obtain ⟨q, hq, hc⟩ := oc j v hj
            cases hq; exact hc)
      have hby2 : news.length * i.bytes ≤ 281474976710656 := by
        rw [hby]
        have := Nat.mul_le_mul_right bytes (Nat.le_add_left news.length es.length)
        omega
      have hrun := Lib.run_append_grow_zeros (P := P) w t tn o.type e i zv kq kn E0.und (intKindB_spec htn) hinf hzero A es.length c olds hfc news.length hm (by rw [hsz]; exact E0.pos) hc (by omega) hby2 (growslice_fits hc (by rw [hby]; exact hb))
      rw [show Builtin.zeroCells zv.cells news.length = vs.toArray by rw [← hvs]] at hrun
      have hge := grownCap_ge w (es.length + news.length) c e
      have hcm : grownCap w (es.length + news.length) c e ≤ maxLen := grownCap_le_maxLen w _ c e (by unfold maxLen; omega)
      generalize hcur : olds.toArray ++ vs.toArray ++ Builtin.zeroCells zv.cells (grownCap w (es.length + news.length) c e - (es.length + news.length)) = cur at hrun
      have hcs : cur.size = grownCap w (es.length + news.length) c e * s := by
        rw [← hcur]
        simp only [Array.size_append, List.size_toArray, size_zeroCells, ol, hvl]
        have : zv.cells.size = s := by rw [← E0.zlen, ← hz]; simp
        rw [this, ← Nat.add_mul, ← Nat.add_mul]
        congr 1; omega
      have hcg : ∀ k v, (olds ++ vs)[k]? = some v → cur[k]? = some v := fun k v hk => by
        rw [← hcur]
        have hlt : k < (olds ++ vs).length := (List.getElem?_eq_some_iff.1 hk).1
        rw [Array.getElem?_append_left (by simp at hlt ⊢; exact hlt)]
        simpa using hk
      -- the elder one goes first
      have step : ∃ h1, Evo h' μ w h1 μ w ∧ Inv Γ h1 μ w ∧ h1 id = none ∧ upd h1 [(id, some ⟨e, s, es ++ news⟩)] = upd h' (ws ++ [(id, some ⟨e, s, es ++ news⟩)]) := by
        rcases hwhere with ⟨_, rfl | ⟨id0, ab, rfl, hab⟩⟩ | ⟨id0, ab, g, cap, cur', rfl, hab, _⟩
        · exact ⟨h', Evo.refl _ _ _, I, hi', rfl⟩
        · obtain ⟨E1, I1⟩ := killed I hab
          exact ⟨_, E1, I1, by rw [upd_one, if_neg (Ne.symm (hne id0 ab hab))]; exact hi', upd_two (hne id0 ab hab)⟩
        · obtain ⟨E1, I1⟩ := killed I hab
          exact ⟨_, E1, I1, by rw [upd_one, if_neg (Ne.symm (hne id0 ab hab))]; exact hi', upd_two (hne id0 ab hab)⟩
      obtain ⟨h1, E1, I1, hi1, hup⟩ := step
      have Ed : Evo h1 μ w h1 μ w.drew := ⟨rfl, rfl, rfl, Nat.le_refl _, fun b hb => ⟨rfl, hb.2⟩, fun id ab hi => .inr ⟨ab, hi, rfl, rfl, rfl, rfl, fun g cur _ hg => ⟨cur, hg, rfl⟩⟩, fun id hi => hi⟩
      have I2 : Inv Γ h1 μ w.drew := ⟨I1.len, fun id ab hi => (I1.at_ id ab hi).imp (fun h => h) fun ⟨g, cur, h1, h2, h3, h4⟩ => ⟨g, cur, h1, h2, h3, fun i e j l he hl => by obtain ⟨u, hu, hx⟩ := h4 i e j l he hl; exact ⟨u, hu, hx.evo Ed⟩⟩, I1.inj, I1.base, I1.own⟩
      obtain ⟨E3, I3⟩ := laid I2 hi1 cur e s (es ++ news) hall (by rw [hcs, List.length_append]; exact Nat.mul_le_mul_right _ hge) (fun i r j x hr hx => by
        obtain ⟨v, hv, hx'⟩ := hget i r j x hr hx
        exact ⟨v, hcg _ _ hv, hx'.evo (E1.trans Ed)⟩)
      rw [hup] at E3 I3
      refine ⟨_, _, _, by rw [exec _ hrun]; rfl, (E1.trans Ed).trans E3, I3, ?_⟩
      refine .inr ⟨⟨e, s, es ++ news⟩, by rw [← hup, upd_one, if_pos rfl], rfl, by simp, .inr ⟨w.heap.size, grownCap w (es.length + news.length) c e, cur, by simp, rfl, heap_alloc_new w.drew _, hcs, hge, hcm⟩⟩
    -- nothing is appended
    by_cases hm : news.length = 0
    · have hnil : news = [] := List.eq_nil_of_length_eq_zero hm
      subst hnil
      have hv0 : vs = [] := List.eq_nil_of_length_eq_zero (by rw [hvl]; simp)
      subst hv0
      have hrun : (Builtin.append_ #[t, tn] o.type #[.slice A es.length c, .int kq ((0 : Nat) : Int)]).run P w = .ok (.slice A es.length c) w := by
        have hw0 : IntKind.i64.wrap 0 = 0 := rfl
        cases A <;> simp [Builtin.append_, run_underlying E0.und, run_underlying (intKindB_spec htn), sizeOf, typeInfo, hinf, asInt, asIntOf, hw0, hcap, storeCells]
      have hex := exec _ hrun
      rcases hwhere with ⟨hc0, hws⟩ | ⟨id0, ab, g, cap, cur, rfl, hab, hte, hse, hes, hg, rfl, rfl, hw, hcs, hcm⟩
      · have hes0 : es = [] := List.eq_nil_of_length_eq_zero (by omega)
        subst hes0
        subst hc0
        rcases hws with rfl | ⟨id0, ab, rfl, hab⟩
        · obtain ⟨E1, I1⟩ := laid_none I hi' e s
          exact ⟨_, _, _, .inl (by rw [hex]; rfl), E1, I1, .inr ⟨⟨e, s, []⟩, by rw [List.nil_append, List.nil_append, upd_one, if_pos rfl], rfl, rfl, .inl ⟨rfl, A, rfl⟩⟩⟩
        · obtain ⟨E1, I1⟩ := killed I hab
          obtain ⟨E2, I2⟩ := laid_none I1 (id := id) (by rw [upd_one, if_neg (Ne.symm (hne id0 ab hab))]; exact hi') e s
          rw [upd_two (hne id0 ab hab)] at E2 I2
          refine ⟨_, _, _, .inl (by rw [hex]; rfl), E1.trans E2, I2, .inr ⟨⟨e, s, []⟩, ?_, rfl, rfl, .inl ⟨rfl, A, rfl⟩⟩⟩
          rw [List.nil_append, List.singleton_append, ← upd_two (hne id0 ab hab), upd_one, if_pos rfl]
      · subst hes hte hse
        have hle : ab.es.length * ab.s ≤ cur.size := by rw [hcs]; exact Nat.mul_le_mul_right _ hcap
        obtain ⟨E1, I1⟩ := taken I hab hi' hg hw (cur' := cur) ab.es hle (I.len id0 ab hab) (fun i r j x hr hx => by
          rcases I.at_ id0 ab hab with ⟨h0, _⟩ | ⟨g', cur', hg', hw', _, hr'⟩
          · rw [h0] at hr; simp at hr
          · rw [hg] at hg'; cases hg'
            rw [hw] at hw'; cases hw'
            exact hr' i r j x hr hx)
        rw [setRow_self w g cur ab.t (0, 0) hw] at E1 I1
        refine ⟨_, _, _, .inl (by rw [hex]; rfl), by rw [List.append_nil]; exact E1, by rw [List.append_nil]; exact I1, ?_⟩
        refine .inr ⟨⟨ab.t, ab.s, ab.es ++ []⟩, ?_, rfl, by simp, .inr ⟨g, c, cur, by simp, rfl, hw, hcs, hcap, hcm⟩⟩
        rw [List.singleton_append, ← upd_two (hne id0 ab hab), upd_one, if_pos rfl]
    · by_cases hc : c < es.length + news.length
      · obtain ⟨v, μ', w', k1, k2, k3, k4⟩ := hgrown hc (by omega)
        exact ⟨v, μ', w', .inl k1, k2, k3, k4⟩
      · rcases hwhere with ⟨hc0, _⟩ | ⟨id0, ab, g, cap, cur, rfl, hab, hte, hse, hes, hg, rfl, rfl, hw, hcs, hcm⟩
        · omega
        · subst hes hte hse
          have hnz : 0 < vs.length := by rw [hvl]; exact Nat.mul_pos (by omega) E0.pos
          have hfit : ab.es.length * ab.s + vs.length ≤ cur.size := by rw [hvl, hcs, ← Nat.add_mul]; exact Nat.mul_le_mul_right _ (by omega)
          have hby2 : news.length * i.bytes ≤ 281474976710656 := by
            rw [hby]
            have := Nat.mul_le_mul_right bytes (Nat.le_add_left news.length ab.es.length)
            omega
          have hrun := run_append_room_zeros (P := P) w t tn o.type ab.t i zv kq kn E0.und (intKindB_spec htn) hinf hzero g ab.es.length c cur hw news.length (by omega) (by rw [hsz]; exact E0.pos) (by rw [hvs]; exact v2) (by omega) hby2 (by omega) (by rw [hsz, hvs]; exact hfit)
          rw [hsz, hvs] at hrun
          have hex := exec _ hrun
          obtain ⟨E1, I1⟩ := taken I hab hi' hg hw (cur' := (cur.toList.take (ab.es.length * ab.s) ++ vs ++ cur.toList.drop (ab.es.length * ab.s + vs.length)).toArray) (ab.es ++ news) (by
              simp only [List.size_toArray, List.length_append, List.length_take, List.length_drop, Array.length_toList, Nat.add_mul]
              rw [← hvl]; omega) hall (fun i r j x hr hx => by
            have hb2 : (cur.toList.take (ab.es.length * ab.s)).length = ab.es.length * ab.s := by simp; omega
            rcases Nat.lt_or_ge i ab.es.length with h1 | h1
            · rw [List.getElem?_append_left h1] at hr
              rcases I.at_ id0 ab hab with ⟨h0, _⟩ | ⟨g', cur', hg', hw', _, hr'⟩
              · rw [h0] at hr; simp at hr
              · rw [hg] at hg'; cases hg'
                rw [hw] at hw'; cases hw'
                obtain ⟨u, hu, hx'⟩ := hr' i r j x hr hx
                have hj : j < ab.s := by rw [← I.len id0 ab hab r (List.mem_of_getElem? hr)]; exact (List.getElem?_eq_some_iff.1 hx).1
                have hlt := mul_add_lt h1 hj
                refine ⟨u, ?_, hx'⟩
                rw [List.getElem?_toArray, List.append_assoc, List.getElem?_append_left (by rw [hb2]; exact hlt), List.getElem?_take, if_pos hlt, Array.getElem?_toList]
                exact hu
            · rw [List.getElem?_append_right h1] at hr
              obtain ⟨u, hu, hx'⟩ := hv4 _ r j x hr hx
              have hle := Nat.mul_le_mul_right ab.s h1
              have hlt : (i - ab.es.length) * ab.s + j < vs.length := (List.getElem?_eq_some_iff.1 hu).1
              rw [Nat.sub_mul] at hu hlt
              refine ⟨u, ?_, hx'⟩
              rw [List.getElem?_toArray, List.append_assoc, List.getElem?_append_right (by rw [hb2]; omega), hb2, List.getElem?_append_left (by omega)]
              rw [show i * ab.s + j - ab.es.length * ab.s = i * ab.s - ab.es.length * ab.s + j by omega]; exact hu)
          refine ⟨_, _, _, .inl (by rw [hex]; rfl), E1, I1, ?_⟩
          refine .inr ⟨⟨ab.t, ab.s, ab.es ++ news⟩, ?_, rfl, by simp, .inr ⟨g, c, _, by simp, rfl, setRow_heap w g cur _ ab.t _ hw, ?_, by omega, hcm⟩⟩
          · rw [List.singleton_append, ← upd_two (hne id0 ab hab), upd_one, if_pos rfl]
          · simp only [List.size_toArray, List.length_append, List.length_take, List.length_drop, Array.length_toList]; omega
end

section
variable {P : Program} {σ : St} {o : Oper} {K : Eff → Prop}
theorem aSem.zerosOnto {x y : Operand} {t tn e : TypeId} {k kn : IntKind} {n : Int} {s bytes id m : Nat} {ab : AB} {z : List Value} (ho : o.op = .call { callee := .builtin .append, args := #[x, y], argTypes := #[t, tn] }) (hx : σ.ev x = .leaf (.own id s m)) (hab : σ.h id = some (some ab)) (hm : m = ab.es.length) (hte : ab.t = e) (hs' : ab.s = s) (hy : σ.ev y = .leaf (.sc (.int k n)))
    (ht : eltyB P t = some (e, s, bytes, z)) (htn : intKindB P tn = some kn) (h0 : 0 ≤ n) (h63 : m + n.toNat ≤ 140737488355328) (hb : (m + n.toNat) * bytes ≤ 140737488355328)
    (hK : K ⟨.leaf (.own σ.new s (m + n.toNat)), [id], [(id, none), (σ.new, some ⟨e, s, ab.es ++ List.replicate n.toNat (z.map .sc)⟩)]⟩) : aSem P σ o K := by
  obtain ⟨q, rfl⟩ : ∃ q : Nat, n = (q : Int) := ⟨n.toNat, by omega⟩
  simp only [Int.toNat_natCast] at *
  subst hm
  refine ⟨_, fun Γ => op_appendZ (ws := [(id, none)]) ho ht htn hx hy (by subst hte; subst hs'; exact .own id ab hab rfl rfl) (hOf_none (Nat.le_refl _)) h63 hb, ?_, hK⟩
  have hlt := hOf_lt hab
  exact wok_cons (by omega) (by simp [St.new]; omega) (by rw [if_pos hlt]; exact wok_one (by simp [St.new]))
end
end Go.Proofs.YtikeikkcgddmiaaDoor
