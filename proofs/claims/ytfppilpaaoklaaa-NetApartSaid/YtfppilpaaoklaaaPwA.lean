/- The walk over plain values: pieces of arrays. -/
import Derived.Test.YtfppilpaaoklaaaPwX
namespace Go.Proofs.Ytfppilpaaoklaaa
set_option linter.unusedSimpArgs false
set_option linter.unusedVariables false
open Go Go.RowKit
theorem flat1_len : ∀ {news : List (List L)}, (∀ r ∈ news, r.length = 1) → news.flatten.length = news.length
  | [], _ => rfl
  | r :: rs, h => by
    simp only [List.flatten_cons, List.length_append, List.length_cons]
    rw [flat1_len (news := rs) (fun r hr => h r (by simp [hr])), h r (by simp)]; omega
theorem flat1_get : ∀ {news : List (List L)} {q : Nat} {x : L}, (∀ r ∈ news, r.length = 1) → news.flatten[q]? = some x → news[q]? = some [x]
  | [], q, x, _, h => by simp at h
  | r :: rs, q, x, h, hx => by
    obtain ⟨z, rfl⟩ : ∃ z, r = [z] := List.length_eq_one_iff.1 (h r (by simp))
    rcases q with _ | q
    · simp at hx; subst hx; rfl
    · simp at hx ⊢
      exact flat1_get (news := rs) (fun r hr => h r (by simp [hr])) (by simpa using hx)
theorem flat1_take : ∀ {news : List (List L)} (k : Nat), (∀ r ∈ news, r.length = 1) → (news.take k).flatten = news.flatten.take k
  | [], k, _ => by simp
  | r :: rs, k, h => by
    obtain ⟨z, rfl⟩ : ∃ z, r = [z] := List.length_eq_one_iff.1 (h r (by simp))
    rcases k with _ | k
    · simp
    · simp only [List.take_succ_cons, List.flatten_cons, List.cons_append, List.nil_append]
      rw [flat1_take (news := rs) k (fun r hr => h r (by simp [hr]))]
section
variable {P : Program} {σ : St} {o : Oper} {K : Eff → Prop}
theorem run_cutArr {t e : TypeId} {n s : Nat} {p : Addr} {w : World} {ev : Operand → Value} {lo hi : Option Operand} {lo' hi' : Option Int} (ht : arrB P t = some (n, e)) (hs : sizeB P e = some s)
    (hlo : (lo = none ∧ lo' = none) ∨ ∃ y k m, lo = some y ∧ lo' = some m ∧ ev y = .int k m) (hhi : (hi = none ∧ hi' = none) ∨ ∃ y k m, hi = some y ∧ hi' = some m ∧ ev y = .int k m)
    (h0 : 0 ≤ lo'.getD 0) (h1 : lo'.getD 0 ≤ hi'.getD n) (h2 : hi'.getD n ≤ n) :
    (Instr.sliceAt t (.pointer (some p)) (lo.map ev) (hi.map ev) none).run P w = .ok (slicedAt p (lo'.getD 0).toNat (hi'.getD n).toNat n s) w := by
  have hund := arrB_spec ht
  have hel : P.elem t = e := by unfold Program.elem; rw [hund]
  have hal : P.arrayLen t = n := by unfold Program.arrayLen; rw [hund]
  have hund' : P.underlying t = some (.array (P.arrayLen t) (P.elem t)) := by rw [hel, hal]; exact hund
  have hsz : (sizeOf (P.elem t)).run P w = .ok s w := by rw [hel]; exact run_sizeB hs w
  rcases hlo with ⟨rfl, rfl⟩ | ⟨y, k, m, rfl, rfl, hy⟩ <;> rcases hhi with ⟨rfl, rfl⟩ | ⟨y2, k2, m2, rfl, rfl, hy2⟩
  · simp only [Option.map_none, Option.getD_none, Int.toNat_zero, Int.toNat_natCast]
    rw [run_sliceAt_array_all w t p hund', hsz, hal]; rfl
  · simp only [Option.map_none, Option.map_some, Option.getD_none, Option.getD_some, Int.toNat_zero, hy2] at *
    rw [run_sliceAt_array_h w t p hund' k2 m2 h1 (by rw [hal]; exact h2), hsz, hal]; rfl
  · simp only [Option.map_none, Option.map_some, Option.getD_none, Option.getD_some, Int.toNat_natCast, hy] at *
    rw [run_sliceAt_array_l w t p hund' k m h0 (by rw [hal]; exact h1), hsz, hal]; rfl
  · simp only [Option.map_some, Option.getD_some, hy, hy2] at *
    rw [run_sliceAt_array_lh w t p hund' k k2 m m2 h0 h1 (by rw [hal]; exact h2), hsz, hal]; rfl
/-- A piece of an array that is the call's own. -/
theorem aSem.cutArr {t e : TypeId} {x : Operand} {lo hi : Option Operand} {lo' hi' : Option Int} {id i j n : Nat} {ab : AB} (ho : o.op = .slice t x lo hi none) (hx : σ.ev x = .leaf (.ptr id i j)) (hab : σ.h id = some (some ab)) (ht : arrB P t = some (n, e)) (hs : sizeB P e = some 1)
    (hlo : bnd σ.tm lo = some lo') (hhi : bnd σ.tm hi = some hi') (hil : i < ab.es.length) (hj : j + n ≤ ab.s) (h0 : 0 ≤ lo'.getD 0) (h1 : lo'.getD 0 ≤ hi'.getD n) (h2 : hi'.getD n ≤ n)
    (hK : K ⟨.leaf (.arow id i (j + (lo'.getD 0).toNat) ((hi'.getD n).toNat - (lo'.getD 0).toNat)), [id], []⟩) : aSem P σ o K :=
  ⟨_, fun Γ => OpT.of_pure fun tm' h' μ a w g1 g2 I F => by
    have r := F.at' g1 (x := x) (by simp [ho, Op.operands])
    rw [show evalT σ.tm x = _ from hx] at r
    have hab' : h' id = some (some ab) := by rw [g2 id (by simp)]; exact hab
    rcases r with hd | ⟨ab2, k1, g, hg, hu⟩
    · rw [hab'] at hd; cases hd
    · rw [hab'] at k1; injection k1 with k1; injection k1 with k1; subst k1
      have b1 := bnd_spec hlo (fun y hy => g1 y (by simp [ho, Op.operands, hy])) F
      have b2 := bnd_spec hhi (fun y hy => g1 y (by simp [ho, Op.operands, hy])) F
      have hrun := run_cutArr (p := ⟨g, i * ab.s + j, none⟩) (w := w) (ev := a.eval) ht hs b1 b2 h0 h1 h2
      refine ⟨_, by simp [execOp, ho, hu, hrun]; rfl, .inr ⟨ab, hab', hil, by omega, _, _, rfl, by omega, fun hpos => ⟨g, hg, ?_⟩⟩⟩
      rw [if_neg (by omega), Addr_add_mid]
      simp
      try omega, wok_nil, hK⟩
/-- .. of one that is read for good. -/
theorem aSem.cutPp {t e : TypeId} {x : Operand} {lo hi : Option Operand} {lo' hi' : Option Int} {n : Nat} {cs : List L} (ho : o.op = .slice t x lo hi none) (hx : σ.ev x = .leaf (.pp cs)) (ht : arrB P t = some (n, e)) (hs : sizeB P e = some 1)
    (hlo : bnd σ.tm lo = some lo') (hhi : bnd σ.tm hi = some hi') (hn : n ≤ cs.length) (h0 : 0 ≤ lo'.getD 0) (h1 : lo'.getD 0 ≤ hi'.getD n) (h2 : hi'.getD n ≤ n)
    (hK : K ⟨.leaf (.sl (((cs.drop (lo'.getD 0).toNat).take ((hi'.getD n).toNat - (lo'.getD 0).toNat)).map fun x => [x])), [], []⟩) : aSem P σ o K :=
  ⟨_, fun Γ => OpT.of_pure fun tm' h' μ a w g1 g2 I F => by
    have r := F.at' g1 (x := x) (by simp [ho, Op.operands])
    rw [show evalT σ.tm x = _ from hx] at r
    have r' : RL (PerG Γ h' μ w) w (.pp cs) (a.eval x) := r
    generalize hv : a.eval x = v at *
    cases r' with
    | pp _ p cells q4 q5 q6 =>
      have b1 := bnd_spec hlo (fun y hy => g1 y (by simp [ho, Op.operands, hy])) F
      have b2 := bnd_spec hhi (fun y hy => g1 y (by simp [ho, Op.operands, hy])) F
      have hrun := run_cutArr (p := p) (w := w) (ev := a.eval) ht hs b1 b2 h0 h1 h2
      generalize (lo'.getD 0).toNat = l at *
      generalize hhh : (hi'.getD n).toNat = h at *
      have hhn : h ≤ n := by omega
      have hget : ∀ (i : Nat) (e' : List L) (j : Nat) (y : L), (((cs.drop l).take (h - l)).map fun x => [x])[i]? = some e' → e'[j]? = some y → j = 0 ∧ cs[l + i]? = some y ∧ i < h - l := fun i e' j y he hy => by
        rw [List.getElem?_map] at he
        cases hc : ((cs.drop l).take (h - l))[i]? with
        | none => simp [hc] at he
        | some z =>
          simp [hc] at he; subst he
          rcases j with _ | j
          · simp at hy; subst hy
            rw [List.getElem?_take] at hc
            split at hc
            · rw [List.getElem?_drop] at hc
              exact ⟨rfl, hc, by assumption⟩
            · cases hc
          · simp at hy
      have hlen : (((cs.drop l).take (h - l)).map fun x => [x]).length = h - l := by simp; omega
      refine ⟨_, by simp [execOp, ho, hv, hrun]; rfl, ?_⟩
      refine RL.rx (RL.sl _ _ _ _ 1 (fun i _ => cells (l + i)) hlen (by omega) (fun e' he' => ?_) (fun i e' j y he hy => ?_) (fun i e' j y he hy => ?_) (fun i e' j y he hy => ?_) (fun h => by cases h))
      · obtain ⟨z, _, rfl⟩ := List.mem_map.1 he'; rfl
      · obtain ⟨rfl, hc, hlt⟩ := hget i e' j y he hy
        refine ⟨_, rfl, ?_, ?_⟩
        · rw [if_neg (by omega), addBlk]; exact (q4 _ _ hc).1
        · rw [if_neg (by omega), Addr_add_add, Nat.mul_one, Nat.mul_one, Nat.add_zero]; exact (q4 _ _ hc).2
      · obtain ⟨rfl, hc, hlt⟩ := hget i e' j y he hy; exact q5 _ _ hc
      · obtain ⟨rfl, hc, hlt⟩ := hget i e' j y he hy; exact q6 _ _ hc, wok_nil, hK⟩
/-- Copied over a piece of an array. -/
theorem aSem.copyArr {t el : TypeId} {x y : Operand} {l2 : L} {id i j n bytes : Nat} {ab : AB} {e : List L} {news : List (List L)} {z : List Value} (ho : o.op = .call { callee := .builtin .copy, args := #[x, y], argTypes := #[t, t] })
    (ht : eltyB P t = some (el, 1, bytes, z)) (hx : σ.ev x = .leaf (.arow id i j n)) (hy : σ.ev y = .leaf l2) (hab : σ.h id = some (some ab)) (he : ab.es[i]? = some e) (hr : rowsOf σ.h l2 = some news) (hlen : ∀ r ∈ news, r.length = 1)
    (hK : K ⟨.leaf (.sc (.int .i64 ((min news.length n : Nat) : Int))), id :: idsL l2, [(id, some ⟨ab.t, ab.s, ab.es.set i (e.take j ++ (news.take (min news.length n)).flatten ++ e.drop (j + min news.length n))⟩)]⟩) : aSem P σ o K := by
  refine ⟨_, fun Γ => OpT.of_value fun tm' h' μ a w g1 g2 I F => ?_, wok_one (Nat.le_of_lt (hOf_lt hab)), hK⟩
  have E0 := eltyB_spec ht
  obtain ⟨inf, zv, hinf, hzero, hz, hsz, hby⟩ := E0.inf
  have r1 := F.at' g1 (x := x) (by simp [ho, Op.operands, Call.operands])
  rw [show evalT σ.tm x = _ from hx] at r1
  have r2 := F.at' g1 (x := y) (by simp [ho, Op.operands, Call.operands])
  rw [show evalT σ.tm y = _ from hy] at r2
  have hr' : rowsOf h' l2 = some news := by rw [rowsOf_congr (fun k hk => g2 k (by simp [Eff.ids, hk]))]; exact hr
  have hab' : h' id = some (some ab) := by rw [g2 id (by simp [Eff.ids])]; exact hab
  obtain ⟨B, c1, s2, hu2, R2⟩ := rows_spec I (l := l2) r2 hr'
  obtain ⟨vs, v1, v2, v3, v4⟩ := R2.vals
  have hs2 : news = [] ∨ s2 = 1 := by
    rcases news with _ | ⟨r, rs⟩
    · exact .inl rfl
    · exact .inr ((R2.len r (by simp)).symm.trans (hlen r (by simp)))
  have hvl : vs.length = news.length := by
    rcases hs2 with h | h
    · rw [v1, h]; simp
    · rw [v1, h]; simp
  have hv4 : ∀ (q : Nat) (x : L), news.flatten[q]? = some x → ∃ v, vs[q]? = some v ∧ RXc Γ h' μ w x v := fun q x hx => by
    have hq : q < news.length := by rw [← flat1_len hlen]; exact (List.getElem?_eq_some_iff.1 hx).1
    have hone := flat1_get hlen hx
    rcases hs2 with h | h
    · rw [h] at hq; simp at hq
    · obtain ⟨v, h1, h2⟩ := v4 q [x] 0 x hone rfl
      rw [h] at h1
      exact ⟨v, by simpa using h1, h2⟩
  rcases r1 with hd | ⟨ab2, k1, hil, hjn, A, c, hu, hc, hA⟩
  · rw [hab'] at hd; cases hd
  rw [hab'] at k1; injection k1 with k1; injection k1 with k1; subst k1
  have hel : e.length = ab.s := I.len id ab hab' e (List.mem_of_getElem? he)
  have hmin : min news.length n ≤ n := Nat.min_le_right _ _
  have hmin2 : min news.length n ≤ news.length := Nat.min_le_left _ _
  generalize hk : min news.length n = k at *
  have hnat : Nat.min news.length n = k := hk
  have hsz1 : ∀ w, (sizeOf el).run P w = .ok 1 w := fun w => by simp [sizeOf, typeInfo, hinf, hsz]
  have hfl : (news.take k).flatten = news.flatten.take k ∧ (news.take k).flatten.length = k := ⟨flat1_take k hlen, by rw [flat1_take k hlen, List.length_take, flat1_len hlen]; omega⟩
  rw [hfl.1]
  have hflk : (news.flatten.take k).length = k := by rw [← hfl.1]; exact hfl.2
  have hrow : (e.take j ++ news.flatten.take k ++ e.drop (j + k)).length = ab.s := by
    simp only [List.length_append, List.length_take, List.length_drop, hflk] at hflk ⊢; omega
  have helen : ∀ r ∈ ab.es.set i (e.take j ++ news.flatten.take k ++ e.drop (j + k)), r.length = ab.s := fun r hr => by
    rcases List.mem_or_eq_of_mem_set hr with hr | rfl
    · exact I.len id ab hab' r hr
    · exact hrow
  by_cases hk0 : k = 0
  · subst hk0
    have hsame : ab.es.set i (e.take j ++ news.flatten.take 0 ++ e.drop (j + 0)) = ab.es := by
      simp only [List.take_zero, List.append_nil, Nat.add_zero, List.take_append_drop]
      exact List.ext_getElem? fun q => by
        rw [List.getElem?_set]
        split
        · rename_i hq; subst hq; first | (rw [if_pos (List.getElem?_eq_some_iff.1 he).1]; exact he.symm) | exact he.symm
        · rfl
    rw [hsame]
    have hupd : upd h' [(id, some ⟨ab.t, ab.s, ab.es⟩)] = h' := by
      funext q
      rw [upd_one]
      split
      · rename_i hq; rw [hq]; exact hab'.symm
      · rfl
    have hrun : (Builtin.copy_ #[t, t] o.type #[.slice A n c, .slice B news.length c1]).run P w = .ok (goInt 0) w := by
      cases A <;> cases B <;> simp [Builtin.copy_, run_underlying E0.und, Builtin.lenOf, hnat, hsz1, Builtin.firstCells, loadCells, loadCellsFrom, storeCells]
    refine ⟨_, μ, w, .inl (by simp [execOp, ho, resolve, invoke, builtin, hu, hu2, hrun]; rfl), ?_⟩
    simp only []
    rw [hupd]
    exact ⟨Evo.refl _ _ _, I, RT.sc _⟩
  · have hkn : 0 < n := by omega
    obtain ⟨g, hg, rfl⟩ := hA hkn
    have hkm : 0 < vs.length := by rw [hvl]; omega
    obtain ⟨b, hB, _⟩ := v3 0 vs[0] (List.getElem?_eq_getElem hkm)
    subst hB
    have hnews : ∀ q v, (vs.take k)[q]? = some v → w.cell? (b.add q) = some v := fun q v hq => by
      rw [List.getElem?_take] at hq
      split at hq
      · obtain ⟨p, hp, hc⟩ := v3 q v hq
        cases hp; exact hc
      · cases hq
    have htl : (vs.take k).length = k := by rw [List.length_take]; omega
    rcases I.at_ id ab hab' with ⟨h0, _⟩ | ⟨g', cur, hg', hw, hcl, _⟩
    · rw [h0] at hil; simp at hil
    rw [hg] at hg'; cases hg'
    have hload := run_loadCells_list (P := P) w b (vs.take k) hnews
    rw [htl] at hload
    have hmul : i * ab.s + ab.s ≤ ab.es.length * ab.s := by
      have := Nat.mul_le_mul_right ab.s (show i + 1 ≤ ab.es.length by omega)
      rwa [Nat.add_mul, Nat.one_mul] at this
    have hfit : (i * ab.s + j) + (vs.take k).length ≤ cur.size := by rw [htl]; omega
    have hst := run_storeCells_at P g (i * ab.s + j) ab.t (vs.take k) 0 cur w hw (by omega) (fun v hv => v2 v (List.mem_of_mem_take hv))
    simp only [Nat.add_zero] at hst
    have hrun : (Builtin.copy_ #[t, t] o.type #[.slice (some ⟨g, i * ab.s + j, none⟩) n c, .slice (some b) news.length c1]).run P w = .ok (goInt k) (w.setRow g (cur.toList.take (i * ab.s + j) ++ vs.take k ++ cur.toList.drop (i * ab.s + j + (vs.take k).length)).toArray) := by
      simp [Builtin.copy_, run_underlying E0.und, Builtin.lenOf, hnat, hsz1, Builtin.firstCells, hload, hst]
    obtain ⟨E1, I1⟩ := written_seg I hab' hg hw (i * ab.s + j) (vs.take k) hfit _ (by simp) helen (fun i2 r j2 y hr hy => by
      have hj2 : j2 < ab.s := by rw [← helen r (List.mem_of_getElem? hr)]; exact (List.getElem?_eq_some_iff.1 hy).1
      rw [htl]
      rw [List.getElem?_set] at hr
      split at hr
      · rename_i hii
        subst hii
        try rw [if_pos hil] at hr
        injection hr with hr; subst hr
        have hjl : (e.take j).length = j := by rw [List.length_take]; omega
        rcases Nat.lt_or_ge j2 j with h1 | h1
        · rw [if_neg (by omega)]
          rw [List.append_assoc, List.getElem?_append_left (by omega), List.getElem?_take, if_pos h1] at hy
          exact ⟨e, he, hy⟩
        · rw [List.append_assoc, List.getElem?_append_right (by omega), hjl] at hy
          rcases Nat.lt_or_ge (j2 - j) k with h2 | h2
          · rw [List.getElem?_append_left (by omega), List.getElem?_take, if_pos h2] at hy
            obtain ⟨u, hu', hx'⟩ := hv4 _ y hy
            rw [if_pos (by omega)]
            refine ⟨u, ?_, hx'⟩
            rw [List.getElem?_take, if_pos (by omega), show i * ab.s + j2 - (i * ab.s + j) = j2 - j by omega]
            exact hu'
          · rw [List.getElem?_append_right (by omega), hflk, List.getElem?_drop] at hy
            rw [if_neg (by omega)]
            exact ⟨e, he, by rw [show j + k + (j2 - j - k) = j2 by omega] at hy; exact hy⟩
      · rename_i hii
        have hfar : ¬ (i * ab.s + j ≤ i2 * ab.s + j2 ∧ i2 * ab.s + j2 < i * ab.s + j + k) := by
          rintro ⟨q1, q2⟩
          rcases Nat.lt_or_gt_of_ne hii with h | h
          · have := Nat.mul_le_mul_right ab.s (show i + 1 ≤ i2 by omega)
            rw [Nat.add_mul, Nat.one_mul] at this; omega
          · have := Nat.mul_le_mul_right ab.s (show i2 + 1 ≤ i by omega)
            rw [Nat.add_mul, Nat.one_mul] at this; omega
        rw [if_neg hfar]
        exact ⟨r, hr, hy⟩)
    exact ⟨_, _, _, .inl (by simp [execOp, ho, resolve, invoke, builtin, hu, hu2, hrun]; rfl), E1, I1, RT.sc _⟩
/-- The bytes of a text that is a constant: from here on they are read for good. -/
theorem aSem.constBytes {t e : TypeId} {x : Operand} {id n : Nat} {ab : AB} (ho : o.op = .convert t t x) (hx : σ.ev x = .leaf (.own id 1 n)) (hab : σ.h id = some (some ab)) (hall : allP ab.es) (ht : elemB P t = some e) (he : P.underlying e = some (.int .u8)) (hn : 0 < n)
    (hK : K ⟨.leaf (.sl ab.es), [], [(id, none)]⟩) : aSem P σ o K := by
  refine ⟨⟨.leaf (.sl ab.es), [], [(id, none)]⟩, fun Γ => OpT.of_value fun tm' h' μ a w g1 g2 I F => ?_, wok_one (Nat.le_of_lt (hOf_lt hab)), hK⟩
  have r := F.at' g1 (x := x) (by simp [ho, Op.operands])
  rw [show evalT σ.tm x = _ from hx] at r
  have hab' : h' id = some (some ab) := by rw [g2 id (by simp [Eff.ids, Eff.wids])]; exact hab
  obtain ⟨E, I'⟩ := killed I hab'
  have fr := frz_RX (Γ := Γ) (l := .own id 1 n) (u := a.eval x) I hab' hall r
  rcases r with hd | ⟨ab2, k1, k2, k3, r⟩
  · rw [hab'] at hd; cases hd
  rw [hab'] at k1; injection k1 with k1; injection k1 with k1; subst k1
  rcases r with ⟨rfl, _⟩ | ⟨g, cap, cur, hg, hu, hw, hcs, hnc, hcm⟩
  · omega
  simp only [frzL, if_true] at fr
  have hgl : g < w.heap.size := (Array.getElem?_eq_some_iff.1 hw).1
  -- the world with the mark
  obtain ⟨w', hw'⟩ : ∃ w', w' = w.freeze ⟨g, cur.size, none⟩ 1 := ⟨_, rfl⟩
  have hnew : w'.heap[g]? = some (.cells cur ab.t (cur.size, cur.size + 1)) := by
    rw [hw']
    unfold World.freeze
    rw [if_neg (by decide)]
    simp only [Array.getElem?_modify]
    rw [if_pos trivial, hw]; rfl
  have hoth : ∀ b, b ≠ g → w'.heap[b]? = w.heap[b]? := fun b hb => by
    rw [hw']
    unfold World.freeze
    rw [if_neg (by decide)]
    simp only [Array.getElem?_modify]
    rw [if_neg (fun h => hb h.symm)]
  have hsz : w'.heap.size = w.heap.size := by
    rw [hw']; unfold World.freeze; rw [if_neg (by decide)]; simp
  have hcell : ∀ p : Addr, w'.cell? p = w.cell? p := fun p => by
    unfold World.cell?
    by_cases hp : p.block = g
    · rw [hp, hnew, hw]
    · rw [hoth _ hp]
  have hos : w'.os = w.os ∧ w'.tape = w.tape ∧ w'.output = w.output := by
    rw [hw']; unfold World.freeze; rw [if_neg (by decide)]; exact ⟨rfl, rfl, rfl⟩
  have hback : ∀ i x, upd h' [(id, none)] i = some (some x) → i ≠ id ∧ h' i = some (some x) := fun i x hh => by
    rw [upd_one] at hh
    split at hh
    · cases hh
    · exact ⟨‹_›, hh⟩
  have hng : ∀ i x, upd h' [(id, none)] i = some (some x) → μ i ≠ some g := fun i x hh hgi => by
    obtain ⟨q1, q2⟩ := hback i x hh
    exact q1 (I.inj i id x ab g q2 hab' hgi hg)
  have hrd : ∀ {l : L} {v : Value}, RL (PerG Γ (upd h' [(id, none)]) μ w) w l v → RL (PerG Γ (upd h' [(id, none)]) μ w') w' l v := fun {l v} q => by
    have hper : ∀ b, PerG Γ (upd h' [(id, none)]) μ w b → PerG Γ (upd h' [(id, none)]) μ w' b := fun b hb => ⟨⟨by rw [hsz]; exact hb.1.1, hb.1.2⟩, hb.2⟩
    induction q with
    | sc v => exact .sc v
    | sl es A n c s cells h1 h2 h3 h4 h5 h6 h7 ih => exact .sl es A n c s cells h1 h2 h3 (fun i e j l he hl => let ⟨p, q1, q2, q3⟩ := h4 i e j l he hl; ⟨p, q1, hper _ q2, by rw [hcell]; exact q3⟩) ih h6 h7
    | pp cs p cells h4 h5 h6 ih => exact .pp cs p cells (fun j l hl => let ⟨q2, q3⟩ := h4 j l hl; ⟨hper _ q2, by rw [hcell]; exact q3⟩) ih h6
    | clo f ls cs h1 h5 ih => exact .clo f ls cs h1 ih
    | mp es r clock h4 =>
      refine .mp es r clock ⟨hper _ h4.1, ?_⟩
      have : r ≠ g := fun e => by have := h4.2; rw [e, hw] at this; cases this
      rw [hoth _ this]; exact h4.2
  have hrx : ∀ {l : L} {v : Value}, RX Γ (upd h' [(id, none)]) μ w l v → RX Γ (upd h' [(id, none)]) μ w' l v := fun {l v} q => by
    cases l with
    | arow _ _ _ _ => exact q
    | row _ _ _ => exact q
    | ptr _ _ _ => exact q
    | clo f ls =>
      obtain ⟨cs, q1, q2, q3⟩ := q
      refine ⟨cs, q1, q2, fun k l hl => ?_⟩
      have := q3 k l hl
      cases l with
      | ptr _ _ _ => exact this
      | _ => exact hrd this
    | own i s m =>
      rcases q with hd | ⟨x, q1, q2, q3, q⟩
      · exact .inl hd
      · refine .inr ⟨x, q1, q2, q3, ?_⟩
        rcases q with q | ⟨g', cap', cur', p1, p2, p3, p4⟩
        · exact .inl q
        · refine .inr ⟨g', cap', cur', p1, p2, ?_, p4⟩
          rw [hoth g' (fun e => hng i x q1 (e ▸ p1))]; exact p3
    | any => trivial
    | bb p => exact q
    | mp es => exact hrd q
    | sc v => exact hrd q
    | sl es => exact hrd q
    | pp cs => exact hrd q
  have E' : Evo h' μ w (upd h' [(id, none)]) μ w' := by
    refine ⟨hos.1.trans E.os, hos.2.1.trans E.tape, hos.2.2.trans E.output, by rw [hsz]; exact E.size, fun b hb => ?_, fun i x hi => ?_, E.dead⟩
    · have hbg : b ≠ g := fun e => hb.2 id ab hab' (e ▸ hg)
      exact ⟨hoth b hbg, (E.per b hb).2⟩
    · rcases E.live i x hi with h | ⟨x', q1, q2, q3, q4, q5, q6⟩
      · exact .inl h
      · refine .inr ⟨x', q1, q2, q3, q4, q5, fun g' c' hg' hw2 => ?_⟩
        rw [hoth g' (fun e => hng i x' q1 (by rw [q5, hg', e]))]
        exact q6 g' c' hg' hw2
  have I'' : Inv Γ (upd h' [(id, none)]) μ w' := by
    refine ⟨I'.len, fun i x hi => ?_, I'.inj, by rw [hsz]; exact I'.base, I'.own⟩
    rcases I'.at_ i x hi with h | ⟨g', c', q1, q2, q3, q4⟩
    · exact .inl h
    · refine .inr ⟨g', c', q1, by rw [hoth g' (fun e => hng i x hi (e ▸ q1))]; exact q2, q3, fun i' e' j' l' he hl => ?_⟩
      obtain ⟨u, hu', hone, hx'⟩ := q4 i' e' j' l' he hl
      exact ⟨u, hu', hone, hrx hx'⟩
  have fr' : RX Γ (upd h' [(id, none)]) μ w' (.sl ab.es) (.slice (some ⟨g, 0, none⟩) n cap) := hrx (by rw [← hu]; exact fr)
  refine ⟨.slice (some ⟨g, 0, none⟩) n cap, μ, w', .inl ?_, E', I'', fr'⟩
  have hsh : w.shape? g = some (ab.t, cur.size) := by unfold World.shape?; rw [hw]
  simp [execOp, ho, hu, convert, run_underlying (elemB_spec ht), run_underlying he, markStringish, hsh, hw']
/-- A closure is made. -/
theorem aSem.mkClo {f : FuncId} {cs : Array Operand} {ls : List L} (ho : o.op = .makeFunc (.func f) #[] cs) (hc : cs.toList.map σ.ev = ls.map .leaf) (hp : ∀ l ∈ ls, (∃ id i j, l = .ptr id i j) ∨ persP l = true) (hK : K ⟨.leaf (.clo f ls), [], []⟩) : aSem P σ o K := by
  refine ⟨⟨.leaf (.clo f ls), [], []⟩, fun Γ => OpT.of_pure (t := .leaf (.clo f ls)) (ids := []) fun tm' h' μ a w g1 g2 I F => ?_, wok_nil, hK⟩
  · have hlen : cs.size = ls.length := by
      have := congrArg List.length hc
      simpa using this
    refine ⟨.func (.func f) #[] (cs.map a.eval), by simp [execOp, ho, Instr.makeFunc], ?_⟩
    show ∃ cs' : Array Value, _
    refine ⟨cs.map a.eval, rfl, by simpa using hlen, fun k l hl => ?_⟩
    have hk : k < cs.size := by rw [hlen]; exact (List.getElem?_eq_some_iff.1 hl).1
    have hx : σ.ev cs[k] = .leaf l := by
      have := congrArg (fun q => q[k]?) hc
      simp only [List.getElem?_map, hl, Option.map_some, Array.getElem?_toList, Array.getElem?_eq_getElem hk] at this
      injection this
    have r := F.at' g1 (x := cs[k]) (by simp [ho, Op.operands])
    rw [show evalT σ.tm cs[k] = _ from hx] at r
    have hv : (cs.map a.eval).getD k undef = a.eval cs[k] := by simp [Array.getD_eq_getD_getElem?, hk]
    rw [hv]
    rcases hp l (List.mem_of_getElem? hl) with ⟨id, i, j, rfl⟩ | hpp
    · exact r
    · cases l <;> first | exact r | cases hpp
theorem part_int {k : IntKind} {e : TypeId} (hagg : ∀ w : World, (isAgg e).run P w = .ok false w) (l : List Int) (i : Nat) (x : Int) (h : l[i]? = some x) (w : World) : (part e (l.map fun x => Value.int k x).toArray i).run P w = .ok (.int k x) w := by
  simp [part, hagg, h]
theorem run_equal_ints {k : IntKind} {e : TypeId} (he : P.underlying e = some (.int k)) (hs : ∀ w : World, (sizeOf e).run P w = .ok 1 w) {t : TypeId} {n : Nat} (ht : P.underlying t = some (.array n e)) (d : Nat) (us vs : List Int) (ha : us.length = n) (hb : vs.length = n) (w : World) (hagg : ∀ w : World, (isAgg e).run P w = .ok false w) :
    (Op.equalIn (d + 2) t (.agg (us.map fun x => Value.int k x).toArray) (.agg (vs.map fun x => Value.int k x).toArray)).run P w = .ok (decide (us = vs)) w := by
  have hpe : ∀ (i : Nat) (x y : Int), us[i]? = some x → vs[i]? = some y → ∀ w : World, (part e (us.map fun x => Value.int k x).toArray (i * 1)).run P w = .ok (.int k x) w ∧ (part e (vs.map fun x => Value.int k x).toArray (i * 1)).run P w = .ok (.int k y) w := fun i x y hx hy w => by
    rw [Nat.mul_one]; exact ⟨part_int hagg us i x hx w, part_int hagg vs i y hy w⟩
  have hee : ∀ (x y : Int) (w : World), (Op.equalIn (d + 1) e (.int k x) (.int k y)).run P w = .ok (x == y) w := fun x y w => run_equalIn_int w d e k k x y he
  rw [Op.equalIn]
  simp only [Sem.run_bind, run_underlying ht, Result.andThen_ok, hs, Std.Legacy.Range.forIn_eq_forIn_range', Std.Legacy.Range.size, Nat.sub_zero, Nat.add_sub_cancel, Nat.div_one]
  have key : ∀ (F : Nat → Option Bool × Unit → Sem (ForInStep (Option Bool × Unit))), (∀ (i : Nat) (x y : Int) (r : Option Bool × Unit), us[i]? = some x → vs[i]? = some y → (F i r).run P w = .ok (if x == y then .yield (none, ()) else .done (some false, ())) w) →
      ∀ (m s : Nat), s + m = n → (forIn (List.range' s m) (none, ()) F).run P w = .ok (if us.drop s = vs.drop s then (none, ()) else (some false, ())) w := by
    intro F hF m
    induction m with
    | zero =>
      intro s hs'
      have h1 : us.drop s = [] := List.drop_of_length_le (by omega)
      have h2 : vs.drop s = [] := List.drop_of_length_le (by omega)
      simp [h1, h2]
    | succ m ih =>
      intro s hs'
      have hx : us[s]? = some us[s] := List.getElem?_eq_getElem (by omega)
      have hy : vs[s]? = some vs[s] := List.getElem?_eq_getElem (by omega)
      have d1 : us.drop s = us[s] :: us.drop (s + 1) := List.drop_eq_getElem_cons (by omega)
      have d2 : vs.drop s = vs[s] :: vs.drop (s + 1) := List.drop_eq_getElem_cons (by omega)
      rw [List.range'_succ, List.forIn_cons, Sem.run_bind, hF s _ _ _ hx hy, d1, d2]
      by_cases hxy : us[s] = vs[s]
      · rw [if_pos (by simpa using hxy)]
        simp only [Result.andThen_ok]
        rw [ih (s + 1) (by omega), hxy]
        clear d1 d2 ih
        generalize List.drop (s + 1) us = du
        generalize List.drop (s + 1) vs = dv
        by_cases h : du = dv <;> simp [h]
      · rw [if_neg (by simpa using hxy)]
        clear d1 d2 ih
        generalize List.drop (s + 1) us = du
        generalize List.drop (s + 1) vs = dv
        generalize us[s] = p at *
        generalize vs[s] = q at *
        simp [hxy]
  rw [key _ (fun i x y r hx hy => by
    obtain ⟨p1, p2⟩ := hpe i x y hx hy w
    rw [Nat.mul_one] at p1 p2
    by_cases hxy : x = y
    · simp [Sem.run_bind, p1, p2, hee, hxy]
    · simp [Sem.run_bind, p1, p2, hee, hxy]) n 0 (by omega)]
  by_cases h : us = vs
  · simp [h]
  · simp [h]
theorem aSem.eqArr {xt yt e : TypeId} {x y : Operand} {k : IntKind} {n : Nat} {us vs : List Int} {b : Bool} {op : BinOp} (ho : o.op = .binOp op xt x y yt) (hx : σ.ev x = .agg (us.map fun n => .sc (.int k n))) (hy : σ.ev y = .agg (vs.map fun n => .sc (.int k n))) (ht : arrB P xt = some (n, e)) (he : P.underlying e = some (.int k)) (hs : sizeB P e = some 1) (hag : isAggB P e = some false)
    (hgd : P.eqGuardType P.depth xt = false) (ha : us.length = n) (hb : vs.length = n) (hop : (op = .eql ∧ b = decide (us = vs)) ∨ (op = .neq ∧ b = !decide (us = vs))) (hK : K ⟨.leaf (.sc (.bool b)), [], []⟩) : aSem P σ o K := by
  refine ⟨⟨.leaf (.sc (.bool b)), [], []⟩, fun Γ => OpT.of_pure (t := .leaf (.sc (.bool b))) (ids := []) fun tm' h' μ a w g1 g2 I F => ?_, wok_nil, hK⟩
  have val : ∀ (z : Operand) (zs : List Int), z ∈ o.op.operands → σ.ev z = .agg (zs.map fun n => .sc (.int k n)) → a.eval z = .agg (zs.map fun x => Value.int k x).toArray := fun z zs hz hev => by
    have r := F.at' g1 (x := z) hz
    rw [show evalT σ.tm z = _ from hev] at r
    obtain ⟨cs, h1, h2, h3⟩ := r
    rw [h1]
    congr 1
    apply Array.ext
    · simpa using h2
    · intro i q1 q2
      have hi : i < zs.length := by simpa using q2
      obtain ⟨v, k1, k2, k3⟩ := h3 i (.sc (.int k zs[i])) (by simp [hi])
      have : v = .int k zs[i] := RT.sc_inv (show RT Γ h' μ w (.leaf (.sc (.int k zs[i]))) v from k3)
      rw [Array.getElem?_eq_getElem q1] at k1
      injection k1 with k1
      rw [k1, this]; simp
  have vx := val x us (by simp [ho, Op.operands]) hx
  have vy := val y vs (by simp [ho, Op.operands]) hy
  have hrun := run_equal_ints he (fun w => run_sizeB hs w) (arrB_spec ht) 9998 us vs ha hb w (fun w => run_isAgg hag w)
  have hguard := run_eqGuard_agg (P := P) w op xt x y (us.map fun x => Value.int k x).toArray (vs.map fun x => Value.int k x).toArray hgd
  refine ⟨.bool b, ?_, RT.sc _⟩
  rcases hop with ⟨rfl, rfl⟩ | ⟨rfl, rfl⟩
  · have hb := run_eql_struct (P := P) w xt (us.map fun x => Value.int k x).toArray (vs.map fun x => Value.int k x).toArray
    rw [hrun] at hb
    simp [execOp, ho, vx, vy, hguard, hb]
  · have hb := run_neq_struct (P := P) w xt (us.map fun x => Value.int k x).toArray (vs.map fun x => Value.int k x).toArray
    rw [hrun] at hb
    simp [execOp, ho, vx, vy, hguard, hb]
end
end Go.Proofs.Ytfppilpaaoklaaa
