/- What each kind of operation does to plain values: copy, a string out of bytes, calls of a Go function. -/
import Derived.Test.YtfppilpaaoklaaaPw9
import Derived.WalkSpells
namespace Go.Proofs.Ytfppilpaaoklaaa
set_option linter.unusedSimpArgs false
set_option linter.unusedVariables false
open Go Go.RowKit
variable {Γ : Ctx}

/-- Where a row that can be written begins, and how long it is. -/
def spanOf (h : Heap) : L → Option (Nat × AB × Nat × Nat)
  | .own id _ n => match h id with | some (some ab) => some (id, ab, 0, n) | _ => none
  | .row id lo n => match h id with | some (some ab) => some (id, ab, lo, n) | _ => none
  | _ => none

section
variable {P : Program} {o : Oper} {tm : List T} {h : Heap}

theorem op_copy {t e : TypeId} {x y : Operand} {l l2 : L} {id lo n s bytes : Nat} {ab : AB} {news : List (List L)} {z : List Value} (ho : o.op = .call { callee := .builtin .copy, args := #[x, y], argTypes := #[t, t] })
    (ht : eltyB P t = some (e, s, bytes, z)) (hx : evalT tm x = .leaf l) (hy : evalT tm y = .leaf l2) (hsp : spanOf h l = some (id, ab, lo, n)) (hr : rowsOf h l2 = some news) (hlen : ∀ r ∈ news, r.length = s) (hs : ab.s = s) :
    OpT Γ P o tm h ⟨.leaf (.sc (.int .i64 ((min news.length n : Nat) : Int))), idsL l ++ idsL l2, [(id, some ⟨ab.t, ab.s, ab.es.take lo ++ news.take (min news.length n) ++ ab.es.drop (lo + min news.length n)⟩)]⟩ :=
  OpT.of_value fun tm' h' μ a w g1 g2 I F => by
    have E0 := eltyB_spec ht
    obtain ⟨i, zv, hinf, hzero, hz, hsz, hby⟩ := E0.inf
    have r1 := F.at' g1 (x := x) (by simp [ho, Op.operands, Call.operands])
    rw [hx] at r1
    have r2 := F.at' g1 (x := y) (by simp [ho, Op.operands, Call.operands])
    rw [hy] at r2
    have hr' : rowsOf h' l2 = some news := by rw [rowsOf_congr (fun k hk => g2 k (by simp [Eff.ids, hk]))]; exact hr
    obtain ⟨B, c1, s2, hu2, R2⟩ := rows_spec I (l := l2) r2 hr'
    obtain ⟨vs, v1, v2, v3, v4⟩ := R2.vals
    have hs2 : news = [] ∨ s2 = s := by
      rcases news with _ | ⟨r, rs⟩
      · exact .inl rfl
      · exact .inr ((R2.len r (by simp)).symm.trans (hlen r (by simp)))
    have hvl : vs.length = news.length * s := by
      rcases hs2 with h | h
      · rw [v1, h]; simp
      · rw [v1, h]
    have hv4 : ∀ (i : Nat) (e : List L) (j : Nat) (x : L), news[i]? = some e → e[j]? = some x → ∃ v, vs[i * s + j]? = some v ∧ RXc Γ h' μ w x v := fun i e j x he hx => by
      rcases hs2 with h | h
      · rw [h] at he; simp at he
      · rw [← h]; exact v4 i e j x he hx
    -- where it lies
    have dst : h' id = some (some ab) ∧ ∃ A c, a.eval x = .slice A n c ∧ lo + n ≤ ab.es.length ∧ (0 < n → ∃ g, μ id = some g ∧ A = some ⟨g, lo * ab.s, none⟩) := by
      cases l with
      | own id' s' n' =>
        simp only [spanOf] at hsp
        split at hsp
        · rename_i ab' hab
          injection hsp with hsp
          injection hsp with q1 hsp; injection hsp with q2 hsp; injection hsp with q3 q4
          subst q1 q2 q3 q4
          have hab' : h' id' = some (some ab') := by rw [g2 id' (by simp [Eff.ids, idsL])]; exact hab
          rcases r1 with hd | ⟨ab'', k1, k2, k3, r1⟩
          · rw [hab'] at hd; cases hd
          · rw [hab'] at k1; injection k1 with k1; injection k1 with k1; subst k1
            refine ⟨hab', ?_⟩
            rcases r1 with ⟨rfl, A, hu⟩ | ⟨g, cap, cur, hg, hu, _⟩
            · exact ⟨A, 0, hu, by omega, fun h => by omega⟩
            · exact ⟨_, cap, hu, by omega, fun _ => ⟨g, hg, by simp⟩⟩
        · cases hsp
      | row id' lo' n' =>
        simp only [spanOf] at hsp
        split at hsp
        · rename_i ab' hab
          injection hsp with hsp
          injection hsp with q1 hsp; injection hsp with q2 hsp; injection hsp with q3 q4
          subst q1 q2 q3 q4
          have hab' : h' id' = some (some ab') := by rw [g2 id' (by simp [Eff.ids, idsL])]; exact hab
          rcases r1 with hd | ⟨ab'', k1, k2, A, c, hu, hc, hg⟩
          · rw [hab'] at hd; cases hd
          · rw [hab'] at k1; injection k1 with k1; injection k1 with k1; subst k1
            refine ⟨hab', A, c, hu, k2, fun h0 => ?_⟩
            obtain ⟨g, hg1, hA⟩ := hg h0
            exact ⟨g, hg1, by rw [hA, Addr_add_mid]; simp⟩
        · cases hsp
      | _ => simp [spanOf] at hsp
    obtain ⟨hab, A, c, hu, hle, hA⟩ := dst
    have hmin : min news.length n ≤ n := Nat.min_le_right _ _
    have hmin2 : min news.length n ≤ news.length := Nat.min_le_left _ _
    generalize hk : min news.length n = k at *
    have hnat : Nat.min news.length n = k := hk
    have hsz1 : ∀ w, (sizeOf e).run P w = .ok s w := fun w => by simp [sizeOf, typeInfo, hinf, hsz]
    have helen : ∀ r ∈ ab.es.take lo ++ news.take k ++ ab.es.drop (lo + k), r.length = ab.s := fun r hr => by
      rcases List.mem_append.1 hr with hr | hr
      · rcases List.mem_append.1 hr with hr | hr
        · exact I.len id ab hab r (List.mem_of_mem_take hr)
        · rw [hs]; exact hlen r (List.mem_of_mem_take hr)
      · exact I.len id ab hab r (List.mem_of_mem_drop hr)
    have heslen : (ab.es.take lo ++ news.take k ++ ab.es.drop (lo + k)).length = ab.es.length := by simp; omega
    by_cases hk0 : k = 0
    · subst hk0
      have hsame : ab.es.take lo ++ news.take 0 ++ ab.es.drop (lo + 0) = ab.es := by simp
      rw [hsame]
      have hupd : upd h' [(id, some ⟨ab.t, ab.s, ab.es⟩)] = h' := by
        funext j
        rw [upd_one]
        split
        · rename_i hj; rw [hj]; exact hab.symm
        · rfl
      have hrun : (Builtin.copy_ #[t, t] o.type #[.slice A n c, .slice B news.length c1]).run P w = .ok (goInt 0) w := by
        cases A <;> cases B <;> simp [Builtin.copy_, run_underlying E0.und, Builtin.lenOf, hnat, hsz1, Builtin.firstCells, loadCells, loadCellsFrom, storeCells]
      refine ⟨_, μ, w, .inl (by simp [execOp, ho, resolve, invoke, builtin, hu, hu2, hrun]; rfl), ?_⟩
      simp only []
      rw [hupd]
      exact ⟨Evo.refl _ _ _, I, RT.sc _⟩
    · have hkn : 0 < n := by omega
      obtain ⟨g, hg, rfl⟩ := hA hkn
      have hkm : 0 < vs.length := by rw [hvl]; exact Nat.mul_pos (by omega) E0.pos
      obtain ⟨b, hB, _⟩ := v3 0 vs[0] (List.getElem?_eq_getElem hkm)
      subst hB
      have hnews : ∀ j v, (vs.take (k * s))[j]? = some v → w.cell? (b.add j) = some v := fun j v hj => by
        rw [List.getElem?_take] at hj
        split at hj
        · obtain ⟨p, hp, hc⟩ := v3 j v hj
          cases hp; exact hc
        · cases hj
      have hks : k * s ≤ vs.length := by rw [hvl]; exact Nat.mul_le_mul_right _ hmin2
      have htl : (vs.take (k * s)).length = k * s := by rw [List.length_take]; omega
      rcases I.at_ id ab hab with ⟨h0, _⟩ | ⟨g', cur, hg', hw, hcl, _⟩
      · rw [h0] at hle; simp at hle; omega
      rw [hg] at hg'; cases hg'
      have hload := run_loadCells_list (P := P) w b (vs.take (k * s)) hnews
      rw [htl] at hload
      have hfit : lo * ab.s + (vs.take (k * s)).length ≤ cur.size := by
        rw [htl, hs, ← Nat.add_mul]
        rw [hs] at hcl
        exact Nat.le_trans (Nat.mul_le_mul_right _ (by omega)) hcl
      have hst := run_storeCells_at P g (lo * ab.s) ab.t (vs.take (k * s)) 0 cur w hw (by omega) (fun v hv => v2 v (List.mem_of_mem_take hv))
      simp only [Nat.add_zero] at hst
      have hrun : (Builtin.copy_ #[t, t] o.type #[.slice (some ⟨g, lo * ab.s, none⟩) n c, .slice (some b) news.length c1]).run P w = .ok (goInt k) (w.setRow g (cur.toList.take (lo * ab.s) ++ vs.take (k * s) ++ cur.toList.drop (lo * ab.s + (vs.take (k * s)).length)).toArray) := by
        simp [Builtin.copy_, run_underlying E0.und, Builtin.lenOf, hnat, hsz1, Builtin.firstCells, hload, hst]
      obtain ⟨E1, I1⟩ := written_seg I hab hg hw (lo * ab.s) (vs.take (k * s)) hfit _ heslen helen (fun i r j x hr hx => by
        have hj : j < ab.s := by rw [← helen r (List.mem_of_getElem? hr)]; exact (List.getElem?_eq_some_iff.1 hx).1
        have hb1 : (ab.es.take lo).length = lo := by simp; omega
        have hb2 : (news.take k).length = k := by simp; omega
        rw [htl]
        rcases Nat.lt_or_ge i lo with h1 | h1
        · have := mul_add_lt h1 hj
          rw [if_neg (by omega)]
          rw [List.append_assoc, List.getElem?_append_left (by omega), List.getElem?_take, if_pos h1] at hr
          exact ⟨r, hr, hx⟩
        · rw [List.append_assoc, List.getElem?_append_right (by omega), hb1] at hr
          have hle1 := Nat.mul_le_mul_right ab.s h1
          rcases Nat.lt_or_ge (i - lo) k with h2 | h2
          · rw [List.getElem?_append_left (by omega), List.getElem?_take, if_pos h2] at hr
            obtain ⟨u, hu', hx'⟩ := hv4 _ r j x hr hx
            have h3 := mul_add_lt h2 hj
            rw [hs, Nat.sub_mul] at h3
            rw [hs] at hle1
            rw [hs, if_pos (by omega)]
            refine ⟨u, ?_, hx'⟩
            rw [Nat.sub_mul] at hu'
            rw [List.getElem?_take, if_pos (by omega), show i * s + j - lo * s = i * s - lo * s + j by omega]
            exact hu'
          · rw [List.getElem?_append_right (by omega), hb2, List.getElem?_drop] at hr
            have h3 := Nat.mul_le_mul_right s h2
            rw [Nat.sub_mul] at h3
            rw [hs] at hle1
            rw [hs, if_neg (by omega)]
            exact ⟨r, by rw [show lo + k + (i - lo - k) = i by omega] at hr; exact hr, hx⟩)
      exact ⟨_, _, _, .inl (by simp [execOp, ho, resolve, invoke, builtin, hu, hu2, hrun]; rfl), E1, I1, RT.sc _⟩

/-! ### A string out of bytes -/
def byV (x : UInt8) : Value := .int .u8 (x.toNat : Int)
def bytesE (bs : List UInt8) : List (List L) := bs.map fun x => [.sc (byV x)]
theorem fold_bytes' (bs : List UInt8) : ∀ s : ByteArray, (bs.map fun x => (x.toNat : Int)).foldl (fun r n => r.push (UInt8.ofNat n.toNat)) s = ⟨s.data ++ bs.toArray⟩ := by
  induction bs with
  | nil => intro s; simp
  | cons x l ih =>
    intro s
    rw [List.map_cons, List.foldl_cons, ih]
    have e : UInt8.ofNat ((x.toNat : Int).toNat) = x := by simp
    rw [e]
    simp [ByteArray.push]
theorem op_string {st dt et : TypeId} {x : Operand} {l : L} {bs : List UInt8} (ho : o.op = .convert st dt x) (hs : P.underlying st = some (.slice et)) (he : P.underlying et = some (.int .u8)) (hd : P.underlying dt = some .string) (hx : evalT tm x = .leaf l) (hr : rowsOf h l = some (bytesE bs)) :
    OpT Γ P o tm h ⟨.leaf (.sc (.string ⟨bs.toArray⟩)), idsL l, []⟩ :=
  OpT.of_pure fun tm' h' μ a w h1 h2 I F => by
    have r := F.at' h1 (x := x) (by simp [ho, Op.operands])
    rw [hx] at r
    obtain ⟨A, c, s, hu, R⟩ := rows_spec I (l := l) r (by rw [rowsOf_congr h2]; exact hr)
    refine ⟨_, ?_, RT.sc _⟩
    have hlen : (bytesE bs).length = bs.length := by simp [bytesE]
    rw [hlen] at hu
    have hconv := run_convert_bytes_string (P := P) w st dt et A bs.length c hs he hd
    have hrun : (convert st dt (.slice A bs.length c)).run P w = .ok (.string ⟨bs.toArray⟩) w := by
      rw [hconv]
      rcases A with _ | p
      · have hb : bs = [] := by
          rcases bs with _ | ⟨x, l⟩
          · rfl
          · obtain ⟨q, v, e, _⟩ := R.at_ 0 [.sc (byV x)] 0 (.sc (byV x)) rfl rfl
            cases e
        subst hb
        simp [Conv.bytesToString]; rfl
      · have hcells : (loadCells p bs.length).run P w = .ok ((bs.map fun x => (x.toNat : Int)).map (Value.int .u8)).toArray w := by
          have := run_loadCells_list (P := P) w p (bs.map byV) (fun j v hv => by
            rw [List.getElem?_map] at hv
            obtain ⟨y, hy, rfl⟩ := Option.map_eq_some_iff.1 hv
            have he : (bytesE bs)[j]? = some [.sc (byV y)] := by simp [bytesE, hy]
            obtain ⟨q, v, e, hc, hx⟩ := R.at_ j _ 0 (.sc (byV y)) he rfl
            cases e
            have hs1 : s = 1 := (R.len _ (List.mem_of_getElem? he)).symm
            subst hs1
            have : v = byV y := by cases hx.2; rfl
            subst this
            simpa using hc)
          rw [List.length_map] at this
          rw [this, List.map_map]
          rfl
        rw [run_bytesToString w p bs.length c _ hcells, fold_bytes']
        simp
    simp [execOp, ho, hu, hrun]

/-- Held against nil. -/
theorem op_eqlNil {xt yt et : TypeId} {x y : Operand} {l : L} {v : Value} {es : List (List L)} (ho : o.op = .binOp .eql xt x y yt) (ht : P.underlying xt = some (.slice et)) (hx : evalT tm x = .leaf l) (hy : evalT tm y = .leaf (.sc v)) (hv : isNilSl v = true) (hr : rowsOf h l = some es) :
    OpT Γ P o tm h ⟨.leaf (.bb fun b => b = true → es = []), idsL l, []⟩ :=
  OpT.of_pure fun tm' h' μ a w h1 h2 I F => by
    have r := F.at' h1 (x := x) (by simp [ho, Op.operands])
    rw [hx] at r
    have r2 := F.at' h1 (x := y) (by simp [ho, Op.operands])
    rw [hy] at r2
    have hyv := RT.sc_inv r2
    obtain rfl := isNilSl_spec hv
    obtain ⟨A, c, s, hu, R⟩ := rows_spec I (l := l) r (by rw [rowsOf_congr h2]; exact hr)
    have hrun := Lib.run_eql_slice_nil (P := P) w xt et A es.length c 0 0 ht
    refine ⟨.bool A.isNone, ?_, A.isNone, rfl, fun hA => ?_⟩
    · have hg : (eqGuard .eql xt x y (.slice A es.length c) (.slice none 0 0)).run P w = .ok () w := by unfold eqGuard; rfl
      simp [execOp, ho, hu, hyv, hg, hrun]
    · rcases A with _ | p
      · exact R.nil rfl
      · simp at hA
end
end Go.Proofs.Ytfppilpaaoklaaa
