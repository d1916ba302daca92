/- What each kind of operation does to plain values: rows made, appended to, copied over. -/
import Derived.Test.YtfppilpaaoklaaaPw7
namespace Go.Proofs.Ytfppilpaaoklaaa
set_option linter.unusedSimpArgs false
set_option linter.unusedVariables false
open Go Go.RowKit
variable {Γ : Ctx}

section
variable {P : Program} {o : Oper} {tm : List T} {h : Heap}

theorem madeCells_get {z : List Value} {zv : Value} {s n k : Nat} (hz : zv.cells.toList = z) (hl : z.length = s) (hs : 0 < s) (hk : k < n * s) : (madeCells zv.cells (n * s))[k]? = z[k % s]? := by
  subst hz
  have hsz : zv.cells.size = s := by simpa using hl
  have hm : k % s < zv.cells.size := by rw [hsz]; exact Nat.mod_lt _ hs
  have h2 : k % zv.cells.size < zv.cells.size := by rw [hsz] at hm ⊢; exact hm
  rw [Array.getElem?_toList]
  simp only [madeCells, Array.getElem?_map]
  rw [Array.getElem?_range, if_pos hk, Option.map_some, getElem!_pos zv.cells _ h2, ← Array.getElem?_eq_getElem h2, hsz]
theorem flat_get {z : List Value} {s : Nat} (hl : z.length = s) (hs : 0 < s) : ∀ (n k : Nat), k < n * s → (List.replicate n (z.map L.sc)).flatten[k]? = (z[k % s]?).map .sc
  | 0, k, hk => by simp at hk
  | n + 1, k, hk => by
    rw [List.replicate_succ, List.flatten_cons]
    have hlm : (z.map L.sc).length = s := by simp [hl]
    rcases Nat.lt_or_ge k s with h1 | h1
    · rw [List.getElem?_append_left (by omega), List.getElem?_map, Nat.mod_eq_of_lt h1]
    · rw [List.getElem?_append_right (by omega), hlm, flat_get hl hs n (k - s) (by rw [Nat.add_mul, Nat.one_mul] at hk; omega), (Nat.mod_eq_sub_mod h1)]
theorem flat_len' {z : List Value} {s : Nat} (hl : z.length = s) : ∀ n : Nat, (List.replicate n (z.map L.sc)).flatten.length = n * s
  | 0 => by simp
  | n + 1 => by rw [List.replicate_succ, List.flatten_cons, List.length_append, flat_len' hl n, List.length_map, hl, Nat.add_mul, Nat.one_mul, Nat.add_comm]
def zeroRows (z : List Value) (n : Nat) : List (List L) := List.replicate n (z.map .sc)

theorem op_make {t e : TypeId} {x y : Operand} {kl kc : IntKind} {l c : Int} {s bytes : Nat} {z : List Value} {id : Nat} (ho : o.op = .makeSlice t x y) (ht : eltyB P t = some (e, s, bytes, z)) (hx : evalT tm x = .leaf (.sc (.int kl l))) (hy : evalT tm y = .leaf (.sc (.int kc c)))
    (h0 : 0 ≤ l) (hlc : l ≤ c) (hb : (bytes : Int) * c ≤ 140737488355328) (hm : c ≤ 140737488355328) (hi : h id = none) :
    OpT Γ P o tm h ⟨.leaf (.own id s l.toNat), [], [(id, some ⟨e, s, zeroRows z l.toNat⟩)]⟩ :=
  OpT.of_value fun tm' h' μ a w g1 g2 I F => by
    have hi' : h' id = none := by rw [g2 id (by simp [Eff.ids, Eff.wids])]; exact hi
    have E0 := eltyB_spec ht
    obtain ⟨i, zv, hinf, hzero, hz, hsz, hby⟩ := E0.inf
    have r1 := F.at' g1 (x := x) (by simp [ho, Op.operands])
    rw [hx] at r1
    have r2 := F.at' g1 (x := y) (by simp [ho, Op.operands])
    rw [hy] at r2
    have v1 := RT.sc_inv r1
    have v2 := RT.sc_inv r2
    have hrun := run_make (P := P) w t e i zv E0.und hinf hzero kl kc l c h0 hlc (by rw [hby]; omega) (by omega)
    rw [hsz] at hrun
    have hle : l.toNat * s ≤ c.toNat * s := Nat.mul_le_mul_right _ (by omega)
    obtain ⟨E, I'⟩ := laid I hi' (madeCells zv.cells (c.toNat * s)) e s (zeroRows z l.toNat) (fun r hr => by
        simp only [zeroRows, List.mem_replicate] at hr
        rw [hr.2, List.length_map]; exact E0.zlen)
      (by simp only [zeroRows, List.length_replicate, size_madeCells]; exact hle)
      (fun i r j q hr hq => by
        simp only [zeroRows, List.getElem?_replicate] at hr
        split at hr
        · rename_i hil
          injection hr with hr; subst hr
          rw [List.getElem?_map] at hq
          obtain ⟨v, hv, rfl⟩ := Option.map_eq_some_iff.1 hq
          have hj : j < s := by rw [← E0.zlen]; exact (List.getElem?_eq_some_iff.1 hv).1
          refine ⟨v, ?_, E0.one v (List.mem_of_getElem? hv), RL.sc v⟩
          rw [madeCells_get hz E0.zlen E0.pos (by have := mul_add_lt hil hj; omega)]
          have : (i * s + j) % s = j := by rw [Nat.add_comm, Nat.add_mul_mod_self_right]; exact Nat.mod_eq_of_lt hj
          rw [this]; exact hv
        · cases hr)
    refine ⟨_, _, _, .inl (by simp [execOp, ho, v1, v2, hrun]; rfl), E, I', ?_⟩
    refine .inr ⟨⟨e, s, zeroRows z l.toNat⟩, by rw [upd_one, if_pos rfl], rfl, by simp [zeroRows], .inr ⟨w.heap.size, c.toNat, madeCells zv.cells (c.toNat * s), by simp, rfl, heap_alloc_new w _, size_madeCells _ _, by omega, by unfold maxLen; omega⟩⟩

/-- A flat list cut into rows. -/
def chunk (s : Nat) : Nat → List L → List (List L)
  | 0, _ => []
  | n + 1, ls => ls.take s :: chunk s n (ls.drop s)
theorem chunk_length {s : Nat} : ∀ (n : Nat) (ls : List L), (chunk s n ls).length = n
  | 0, _ => rfl
  | n + 1, ls => by simp [chunk, chunk_length n]
theorem chunk_get {s : Nat} : ∀ (n : Nat) (ls : List L) (i : Nat), i < n → (chunk s n ls)[i]? = some ((ls.drop (i * s)).take s)
  | 0, _, _, h => by omega
  | n + 1, ls, 0, _ => by simp [chunk]
  | n + 1, ls, i + 1, h => by
    simp only [chunk, List.getElem?_cons_succ]
    rw [chunk_get n _ i (by omega), List.drop_drop, Nat.add_mul, Nat.one_mul, Nat.add_comm s]

theorem op_buildSlice0 {t e : TypeId} {ps : Array (Nat × Operand)} {s bytes : Nat} {z : List Value} {id : Nat} (ho : o.op = .buildSlice t 0 ps) (ht : eltyB P t = some (e, s, bytes, z)) (hps : ps = #[]) (hi : h id = none) :
    OpT Γ P o tm h ⟨.leaf (.own id s 0), [], [(id, some ⟨e, s, []⟩)]⟩ :=
  OpT.of_value fun tm' h' μ a w g1 g2 I F => by
    have hi' : h' id = none := by rw [g2 id (by simp [Eff.ids, Eff.wids])]; exact hi
    have E0 := eltyB_spec ht
    obtain ⟨i, zv, hinf, hzero, hz, hsz, hby⟩ := E0.inf
    subst hps
    obtain ⟨E, I'⟩ := laid I hi' #[] e s [] (by simp) (by simp) (by simp)
    have hrun : (Instr.buildSlice t 0 #[]).run P w = .ok (.slice (some ⟨w.heap.size, 0, none⟩) 0 0) (w.alloc (.cells #[] e)) := by
      simp [Instr.buildSlice, run_underlying E0.und, sizeOf, typeInfo, hinf, Instr.fill, newRow, Array.range_zero']
    exact ⟨_, _, _, .inl (by simp [execOp, ho, hrun]; rfl), E, I', .inr ⟨⟨e, s, []⟩, by rw [upd_one, if_pos rfl], rfl, rfl, .inl ⟨rfl, _, rfl⟩⟩⟩
theorem op_buildSlice {t e : TypeId} {len : Nat} {ps : Array (Nat × Operand)} {qs : List (Nat × List L)} {s bytes : Nat} {z : List Value} {out : List L} {id : Nat} (ho : o.op = .buildSlice t len ps) (ht : eltyB P t = some (e, s, bytes, z)) (hq : partsT tm ps.toList = some qs)
    (hf : fillL (fun i => some (i * s, s)) (zeroRows z len).flatten qs = some out) (hlen : 0 < len) (hsmall : len * s ≤ 16777216) (ok : okPs h tm ps.toList) (hi : h id = none) :
    OpT Γ P o tm h ⟨.leaf (.own id s len), idsPs tm ps.toList, [(id, some ⟨e, s, chunk s len out⟩)]⟩ :=
  OpT.of_value fun tm' h' μ a w g1 g2 I F => by
    have hi' : h' id = none := by rw [g2 id (by simp [Eff.ids, Eff.wids])]; exact hi
    have ok' : okPs h' tm ps.toList := ok.congr fun i hi => g2 i (by simp [Eff.ids, hi])
    have E0 := eltyB_spec ht
    obtain ⟨i, zv, hinf, hzero, hz, hsz, hby⟩ := E0.inf
    obtain ⟨r1, r2⟩ := parts_rel (a := a) hq (fun x hx => g1 x (by simp only [ho, Op.operands]; simpa using hx)) F ok'
    have hflat : (zeroRows z len).flatten.length = len * s := flat_len' E0.zlen len
    obtain ⟨cells, f1, f2, f3⟩ := fill_rel (h := h') (μ := μ) (w := w) (Γ := Γ) qs (ps.toList.map fun (i, x) => (i, a.eval x)) _ out (madeCells zv.cells (len * s)) hf (by rw [size_madeCells, hflat])
      (fun j l hl => by
        have hj : j < len * s := by rw [← hflat]; exact (List.getElem?_eq_some_iff.1 hl).1
        rw [show (zeroRows z len).flatten[j]? = (z[j % s]?).map .sc from flat_get E0.zlen E0.pos len j hj] at hl
        obtain ⟨v, hv, rfl⟩ := Option.map_eq_some_iff.1 hl
        exact ⟨v, by rw [madeCells_get hz E0.zlen E0.pos hj]; exact hv, E0.one v (List.mem_of_getElem? hv), RL.sc _⟩) r1 r2
    have hout : out.length = len * s := by
      have := fill_size hf
      rw [this, hflat]
    have hrun := run_buildSlice (P := P) w t e len (ps.map fun (i, x) => (i, a.eval x)) cells i zv E0.und hinf hzero (by rw [hsz]; omega) (by rw [hsz]; exact Nat.ne_of_gt (Nat.mul_pos hlen E0.pos)) (by
      rw [hsz, Array.toList_map]
      exact f1)
    obtain ⟨E, I'⟩ := laid I hi' cells e s (chunk s len out) (fun r hr => by
        obtain ⟨k, hk⟩ := List.getElem?_of_mem hr
        have hkl : k < len := by rw [← chunk_length (s := s) len out]; exact (List.getElem?_eq_some_iff.1 hk).1
        rw [chunk_get len out k hkl] at hk
        injection hk with hk; subst hk
        have := mul_add_lt hkl E0.pos
        rw [List.length_take, List.length_drop, hout]
        have := Nat.mul_le_mul_right s (show k + 1 ≤ len from hkl)
        rw [Nat.add_mul, Nat.one_mul] at this
        omega)
      (by rw [chunk_length, f2, hout]; exact Nat.le_refl _)
      (fun k r j q hr hq => by
        have hkl : k < len := by rw [← chunk_length (s := s) len out]; exact (List.getElem?_eq_some_iff.1 hr).1
        rw [chunk_get len out k hkl] at hr
        injection hr with hr; subst hr
        rw [List.getElem?_take] at hq
        split at hq
        · rw [List.getElem?_drop] at hq
          exact f3 _ q hq
        · cases hq)
    refine ⟨_, _, _, .inl (by simp [execOp, ho, hrun]; rfl), E, I', ?_⟩
    refine .inr ⟨⟨e, s, chunk s len out⟩, by rw [upd_one, if_pos rfl], rfl, chunk_length _ _, .inr ⟨w.heap.size, len, cells, by simp, rfl, heap_alloc_new w _, by rw [f2, hout], Nat.le_refl _, by unfold maxLen; have := Nat.le_mul_of_pos_right len E0.pos; omega⟩⟩
end
end Go.Proofs.Ytfppilpaaoklaaa
