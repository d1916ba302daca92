/- What each kind of operation does to plain values: those that move, reckon, load, store, lay. -/
import Derived.Test.YtfppilpaaoklaaaPw3
import Derived.Laws.Tables
import Derived.Laws.MakeOwn
namespace Go.Proofs.Ytfppilpaaoklaaa
set_option linter.unusedSimpArgs false
set_option linter.unusedVariables false
open Go Go.RowKit
variable {Γ : Ctx}

/-- It runs to its end with a value. -/
theorem OpT.of_value {P : Program} {o : Oper} {tm : List T} {h : Heap} {e : Eff}
    (H : ∀ (tm' : List T) (h' : Heap) (μ : Pos) (a : Act) (w : World), (∀ x ∈ o.op.operands, evalT tm' x = evalT tm x) → (∀ id ∈ e.ids, h' id = h id) → Inv Γ h' μ w → FrameR Γ h' μ w tm' a.tmps →
      ∃ v μ' w', ((execOp a.eval o).run P w = .ok (.value v) w' ∨ ((execOp a.eval o).run P w = .ok .skip w' ∧ v = undef)) ∧ Evo h' μ w (upd h' e.writes) μ' w' ∧ Inv Γ (upd h' e.writes) μ' w' ∧ RT Γ (upd h' e.writes) μ' w' e.val v) : OpT Γ P o tm h e := by
  intro tm' h' μ a w h1 h2 I F K Q hK
  obtain ⟨v, μ', w', hr, E, I', r⟩ := H tm' h' μ a w h1 h2 I F
  unfold Oper.wp
  rcases hr with hr | ⟨hr, rfl⟩
  · rw [hr]; exact hK v μ' w' E I' r
  · rw [hr]; exact hK _ μ' w' E I' r
/-- It leaves the world alone. -/
theorem OpT.of_pure {P : Program} {o : Oper} {tm : List T} {h : Heap} {t : T} {ids : List Nat}
    (H : ∀ (tm' : List T) (h' : Heap) (μ : Pos) (a : Act) (w : World), (∀ x ∈ o.op.operands, evalT tm' x = evalT tm x) → (∀ id ∈ ids, h' id = h id) → Inv Γ h' μ w → FrameR Γ h' μ w tm' a.tmps →
      ∃ v, (execOp a.eval o).run P w = .ok (.value v) w ∧ RT Γ h' μ w t v) : OpT Γ P o tm h ⟨t, ids, []⟩ :=
  OpT.of_value fun tm' h' μ a w h1 h2 I F => by
    obtain ⟨v, hr, r⟩ := H tm' h' μ a w h1 (fun id hid => h2 id (by simp [Eff.ids, Eff.wids, hid])) I F
    exact ⟨v, μ, w, .inl hr, Evo.refl _ _ _, I, r⟩

section
variable {P : Program} {o : Oper} {tm : List T} {h : Heap}

theorem FrameR.at' {tm' : List T} {h' : Heap} {μ : Pos} {a : Act} {w : World} (F : FrameR Γ h' μ w tm' a.tmps) (hx : ∀ x ∈ o.op.operands, evalT tm' x = evalT tm x) {x : Operand} (hm : x ∈ o.op.operands) : RT Γ h' μ w (evalT tm x) (a.eval x) := by
  have := F.eval x
  rwa [hx x hm] at this

theorem op_move {x : Operand} (ho : o.op = .move x ∨ o.op = .assign x) : OpT Γ P o tm h ⟨evalT tm x, [], []⟩ :=
  OpT.of_pure fun tm' h' μ a w h1 _ I F => ⟨a.eval x, by rcases ho with ho | ho <;> simp [execOp, ho], F.at' h1 (by rcases ho with ho | ho <;> simp [ho, Op.operands])⟩

theorem RT.sc_inv {h' : Heap} {μ : Pos} {w : World} {v u : Value} (r : RT Γ h' μ w (.leaf (.sc v)) u) : u = v := by
  cases r; rfl
theorem op_pick {c x y : Operand} {t : Bool} (ho : o.op = .pick c x y) (hc : evalT tm c = .leaf (.sc (.bool t))) : OpT Γ P o tm h ⟨if t then evalT tm x else evalT tm y, [], []⟩ :=
  OpT.of_pure fun tm' h' μ a w h1 _ I F => by
    have r := F.at' h1 (x := c) (by simp [ho, Op.operands])
    rw [hc] at r
    have hv := RT.sc_inv r
    refine ⟨if t then a.eval x else a.eval y, ?_, ?_⟩
    · cases t <;> simp [execOp, ho, hv, asBool]
    · cases t
      · exact F.at' h1 (by simp [ho, Op.operands])
      · exact F.at' h1 (by simp [ho, Op.operands])

/-- Operands that are plain values: what the operation reckons of them. -/
def scOf : T → Option Value
  | .leaf (.sc v) => some v
  | _ => none
theorem RT.of_scOf {t : T} {v : Value} (ht : scOf t = some v) {h' : Heap} {μ : Pos} {w : World} {u : Value} (r : RT Γ h' μ w t u) : u = v := by
  cases t with
  | leaf l => cases l with
    | sc v' => simp [scOf] at ht; subst ht; exact RT.sc_inv r
    | _ => simp [scOf] at ht
  | _ => simp [scOf] at ht
theorem op_bin {op : BinOp} {xt yt : TypeId} {x y : Operand} {a b v : Value} (ho : o.op = .binOp op xt x y yt) (hx : scOf (evalT tm x) = some a) (hy : scOf (evalT tm y) = some b)
    (hg : ∀ w, (eqGuard op xt x y a b).run P w = .ok () w) (hv : ∀ w, (binOp op xt a b).run P w = .ok v w) : OpT Γ P o tm h ⟨.leaf (.sc v), [], []⟩ :=
  OpT.of_pure fun tm' h' μ a' w h1 _ I F => by
    have r1 := RT.of_scOf hx (F.at' h1 (x := x) (by simp [ho, Op.operands]))
    have r2 := RT.of_scOf hy (F.at' h1 (x := y) (by simp [ho, Op.operands]))
    refine ⟨v, ?_, RT.sc v⟩
    simp [execOp, ho, r1, r2, hg, hv]
theorem op_un {op : UnOp} {xt : TypeId} {x : Operand} {a v : Value} (ho : o.op = .unOp op xt x) (hx : scOf (evalT tm x) = some a) (hv : ∀ w, (Op.unary op a).run P w = .ok v w) : OpT Γ P o tm h ⟨.leaf (.sc v), [], []⟩ :=
  OpT.of_pure fun tm' h' μ a' w h1 _ I F => by
    have r1 := RT.of_scOf hx (F.at' h1 (x := x) (by simp [ho, Op.operands]))
    refine ⟨v, ?_, RT.sc v⟩
    simp [execOp, ho, r1, hv]
theorem op_convert {s d : TypeId} {x : Operand} {a v : Value} (ho : o.op = .convert s d x) (hx : scOf (evalT tm x) = some a) (hv : ∀ w, (convert s d a).run P w = .ok v w) : OpT Γ P o tm h ⟨.leaf (.sc v), [], []⟩ :=
  OpT.of_pure fun tm' h' μ a' w h1 _ I F => by
    have r1 := RT.of_scOf hx (F.at' h1 (x := x) (by simp [ho, Op.operands]))
    refine ⟨v, ?_, RT.sc v⟩
    simp [execOp, ho, r1, hv]

/-! ### Blocks that are laid -/
def zeroC (P : Program) (t : TypeId) : Option (List Value) := ((P.info? t).bind (·.zero)).bind fun z => if z.cells.toList.all (·.oneCell') then some z.cells.toList else none
theorem zeroC_spec {P : Program} {t : TypeId} {z : List Value} (hz : zeroC P t = some z) : ∃ it, P.info? t = some it ∧ ∃ zv, it.zero = some zv ∧ zv.cells.toList = z ∧ ∀ v ∈ z, v.oneCell' = true := by
  unfold zeroC at hz
  obtain ⟨zv, hzv, he⟩ := Option.bind_eq_some_iff.1 hz
  obtain ⟨it, hit, hz2⟩ := Option.bind_eq_some_iff.1 hzv
  split at he
  · rename_i hall
    injection he with he
    exact ⟨it, hit, zv, hz2, he, fun v hv => List.all_eq_true.1 hall v (by rw [he]; exact hv)⟩
  · cases he
theorem upd_ids {h h' : Heap} {e : Eff} {id : Nat} (h2 : ∀ i ∈ e.ids, h' i = h i) (hm : id ∈ e.wids) : h' id = h id := h2 id (by simp [Eff.ids, hm])

theorem op_alloc {t : TypeId} {z : List Value} {id : Nat} (ho : o.op = .alloc t) (hz : zeroC P t = some z) (hi : h id = none) :
    OpT Γ P o tm h ⟨.leaf (.ptr id 0 0), [], [(id, some ⟨t, z.length, [z.map .sc]⟩)]⟩ :=
  OpT.of_value fun tm' h' μ a w h1 h2 I F => by
    have hi' : h' id = none := by rw [h2 id (by simp [Eff.ids, Eff.wids])]; exact hi
    obtain ⟨it, hit, zv, hzv, rfl, hone⟩ := zeroC_spec hz
    obtain ⟨E, I'⟩ := laid I hi' zv.cells t zv.cells.toList.length [zv.cells.toList.map .sc] (by simp) (by simp) (fun i e j l he hl => by
      rcases i with _ | i
      · simp at he; subst he
        rw [List.getElem?_map] at hl
        obtain ⟨v, hv, rfl⟩ := Option.map_eq_some_iff.1 hl
        exact ⟨v, by simpa using hv, hone v (List.mem_of_getElem? hv), RL.sc v⟩
      · simp at he)
    refine ⟨.pointer (some ⟨w.heap.size, 0, none⟩), _, _, .inl ?_, E, I', ?_⟩
    · simp [execOp, ho, Instr.alloc, zeroValue, typeInfo, hit, hzv, newVar, newRow, newObj]; rfl
    · exact .inr ⟨⟨t, _, _⟩, by rw [upd_one, if_pos rfl], w.heap.size, by simp, by simp⟩

def cellsT : T → Option (List L)
  | .leaf l => some [l]
  | .agg ls => some ls
  | .tup _ => none
/-- It can be stored: it is there, and one cell. -/
def okL (h : Heap) : L → Prop
  | .sc v => v.oneCell' = true
  | .own id _ _ | .row id _ _ | .ptr id _ _ | .arow id _ _ _ => ∃ ab, h id = some (some ab)
  | .any => False
  | _ => True
def idsP : L → List Nat
  | .ptr id _ _ => [id]
  | _ => []
def idsL : L → List Nat
  | .own id _ _ | .row id _ _ | .ptr id _ _ | .arow id _ _ _ => [id]
  | .clo _ ls => ls.flatMap idsP
  | _ => []
theorem okL.congr {h h' : Heap} {l : L} (k : okL h l) (hs : ∀ id ∈ idsL l, h' id = h id) : okL h' l := by
  cases l with
  | own id s n => obtain ⟨ab, hk⟩ := k; exact ⟨ab, by rw [hs id (by simp [idsL])]; exact hk⟩
  | row id s n => obtain ⟨ab, hk⟩ := k; exact ⟨ab, by rw [hs id (by simp [idsL])]; exact hk⟩
  | ptr id s n => obtain ⟨ab, hk⟩ := k; exact ⟨ab, by rw [hs id (by simp [idsL])]; exact hk⟩
  | arow id i s n => obtain ⟨ab, hk⟩ := k; exact ⟨ab, by rw [hs id (by simp [idsL])]; exact hk⟩
  | _ => exact k
theorem RX.one {h : Heap} {μ : Pos} {w : World} {l : L} {u : Value} (r : RX Γ h μ w l u) (k : okL h l) : u.oneCell' = true ∧ u.cells = #[u] := by
  have dead : ∀ {id : Nat} {ab : AB}, h id = some (some ab) → h id = some none → False := fun h1 h2 => by rw [h1] at h2; cases h2
  cases l with
  | any => exact k.elim
  | sc v => cases r; exact ⟨k, by simp only [okL] at k; cases u <;> simp_all [Value.oneCell', Value.cells]⟩
  | bb p => obtain ⟨b, rfl, _⟩ := r; exact ⟨rfl, rfl⟩
  | sl es => cases r; exact ⟨rfl, rfl⟩
  | pp cs => cases r; exact ⟨rfl, rfl⟩
  | mp es => cases r; exact ⟨rfl, rfl⟩
  | clo f ls => obtain ⟨cs, rfl, _⟩ := r; exact ⟨rfl, rfl⟩
  | arow id i j n =>
    obtain ⟨ab, hk⟩ := k
    rcases r with hd | ⟨_, _, _, _, A, c, rfl, _⟩
    · exact (dead hk hd).elim
    · exact ⟨rfl, rfl⟩
  | own id s n =>
    obtain ⟨ab, hk⟩ := k
    rcases r with hd | ⟨_, _, _, _, ⟨_, A, rfl⟩ | ⟨g, cap, cur, _, rfl, _⟩⟩
    · exact (dead hk hd).elim
    · exact ⟨rfl, rfl⟩
    · exact ⟨rfl, rfl⟩
  | row id lo n =>
    obtain ⟨ab, hk⟩ := k
    rcases r with hd | ⟨_, _, _, A, c, rfl, _⟩
    · exact (dead hk hd).elim
    · exact ⟨rfl, rfl⟩
  | ptr id i j =>
    obtain ⟨ab, hk⟩ := k
    rcases r with hd | ⟨_, _, g, _, rfl⟩
    · exact (dead hk hd).elim
    · exact ⟨rfl, rfl⟩
/-- A cell that is to be stored. -/
def okT (h : Heap) : T → Prop
  | .leaf l => okL h l
  | _ => True
def idsT : T → List Nat
  | .leaf l => idsL l
  | _ => []
theorem okT.congr {h h' : Heap} {t : T} (k : okT h t) (hs : ∀ id ∈ idsT t, h' id = h id) : okT h' t := by
  cases t with
  | leaf l => exact okL.congr (l := l) k hs
  | _ => trivial
theorem RT.cells {t : T} {ls : List L} (ht : cellsT t = some ls) {h' : Heap} {μ : Pos} {w : World} {u : Value} (r : RT Γ h' μ w t u) (ok : okT h' t) :
    u.cells.size = ls.length ∧ (∀ v ∈ u.cells.toList, v.oneCell' = true) ∧ ∀ (j : Nat) (l : L), ls[j]? = some l → ∃ v, u.cells[j]? = some v ∧ RXc Γ h' μ w l v := by
  cases t with
  | tup ts => simp [cellsT] at ht
  | leaf l =>
    simp [cellsT] at ht; subst ht
    obtain ⟨h1, h2⟩ := RX.one (l := l) r ok
    rw [h2]
    refine ⟨rfl, by simp [h1], fun j l' hl => ?_⟩
    rcases j with _ | j
    · simp at hl; subst hl; exact ⟨u, by simp, h1, r⟩
    · simp at hl
  | agg ls' =>
    simp [cellsT] at ht; subst ht
    obtain ⟨cs, rfl, hs, hr⟩ := r
    refine ⟨hs, fun v hv => ?_, hr⟩
    obtain ⟨j, hj⟩ := List.getElem?_of_mem hv
    have hjl : j < ls'.length := by rw [← hs, ← Array.length_toList]; exact (List.getElem?_eq_some_iff.1 hj).1
    obtain ⟨v', hv', hx⟩ := hr j ls'[j] (List.getElem?_eq_getElem hjl)
    have : v' = v := by
      simp only [Value.cells] at hj
      rw [Array.getElem?_toList, hv'] at hj
      exact Option.some.inj hj
    subst this
    exact hx.1

theorem op_box {t : TypeId} {x : Operand} {ls : List L} {id : Nat} (ho : o.op = .box t x) (hx : cellsT (evalT tm x) = some ls) (ok : okT h (evalT tm x)) (hi : h id = none) :
    OpT Γ P o tm h ⟨.leaf (.ptr id 0 0), idsT (evalT tm x), [(id, some ⟨t, ls.length, [ls]⟩)]⟩ :=
  OpT.of_value fun tm' h' μ a w h1 h2 I F => by
    have hi' : h' id = none := by rw [h2 id (by simp [Eff.ids, Eff.wids])]; exact hi
    have ok' : okT h' (evalT tm x) := ok.congr fun i hi => h2 i (by simp only [Eff.ids, List.mem_append]; exact .inl hi)
    obtain ⟨c1, c2, c3⟩ := RT.cells hx (F.at' h1 (x := x) (by simp [ho, Op.operands])) ok'
    obtain ⟨E, I'⟩ := laid I hi' (a.eval x).cells t ls.length [ls] (by simp) (by simp [c1]) (fun i e j l he hl => by
      rcases i with _ | i
      · simp at he; subst he
        simpa using c3 j l hl
      · simp at he)
    refine ⟨.pointer (some ⟨w.heap.size, 0, none⟩), _, _, .inl ?_, E, I', ?_⟩
    · simp [execOp, ho, Instr.box, newVar, newRow, newObj]; rfl
    · exact .inr ⟨⟨t, _, _⟩, by rw [upd_one, if_pos rfl], w.heap.size, by simp, by simp⟩

/-! ### Structs and arrays built, rows built -/
def fillL (place : Nat → Option (Nat × Nat)) (cells : List L) : List (Nat × List L) → Option (List L)
  | [] => some cells
  | (i, ls) :: rest => match place i with
    | none => none
    | some (off, size) => if ls.length ≠ size || off + ls.length > cells.length then none else fillL place (cells.take off ++ ls ++ cells.drop (off + ls.length)) rest

theorem foldl_seg (off : Nat) : ∀ (vs : List Value) (k : Nat) (cs : Array Value), off + k + vs.length ≤ cs.size →
    ((vs.zipIdx k).foldl (fun cs x => cs.setIfInBounds (off + x.2) x.1) cs).toList = cs.toList.take (off + k) ++ vs ++ cs.toList.drop (off + k + vs.length)
  | [], k, cs, _ => by simp
  | v :: vs, k, cs, h => by
    simp only [List.zipIdx_cons, List.foldl_cons]
    have := foldl_seg off vs (k + 1) (cs.setIfInBounds (off + k) v) (by simp at h ⊢; omega)
    rw [this, Array.toList_setIfInBounds]
    have e := list_seg_step cs.toList (off + k) v vs (by simp at h ⊢; omega)
    simpa [Nat.add_assoc] using e

theorem fill_rel {h : Heap} {μ : Pos} {w : World} {place : Nat → Option (Nat × Nat)} : ∀ (ps : List (Nat × List L)) (qs : List (Nat × Value)) (ls out : List L) (cs : Array Value),
    fillL place ls ps = some out → cs.size = ls.length → (∀ (j : Nat) (l : L), ls[j]? = some l → ∃ v, cs[j]? = some v ∧ RXc Γ h μ w l v) →
    ps.length = qs.length → (∀ (k : Nat) (p : Nat × List L) (q : Nat × Value), ps[k]? = some p → qs[k]? = some q → p.1 = q.1 ∧ q.2.cells.size = p.2.length ∧ ∀ (j : Nat) (l : L), p.2[j]? = some l → ∃ v, q.2.cells[j]? = some v ∧ RXc Γ h μ w l v) →
    ∃ cells, Instr.fill place cs qs = some cells ∧ cells.size = out.length ∧ ∀ (j : Nat) (l : L), out[j]? = some l → ∃ v, cells[j]? = some v ∧ RXc Γ h μ w l v
  | [], [], ls, out, cs, hf, hs, hr, _, _ => by
    simp [fillL] at hf; subst hf
    exact ⟨cs, rfl, hs, hr⟩
  | [], q :: qs, _, _, _, _, _, _, hl, _ => by simp at hl
  | p :: ps, [], _, _, _, _, _, _, hl, _ => by simp at hl
  | (i, ls') :: ps, (i', v) :: qs, ls, out, cs, hf, hs, hr, hl, hk => by
    obtain ⟨e1, e2, e3⟩ := hk 0 _ _ rfl rfl
    simp only at e1 e2 e3
    subst e1
    simp only [fillL] at hf
    cases hp : place i with
    | none => rw [hp] at hf; cases hf
    | some os =>
      obtain ⟨off, size⟩ := os
      rw [hp] at hf
      simp only at hf
      split at hf
      · cases hf
      · rename_i hc
        simp at hc
        obtain ⟨hc1, hc2⟩ := hc
        have hseg := foldl_seg off v.cells.toList 0 cs (by simp [hs, e2]; omega)
        have hcs : ((v.cells.zipIdx.foldl (fun cs (c, j) => cs.setIfInBounds (off + j) c) cs)).toList = cs.toList.take off ++ v.cells.toList ++ cs.toList.drop (off + ls'.length) := by
          have : v.cells.zipIdx = (v.cells.toList.zipIdx).toArray := by
            rw [← Array.toList_inj]; simp
          rw [this, List.foldl_toArray]
          have e4 : v.cells.toList.length = ls'.length := by simpa using e2
          simpa [e4] using hseg
        obtain ⟨cells, h1, h2, h3⟩ := fill_rel ps qs _ out (v.cells.zipIdx.foldl (fun cs (c, j) => cs.setIfInBounds (off + j) c) cs) hf
          (by rw [← Array.length_toList, hcs]; simp [hs, e2])
          (fun j l hl => by
            rw [← Array.getElem?_toList, hcs]
            have hb : (ls.take off).length = off := by simp; omega
            have hb' : (cs.toList.take off).length = off := by simp [hs]; omega
            rcases Nat.lt_or_ge j off with hj | hj
            · rw [List.append_assoc, List.getElem?_append_left (by rw [hb]; exact hj), List.getElem?_take, if_pos hj] at hl
              obtain ⟨u, hu, hx⟩ := hr j l hl
              refine ⟨u, ?_, hx⟩
              rw [List.append_assoc, List.getElem?_append_left (by rw [hb']; exact hj), List.getElem?_take, if_pos hj, Array.getElem?_toList]
              exact hu
            · rw [List.append_assoc, List.getElem?_append_right (by rw [hb]; exact hj), hb] at hl
              rw [List.append_assoc, List.getElem?_append_right (by rw [hb']; exact hj), hb']
              rcases Nat.lt_or_ge (j - off) ls'.length with hj2 | hj2
              · rw [List.getElem?_append_left hj2] at hl
                obtain ⟨u, hu, hx⟩ := e3 _ l hl
                refine ⟨u, ?_, hx⟩
                rw [List.getElem?_append_left (by simp [e2]; exact hj2), Array.getElem?_toList]
                exact hu
              · rw [List.getElem?_append_right hj2, List.getElem?_drop] at hl
                obtain ⟨u, hu, hx⟩ := hr _ l hl
                refine ⟨u, ?_, hx⟩
                rw [List.getElem?_append_right (by simp [e2]; exact hj2), List.getElem?_drop, Array.getElem?_toList]
                simpa [e2] using hu)
          (by simpa using hl) (fun k p q hp hq => hk (k + 1) p q (by simpa using hp) (by simpa using hq))
        refine ⟨cells, ?_, h2, h3⟩
        simp only [Instr.fill, hp]
        rw [if_neg (by simp only [Bool.or_eq_true, decide_eq_true_eq, not_or, Nat.not_lt, gt_iff_lt, bne_iff_ne, ne_eq, Decidable.not_not]; exact ⟨by rw [e2]; exact hc1, by rw [e2, hs]; exact hc2⟩)]
        exact h1

theorem fill_size {place : Nat → Option (Nat × Nat)} : ∀ {ps : List (Nat × List L)} {ls out : List L}, fillL place ls ps = some out → out.length = ls.length
  | [], ls, out, h => by simp [fillL] at h; rw [h]
  | (i, ls') :: ps, ls, out, h => by
    simp only [fillL] at h
    split at h
    · cases h
    · split at h
      · cases h
      · rename_i hc
        simp at hc
        rw [fill_size h]
        simp; omega

/-- Where a struct's fields stand, or an array's elements. -/
def placesOf (P : Program) (t : TypeId) : Option (Nat → Option (Nat × Nat)) :=
  match P.underlying t with
  | some (.array _ e) => (P.info? e).map fun ie => fun i => some (i * ie.size, ie.size)
  | some (.struct fields) => (fields.toList.mapM (fun f => (P.info? f.type).map fun i => (f.offset, i.size))).map fun places => fun i => places.toArray[i]?
  | _ => none
def partsT (tm : List T) (ps : List (Nat × Operand)) : Option (List (Nat × List L)) := ps.mapM fun p => (cellsT (evalT tm p.2)).map fun ls => (p.1, ls)
def okPs (h : Heap) (tm : List T) : List (Nat × Operand) → Prop
  | [] => True
  | p :: ps => okT h (evalT tm p.2) ∧ okPs h tm ps
def idsPs (tm : List T) : List (Nat × Operand) → List Nat
  | [] => []
  | p :: ps => idsT (evalT tm p.2) ++ idsPs tm ps
theorem okPs_at {h : Heap} {tm : List T} : ∀ {ps : List (Nat × Operand)}, okPs h tm ps → ∀ p ∈ ps, okT h (evalT tm p.2)
  | _ :: _, k, p, hp => by
    rcases List.mem_cons.1 hp with rfl | hp
    · exact k.1
    · exact okPs_at k.2 p hp
theorem okPs.congr {h h' : Heap} {tm : List T} : ∀ {ps : List (Nat × Operand)}, okPs h tm ps → (∀ id ∈ idsPs tm ps, h' id = h id) → okPs h' tm ps
  | [], _, _ => trivial
  | p :: ps, k, hs => ⟨k.1.congr fun i hi => hs i (List.mem_append_left _ hi), okPs.congr k.2 fun i hi => hs i (List.mem_append_right _ hi)⟩

theorem partsT_spec {tm : List T} : ∀ (ps : List (Nat × Operand)) (qs : List (Nat × List L)), partsT tm ps = some qs → qs.length = ps.length ∧ ∀ (k : Nat) (p : Nat × Operand), ps[k]? = some p → ∃ ls, qs[k]? = some (p.1, ls) ∧ cellsT (evalT tm p.2) = some ls
  | [], qs, h => by simp [partsT] at h; subst h; exact ⟨rfl, fun k p hp => by simp at hp⟩
  | p :: ps, qs, h => by
    simp only [partsT, List.mapM_cons, Option.bind_eq_bind, Option.pure_def] at h
    cases h1 : (cellsT (evalT tm p.2)).map fun ls => (p.1, ls) with
    | none => simp [h1] at h
    | some q =>
      cases h2 : List.mapM (fun p => (cellsT (evalT tm p.2)).map fun ls => (p.1, ls)) ps with
      | none => simp [h1, h2] at h
      | some rest =>
        simp [h1, h2] at h
        subst h
        obtain ⟨a1, a2⟩ := partsT_spec ps rest h2
        refine ⟨by simp [a1], fun k p' hp => ?_⟩
        rcases k with _ | k
        · simp at hp; subst hp
          obtain ⟨ls, hls, rfl⟩ := Option.map_eq_some_iff.1 h1
          exact ⟨ls, rfl, hls⟩
        · exact a2 k p' (by simpa using hp)

theorem parts_rel {tm tm' : List T} {h' : Heap} {μ : Pos} {w : World} {a : Act} {ps : List (Nat × Operand)} {qs : List (Nat × List L)} (hp : partsT tm ps = some qs) (hx : ∀ x ∈ ps.map (·.2), evalT tm' x = evalT tm x) (F : FrameR Γ h' μ w tm' a.tmps)
    (ok : okPs h' tm ps) : qs.length = (ps.map fun (i, x) => (i, a.eval x)).length ∧ ∀ (k : Nat) (p : Nat × List L) (q : Nat × Value), qs[k]? = some p → (ps.map fun (i, x) => (i, a.eval x))[k]? = some q →
      p.1 = q.1 ∧ q.2.cells.size = p.2.length ∧ ∀ (j : Nat) (l : L), p.2[j]? = some l → ∃ v, q.2.cells[j]? = some v ∧ RXc Γ h' μ w l v := by
  obtain ⟨h1, h2⟩ := partsT_spec ps qs hp
  refine ⟨by simp [h1], fun k p q hk hq => ?_⟩
  rw [List.getElem?_map] at hq
  obtain ⟨⟨i, x⟩, hix, rfl⟩ := Option.map_eq_some_iff.1 hq
  obtain ⟨ls, hls, hc⟩ := h2 k _ hix
  rw [hk] at hls
  injection hls with hls
  subst hls
  have r := F.eval x
  rw [hx x (List.mem_map.2 ⟨_, List.mem_of_getElem? hix, rfl⟩)] at r
  obtain ⟨c1, _, c3⟩ := RT.cells hc r (okPs_at ok _ (List.mem_of_getElem? hix))
  exact ⟨rfl, c1, c3⟩

theorem op_build {t : TypeId} {ps : Array (Nat × Operand)} {qs : List (Nat × List L)} {z : List Value} {place : Nat → Option (Nat × Nat)} {out : List L} (ho : o.op = .build t ps) (hq : partsT tm ps.toList = some qs)
    (hz : zeroC P t = some z) (hpl : placesOf P t = some place) (hf : fillL place (z.map .sc) qs = some out) (ok : okPs h tm ps.toList) :
    OpT Γ P o tm h ⟨.agg out, idsPs tm ps.toList, []⟩ :=
  OpT.of_pure fun tm' h' μ a w h1 h2 I F => by
    have ok' : okPs h' tm ps.toList := ok.congr h2
    obtain ⟨r1, r2⟩ := parts_rel (a := a) hq (fun x hx => h1 x (by simp only [ho, Op.operands]; simpa using hx)) F ok'
    obtain ⟨it, hit, zv, hzv, rfl, hone⟩ := zeroC_spec hz
    obtain ⟨cells, f1, f2, f3⟩ := fill_rel (h := h') (μ := μ) (w := w) qs (ps.toList.map fun (i, x) => (i, a.eval x)) (zv.cells.toList.map .sc) out zv.cells hf (by simp)
      (fun j l hl => by
        rw [List.getElem?_map] at hl
        obtain ⟨v, hv, rfl⟩ := Option.map_eq_some_iff.1 hl
        exact ⟨v, by simpa using hv, hone v (List.mem_of_getElem? hv), RL.sc v⟩) r1 r2
    refine ⟨.agg cells, ?_, ⟨cells, rfl, f2, f3⟩⟩
    have hb : P.built t (ps.toList.map fun (i, x) => (i, a.eval x)) = some cells := by
      unfold Program.built
      unfold placesOf at hpl
      rw [hit]
      cases hu : P.underlying t with
      | none => rw [hu] at hpl; cases hpl
      | some d =>
        rw [hu] at hpl
        cases d <;> simp only at hpl ⊢ <;> first | (cases hpl; done) | skip
        · obtain ⟨ie, hie, rfl⟩ := Option.map_eq_some_iff.1 hpl
          simp only [hzv, hie]; exact f1
        · obtain ⟨pl, hpl', rfl⟩ := Option.map_eq_some_iff.1 hpl
          simp only [hzv, hpl']; exact f1
    have := run_build (P := P) w t (ps.map fun (i, x) => (i, a.eval x)) cells (by rw [Array.toList_map]; exact hb)
    simp only [execOp, ho]
    rw [show (do pure (.value (← Instr.build t (ps.map fun (i, x) => (i, a.eval x)))) : Sem Next) = (Instr.build t (ps.map fun (i, x) => (i, a.eval x))).bind fun v => pure (.value v) from rfl]
    exact (Sem.run_bind _ _ _ _).trans (by rw [this]; rfl)
end
end Go.Proofs.Ytfppilpaaoklaaa
