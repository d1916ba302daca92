/- What each kind of operation does to plain values: loads, stores, addresses, parts. -/
import Derived.Test.YtfppilpaaoklaaaPw4
namespace Go.Proofs.Ytfppilpaaoklaaa
set_option linter.unusedSimpArgs false
set_option linter.unusedVariables false
open Go Go.RowKit
variable {Γ : Ctx}

def isAggB (P : Program) (t : TypeId) : Option Bool := (P.underlying t).map fun | .struct _ => true | .array _ _ => true | _ => false
def sizeB (P : Program) (t : TypeId) : Option Nat := (P.info? t).map (·.size)
theorem run_isAgg {P : Program} {t : TypeId} {b : Bool} (h : isAggB P t = some b) (w : World) : (isAgg t).run P w = .ok b w := by
  unfold isAggB at h
  obtain ⟨d, hd, hb⟩ := Option.map_eq_some_iff.1 h
  unfold isAgg
  rw [Sem.run_bind, run_underlying hd]
  subst hb
  cases d <;> rfl
theorem run_sizeB {P : Program} {t : TypeId} {n : Nat} (h : sizeB P t = some n) (w : World) : (sizeOf t).run P w = .ok n w := by
  unfold sizeB at h
  obtain ⟨i, hi, rfl⟩ := Option.map_eq_some_iff.1 h
  simp [sizeOf, typeInfo, hi]

/-! ### Where something lies -/
/-- The cells behind an address. -/
def behind (h : Heap) : L → Option (List L)
  | .ptr id i j => match h id with
    | some (some ab) => (ab.es[i]?).map fun e => e.drop j
    | _ => none
  | .pp cs => some cs
  | _ => none
theorem behind_spec {h : Heap} {μ : Pos} {w : World} (I : Inv Γ h μ w) {l : L} {u : Value} (r : RX Γ h μ w l u) {cs : List L} (hb : behind h l = some cs) :
    ∃ p, u = .pointer (some p) ∧ ∀ (k : Nat) (x : L), cs[k]? = some x → ∃ v, w.cell? (p.add k) = some v ∧ RXc Γ h μ w x v := by
  cases l with
  | ptr id i j =>
    simp only [behind] at hb
    cases hi : h id with
    | none => rw [hi] at hb; cases hb
    | some ob => cases ob with
      | none => rw [hi] at hb; cases hb
      | some ab =>
        rw [hi] at hb
        simp only at hb
        obtain ⟨e, he, rfl⟩ := Option.map_eq_some_iff.1 hb
        rcases r with hd | ⟨ab', h1, g, hg, rfl⟩
        · rw [hi] at hd; cases hd
        · rw [hi] at h1; injection h1 with h1; injection h1 with h1; subst h1
          refine ⟨_, rfl, fun k x hx => ?_⟩
          rw [List.getElem?_drop] at hx
          rcases I.at_ id ab hi with ⟨h0, _⟩ | ⟨g', cur, hg', hw, hl, hr⟩
          · rw [h0] at he; simp at he
          · rw [hg] at hg'; cases hg'
            obtain ⟨v, hv, hx'⟩ := hr i e (j + k) x he hx
            refine ⟨v, ?_, hx'⟩
            have hadd : (⟨g, i * ab.s + j, none⟩ : Addr).add k = ⟨g, i * ab.s + (j + k), none⟩ := by
              unfold Addr.add
              split
              · rename_i h0; subst h0; rfl
              · simp; omega
            rw [hadd]
            simp [World.cell?, hw, hv]
  | pp cs' =>
    simp [behind] at hb; subst hb
    cases r with
    | pp _ p cells h4 h5 h6 => exact ⟨p, rfl, fun k x hx => ⟨_, (h4 k x hx).2, h6 k x hx, (h5 k x hx).rx⟩⟩
  | _ => simp [behind] at hb

theorem behind_congr {h h' : Heap} {l : L} (hs : ∀ id ∈ idsL l, h' id = h id) : behind h' l = behind h l := by
  cases l with
  | ptr id i j => simp only [behind]; rw [hs id (by simp [idsL])]
  | _ => rfl

/-- What is read out of cells. -/
def takeT (P : Program) (t : TypeId) (cs : List L) : Option T :=
  match isAggB P t, sizeB P t with
  | some true, some n => if n ≤ cs.length then some (.agg (cs.take n)) else none
  | some false, _ => match cs with | l :: _ => some (.leaf l) | [] => none
  | _, _ => none

section
variable {P : Program} {o : Oper} {tm : List T} {h : Heap}

theorem load_run {t : TypeId} {h' : Heap} {μ : Pos} {w : World} {l : L} {u : Value} {cs : List L} {v : T} {p : Addr} (I : Inv Γ h' μ w) (r : RX Γ h' μ w l u) (hb : behind h' l = some cs) (hv : takeT P t cs = some v) (hp : u = .pointer (some p)) :
    ∃ x, (loadVar t p).run P w = .ok x w ∧ RT Γ h' μ w v x := by
  obtain ⟨p', hp', hc⟩ := behind_spec I r hb
  rw [hp] at hp'; injection hp' with hp'; injection hp' with hp'; subst hp'
  unfold takeT at hv
  split at hv
  · rename_i n ha hs
    split at hv
    · rename_i hn
      injection hv with hv; subst hv
      let vs : List Value := (List.range n).map fun k => (w.cell? (p.add k)).getD undef
      have hvs : ∀ (k : Nat) v, vs[k]? = some v → w.cell? (p.add k) = some v := fun k v hk => by
        simp only [vs, List.getElem?_map] at hk
        obtain ⟨k', hk', rfl⟩ := Option.map_eq_some_iff.1 hk
        have hk2 : k < n ∧ k' = k := by
          have := List.getElem?_eq_some_iff.1 hk'
          obtain ⟨hlt, he⟩ := this
          simp at hlt he
          exact ⟨hlt, he.symm⟩
        obtain ⟨hlt, rfl⟩ := hk2
        obtain ⟨u, hu, _⟩ := hc k' cs[k'] (List.getElem?_eq_getElem (by omega))
        rw [hu]; rfl
      have hlen : vs.length = n := by simp [vs]
      refine ⟨.agg vs.toArray, ?_, ⟨vs.toArray, rfl, by simp [hlen]; omega, fun j l hl => ?_⟩⟩
      · have hl := run_loadCells_list (P := P) w p vs hvs
        rw [hlen] at hl
        simp [loadVar, run_isAgg ha, run_sizeB hs, hl]
      · rw [List.getElem?_take] at hl
        split at hl
        · rename_i hj
          obtain ⟨u, hu, hx'⟩ := hc j l hl
          refine ⟨u, ?_, hx'⟩
          have : vs[j]? = some u := by
            simp [vs, hj, hu]
          simpa using this
        · cases hl
    · cases hv
  · rename_i ha
    split at hv
    · rename_i l' r'
      injection hv with hv; subst hv
      obtain ⟨u, hu, hx'⟩ := hc 0 l' rfl
      have hu' : w.cell? p = some u := hu
      refine ⟨u, ?_, hx'.2⟩
      simp [loadVar, run_isAgg ha, load, Sem.run, hu']
    · cases hv
  · cases hv
theorem op_load {t : TypeId} {x : Operand} {l : L} {cs : List L} {v : T} (ho : o.op = .load t x) (hx : evalT tm x = .leaf l) (hb : behind h l = some cs) (hv : takeT P t cs = some v) :
    OpT Γ P o tm h ⟨v, idsL l, []⟩ :=
  OpT.of_pure fun tm' h' μ a w h1 h2 I F => by
    have r := F.at' h1 (x := x) (by simp [ho, Op.operands])
    rw [hx] at r
    have hb' : behind h' l = some cs := by rw [behind_congr h2]; exact hb
    obtain ⟨p, hp, _⟩ := behind_spec I (l := l) r hb'
    obtain ⟨u, h3, h4⟩ := load_run (P := P) (t := t) I (l := l) r hb' hv hp
    exact ⟨u, by simp [execOp, ho, hp, Instr.loadAt, Instr.sureAddr, h3], h4⟩

/-- Cells written over others, at a place. -/
def over (e ls : List L) (j : Nat) : List L := e.take j ++ ls ++ e.drop (j + ls.length)

theorem op_store {t : TypeId} {x y : Operand} {id i j : Nat} {ab : AB} {e ls : List L} (ho : o.op = .store t x y) (hx : evalT tm x = .leaf (.ptr id i j)) (hi : h id = some (some ab)) (he : ab.es[i]? = some e)
    (hy : cellsT (evalT tm y) = some ls) (ok : okT h (evalT tm y)) (hs : sizeB P t = some ls.length) (hfit : j + ls.length ≤ e.length) :
    OpT Γ P o tm h ⟨undefT, id :: idsT (evalT tm y), [(id, some ⟨ab.t, ab.s, ab.es.set i (over e ls j)⟩)]⟩ :=
  OpT.of_value fun tm' h' μ a w h1 h2 I F => by
    have hi' : h' id = some (some ab) := by rw [h2 id (by simp [Eff.ids])]; exact hi
    have r := F.at' h1 (x := x) (by simp [ho, Op.operands])
    rw [hx] at r
    have ok' : okT h' (evalT tm y) := ok.congr fun k hk => h2 k (by simp [Eff.ids, hk])
    obtain ⟨c1, c2, c3⟩ := RT.cells hy (F.at' h1 (x := y) (by simp [ho, Op.operands])) ok'
    rcases r with hd | ⟨ab', k1, g, hg, hp⟩
    · rw [hi'] at hd; cases hd
    rw [hi'] at k1; injection k1 with k1; injection k1 with k1; subst k1
    have hes : e.length = ab.s := I.len id ab hi' e (List.mem_of_getElem? he)
    have hil : i < ab.es.length := (List.getElem?_eq_some_iff.1 he).1
    rcases I.at_ id ab hi' with ⟨h0, _⟩ | ⟨g', cur, hg', hw, hl, hr⟩
    · rw [h0] at he; simp at he
    rw [hg] at hg'; cases hg'
    have hmul : i * ab.s + ab.s ≤ ab.es.length * ab.s := by
      have := Nat.mul_le_mul_right ab.s (show i + 1 ≤ ab.es.length from hil)
      rw [Nat.add_mul, Nat.one_mul] at this; exact this
    let vs := (a.eval y).cells.toList
    have hvl : vs.length = ls.length := by simp [vs, c1]
    let cur' := (cur.toList.take (i * ab.s + j) ++ vs ++ cur.toList.drop (i * ab.s + j + vs.length)).toArray
    have hsz : cur'.size = cur.size := by
      simp only [cur', List.size_toArray, List.length_append, List.length_take, List.length_drop, Array.length_toList, hvl]; omega
    have hget : ∀ k, cur'[k]? = if k < i * ab.s + j then cur[k]? else if k < i * ab.s + j + vs.length then vs[k - (i * ab.s + j)]? else cur[k]? := by
      intro k
      simp only [cur', List.getElem?_toArray]
      have hb : (cur.toList.take (i * ab.s + j)).length = i * ab.s + j := by simp [hvl]; omega
      by_cases hk : k < i * ab.s + j
      · rw [if_pos hk, List.append_assoc, List.getElem?_append_left (by rw [hb]; exact hk), List.getElem?_take, if_pos hk, Array.getElem?_toList]
      · rw [if_neg hk, List.append_assoc, List.getElem?_append_right (by rw [hb]; omega), hb]
        by_cases hk2 : k < i * ab.s + j + vs.length
        · rw [if_pos hk2, List.getElem?_append_left (by omega)]
        · rw [if_neg hk2, List.getElem?_append_right (by omega), List.getElem?_drop, Array.getElem?_toList]
          congr 1; omega
    have holen : (over e ls j).length = ab.s := by simp [over]; omega
    obtain ⟨E, I'⟩ := written I hi' hg hw hsz (ab.es.set i (over e ls j)) (by simp) (fun e' he' => by
        rcases List.mem_or_eq_of_mem_set he' with hm | rfl
        · exact I.len id ab hi' e' hm
        · exact holen)
      (fun k e' q l he' hl' => by
        by_cases hki : k = i
        · subst hki
          rw [List.getElem?_set_self hil] at he'
          injection he' with he'; subst he'
          have hq : q < ab.s := by rw [← holen]; exact (List.getElem?_eq_some_iff.1 hl').1
          simp only [over] at hl'
          have hb : (e.take j).length = j := by simp; omega
          rw [hget]
          by_cases hqj : q < j
          · rw [List.append_assoc, List.getElem?_append_left (by rw [hb]; exact hqj), List.getElem?_take, if_pos hqj] at hl'
            rw [if_pos (by omega)]
            exact hr k e q l he hl'
          · rw [List.append_assoc, List.getElem?_append_right (by rw [hb]; omega), hb] at hl'
            rw [if_neg (by omega)]
            by_cases hq2 : q - j < ls.length
            · rw [List.getElem?_append_left hq2] at hl'
              rw [if_pos (by omega)]
              obtain ⟨v, hv, hx'⟩ := c3 _ l hl'
              refine ⟨v, ?_, hx'⟩
              rw [show k * ab.s + q - (k * ab.s + j) = q - j by omega]
              simpa [vs] using hv
            · rw [List.getElem?_append_right (by omega), List.getElem?_drop] at hl'
              rw [if_neg (by omega)]
              have := hr k e _ l he hl'
              rw [show k * ab.s + (j + ls.length + (q - j - ls.length)) = k * ab.s + q by omega] at this
              exact this
        · rw [List.getElem?_set_ne (Ne.symm hki)] at he'
          have hq : q < ab.s := by rw [← I.len id ab hi' e' (List.mem_of_getElem? he')]; exact (List.getElem?_eq_some_iff.1 hl').1
          rw [hget]
          have hsep : k * ab.s + q < i * ab.s + j ∨ i * ab.s + j + vs.length ≤ k * ab.s + q := by
            rcases Nat.lt_or_ge k i with hlt | hge
            · left
              have := Nat.mul_le_mul_right ab.s (show k + 1 ≤ i from hlt)
              rw [Nat.add_mul, Nat.one_mul] at this; omega
            · right
              have := Nat.mul_le_mul_right ab.s (show i + 1 ≤ k by omega)
              rw [Nat.add_mul, Nat.one_mul] at this; omega
          rcases hsep with hs1 | hs1
          · rw [if_pos hs1]; exact hr k e' q l he' hl'
          · rw [if_neg (by omega), if_neg (by omega)]; exact hr k e' q l he' hl')
    refine ⟨undef, _, _, .inr ⟨?_, rfl⟩, E, I', RT.sc _⟩
    have hst := run_storeCells_at P g (i * ab.s + j) ab.t vs 0 cur w hw (by omega) c2
    simp only [Nat.add_zero] at hst
    have hne : ¬ ((a.eval y).cells.size ≠ ls.length) := by simp [c1]
    simp only [execOp, ho, hp, Instr.storeAt, Instr.sureAddr, storeVar]
    simp [run_sizeB hs, c1]
    rw [show (a.eval y).cells.toList = vs from rfl, hst]
    rfl

/-- A pointer that is there. -/
theorem op_nilCheck {x : Operand} {l : L} (ho : o.op = .nilCheck x) (hx : evalT tm x = .leaf l) (hl : (behind h l).isSome = true) : OpT Γ P o tm h ⟨.leaf l, idsL l, []⟩ :=
  OpT.of_pure fun tm' h' μ a w h1 h2 I F => by
    have r := F.at' h1 (x := x) (by simp [ho, Op.operands])
    have r' := r
    rw [hx] at r
    obtain ⟨cs, hcs⟩ := Option.isSome_iff_exists.1 hl
    obtain ⟨p, hp, _⟩ := behind_spec I (l := l) r (by rw [behind_congr h2]; exact hcs)
    rw [hp] at r
    exact ⟨_, by simp [execOp, ho, hp], r⟩
/-- A function that is there. -/
theorem op_nilCheckF {x : Operand} {f : FuncId} {fs cs : Array Value} (ho : o.op = .nilCheck x) (hx : evalT tm x = .leaf (.sc (.func (.func f) fs cs))) : OpT Γ P o tm h ⟨.leaf (.sc (.func (.func f) fs cs)), [], []⟩ :=
  OpT.of_pure fun tm' h' μ a w h1 h2 I F => by
    have r := F.at' h1 (x := x) (by simp [ho, Op.operands])
    rw [hx] at r
    have := RT.sc_inv r
    exact ⟨_, by simp [execOp, ho, this], RT.sc _⟩

def fieldB (P : Program) (s : TypeId) (f : Nat) : Option (Nat × TypeId) := match P.underlying s with | some (.struct fs) => (fs[f]?).map fun x => (x.offset, x.type) | _ => none
theorem fieldB_spec {P : Program} {s : TypeId} {f off : Nat} {ft : TypeId} (hf : fieldB P s f = some (off, ft)) : ∃ fs fd, P.underlying s = some (.struct fs) ∧ fs[f]? = some fd ∧ fd.offset = off ∧ fd.type = ft := by
  unfold fieldB at hf
  split at hf
  · rename_i fs hu
    obtain ⟨fd, hfd, he⟩ := Option.map_eq_some_iff.1 hf
    injection he with h1 h2
    exact ⟨fs, fd, hu, hfd, h1, h2⟩
  · cases hf

theorem Addr_add_mid (g o k : Nat) : (⟨g, o, none⟩ : Addr).add k = ⟨g, o + k, none⟩ := by
  unfold Addr.add
  split
  · rename_i h; subst h; rfl
  · rfl
/-- Further on. -/
def ahead (l : L) (k : Nat) : L := match l with
  | .ptr id i j => .ptr id i (j + k)
  | .pp cs => .pp (cs.drop k)
  | l => l
theorem ahead_spec {h : Heap} {μ : Pos} {w : World} {l : L} {p : Addr} {k : Nat} (r : RX Γ h μ w l (.pointer (some p))) (hb : (behind h l).isSome = true) (hlive : ∀ id ∈ idsL l, ∃ ab, h id = some (some ab)) (hk : ∀ cs, l = .pp cs → k < cs.length) :
    RX Γ h μ w (ahead l k) (.pointer (some (p.add k))) := by
  cases l with
  | ptr id i j =>
    rcases r with hd | ⟨ab, h1, g, hg, hp⟩
    · exact .inl hd
    · injection hp with hp; injection hp with hp
      subst hp
      exact .inr ⟨ab, h1, g, hg, by rw [Addr_add_mid, Nat.add_assoc]⟩
  | pp cs =>
    cases r with
    | pp _ p cells h4 h5 h6 =>
      refine RL.pp _ _ (fun j => cells (k + j)) (fun j l hl => ?_) (fun j l hl => ?_) (fun j l hl => ?_) <;> rw [List.getElem?_drop] at hl
      · obtain ⟨a1, a2⟩ := h4 _ l hl
        refine ⟨by rw [addBlk]; exact a1, ?_⟩
        have : (p.add k).add j = p.add (k + j) := by
          unfold Addr.add
          by_cases hk0 : k = 0
          · subst hk0; simp
          · by_cases hj0 : j = 0
            · subst hj0; simp [hk0]
            · simp [hk0, hj0]; omega
        rw [this]; exact a2
      · exact h5 _ l hl
      · exact h6 _ l hl
  | _ => simp [behind] at hb

theorem op_fieldAddr {s : TypeId} {x : Operand} {f off n : Nat} {ft : TypeId} {l : L} {cs : List L} (ho : o.op = .fieldAddr s x f) (hx : evalT tm x = .leaf l) (hf : fieldB P s f = some (off, ft)) (hn : sizeB P ft = some n) (hn0 : n ≠ 0)
    (hb : behind h l = some cs) (hk : off < cs.length) : OpT Γ P o tm h ⟨.leaf (ahead l off), idsL l, []⟩ :=
  OpT.of_pure fun tm' h' μ a w h1 h2 I F => by
    have r := F.at' h1 (x := x) (by simp [ho, Op.operands])
    rw [hx] at r
    have hb' : behind h' l = some cs := by rw [behind_congr h2]; exact hb
    obtain ⟨p, hp, _⟩ := behind_spec I (l := l) r hb'
    obtain ⟨fs, fd, hu, hfd, rfl, rfl⟩ := fieldB_spec hf
    rw [hp] at r
    refine ⟨.pointer (some (p.add fd.offset)), ?_, ahead_spec r (by rw [hb']; rfl) (fun id hid => ?_) (fun cs' he => ?_)⟩
    · simp [execOp, ho, hp, Instr.fieldAt, run_underlying hu, hfd, Instr.sureAddr, fieldPlace, run_sizeB hn, hn0]
    · cases l <;> simp [idsL, behind] at hid hb'
      subst hid
      split at hb'
      · exact ⟨_, ‹_›⟩
      · cases hb'
    · subst he
      simp [behind] at hb; subst hb; exact hk

theorem run_part {P : Program} {t : TypeId} {h : Heap} {μ : Pos} {w : World} {ls : List L} {cs : Array Value} {off : Nat} {v : T} (hs : cs.size = ls.length) (hr : ∀ (j : Nat) (l : L), ls[j]? = some l → ∃ v, cs[j]? = some v ∧ RXc Γ h μ w l v)
    (hv : takeT P t (ls.drop off) = some v) : ∃ u, (part t cs off).run P w = .ok u w ∧ RT Γ h μ w v u := by
  unfold takeT at hv
  split at hv
  · rename_i n ha hn
    split at hv
    · rename_i hle
      injection hv with hv; subst hv
      simp at hle
      refine ⟨.agg (cs.extract off (off + n)), by simp [part, run_isAgg ha, run_sizeB hn], ⟨_, rfl, by simp [hs]; omega, fun j l hl => ?_⟩⟩
      rw [List.getElem?_take] at hl
      split at hl
      · rename_i hj
        rw [List.getElem?_drop] at hl
        obtain ⟨u, hu, hx⟩ := hr _ l hl
        refine ⟨u, ?_, hx⟩
        rw [Array.getElem?_extract, if_pos (by omega)]
        exact hu
      · cases hl
    · cases hv
  · rename_i ha
    split at hv
    · rename_i l r heq
      injection hv with hv; subst hv
      have : ls[off]? = some l := by
        have := congrArg (fun z => z[0]?) heq
        simpa using this
      obtain ⟨u, hu, hx⟩ := hr _ l this
      exact ⟨u, by simp [part, run_isAgg ha, hu], hx.2⟩
    · cases hv
  · cases hv

theorem op_field {s : TypeId} {x : Operand} {f off : Nat} {ft : TypeId} {ls : List L} {v : T} (ho : o.op = .field s x f) (hx : evalT tm x = .agg ls) (hf : fieldB P s f = some (off, ft)) (hv : takeT P ft (ls.drop off) = some v) : OpT Γ P o tm h ⟨v, [], []⟩ :=
  OpT.of_pure fun tm' h' μ a w h1 h2 I F => by
    have r := F.at' h1 (x := x) (by simp [ho, Op.operands])
    rw [hx] at r
    obtain ⟨cs, hu, hs, hr⟩ := r
    obtain ⟨fs, fd, hud, hfd, rfl, rfl⟩ := fieldB_spec hf
    obtain ⟨u, h3, h4⟩ := run_part hs hr hv
    exact ⟨u, by simp [execOp, ho, hu, Instr.field, run_underlying hud, hfd, asAgg, h3], h4⟩

theorem op_extract {x : Operand} {i : Nat} {ts : List T} {v : T} (ho : o.op = .extract x i) (hx : evalT tm x = .tup ts) (hv : ts[i]? = some v) (hnt : ∀ us, v ≠ .tup us) : OpT Γ P o tm h ⟨v, [], []⟩ :=
  OpT.of_pure fun tm' h' μ a w h1 h2 I F => by
    have r := F.at' h1 (x := x) (by simp [ho, Op.operands])
    rw [hx] at r
    obtain ⟨vs, hu, hs, hr⟩ := r
    obtain ⟨u, h3, h4⟩ := hr i v hv
    refine ⟨u, by simp [execOp, ho, hu, Instr.extract, h3], ?_⟩
    cases v with
    | tup us => exact absurd rfl (hnt us)
    | _ => exact h4
end
end Go.Proofs.Ytfppilpaaoklaaa
