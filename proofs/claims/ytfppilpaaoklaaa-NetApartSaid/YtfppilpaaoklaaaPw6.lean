/- What each kind of operation does to plain values: slices. -/
import Derived.Test.YtfppilpaaoklaaaPw5
namespace Go.Proofs.Ytfppilpaaoklaaa
set_option linter.unusedSimpArgs false
set_option linter.unusedVariables false
open Go Go.RowKit
variable {Γ : Ctx}

def isNilSl : Value → Bool
  | .slice a n c => a.isNone && n == 0 && c == 0
  | _ => false
theorem isNilSl_spec {v : Value} (h : isNilSl v = true) : v = .slice none 0 0 := by
  cases v <;> simp [isNilSl] at h
  obtain ⟨⟨rfl, rfl⟩, rfl⟩ := h
  rfl
/-- A slice's elements. -/
def rowsOf (h : Heap) : L → Option (List (List L))
  | .sl es => some es
  | .own id _ _ => match h id with | some (some ab) => some ab.es | _ => none
  | .row id lo n => match h id with | some (some ab) => some ((ab.es.drop lo).take n) | _ => none
  | .sc v => if isNilSl v = true then some [] else none
  | .arow id i j n => match h id with | some (some ab) => (ab.es[i]?).map fun e => ((e.drop j).take n).map fun x => [x] | _ => none
  | _ => none
theorem rowsOf_congr {h h' : Heap} {l : L} (hs : ∀ id ∈ idsL l, h' id = h id) : rowsOf h' l = rowsOf h l := by
  cases l with
  | own id s n => simp only [rowsOf]; rw [hs id (by simp [idsL])]
  | row id s n => simp only [rowsOf]; rw [hs id (by simp [idsL])]
  | arow id i s n => simp only [rowsOf]; rw [hs id (by simp [idsL])]
  | _ => rfl

theorem Addr_add_add (p : Addr) (a b : Nat) : (p.add a).add b = p.add (a + b) := by
  unfold Addr.add
  by_cases ha : a = 0
  · subst ha; simp
  · by_cases hb : b = 0
    · subst hb; simp [ha]
    · simp [ha, hb]; omega

structure Reads (Γ : Ctx) (h : Heap) (μ : Pos) (w : World) (es : List (List L)) (A : Option Addr) (c s : Nat) : Prop where
  cap : es.length ≤ c
  len : ∀ e ∈ es, e.length = s
  nil : A = none → es = []
  at_ : ∀ i e j x, es[i]? = some e → e[j]? = some x → ∃ p v, A = some p ∧ w.cell? (p.add (i * s + j)) = some v ∧ RXc Γ h μ w x v

theorem rows_spec {h : Heap} {μ : Pos} {w : World} (I : Inv Γ h μ w) {l : L} {u : Value} (r : RX Γ h μ w l u) {es : List (List L)} (hb : rowsOf h l = some es) : ∃ A c s, u = .slice A es.length c ∧ Reads Γ h μ w es A c s := by
  -- out of a block
  have block : ∀ (ab : AB) (id g : Nat) (lo n : Nat) (A : Option Addr), h id = some (some ab) → lo + n ≤ ab.es.length → μ id = some g → (0 < n → A = some ((⟨g, 0, none⟩ : Addr).add (lo * ab.s))) → ∀ c, n ≤ c → Reads Γ h μ w ((ab.es.drop lo).take n) A c ab.s := by
    intro ab id g lo n A hi hle hg hA c hc
    refine ⟨by simp; omega, fun e he => I.len id ab hi e (List.mem_of_mem_drop (List.mem_of_mem_take he)), fun h0 => ?_, fun i e j x he hx => ?_⟩
    · rcases Nat.eq_zero_or_pos n with h | h
      · rw [h]; rfl
      · rw [hA h] at h0; cases h0
    rw [List.getElem?_take] at he
    split at he
    · rename_i hin
      rw [List.getElem?_drop] at he
      rcases I.at_ id ab hi with ⟨h0, _⟩ | ⟨g', cur, hg', hw, hl, hr⟩
      · rw [h0] at he; simp at he
      · rw [hg] at hg'; cases hg'
        obtain ⟨v, hv, hx'⟩ := hr _ e j x he hx
        refine ⟨_, v, hA (by omega), ?_, hx'⟩
        rw [Addr_add_add, Addr_add_mid]
        simp only [World.cell?, hw, Nat.zero_add]
        rw [show lo * ab.s + (i * ab.s + j) = (lo + i) * ab.s + j by rw [Nat.add_mul]; omega]
        simp [hv]
    · cases he
  cases l with
  | sl es' =>
    simp [rowsOf] at hb; subst hb
    cases r with
    | sl _ A n c s cells h1 h2 h3 h4 h5 h6 h7 =>
      subst h1
      exact ⟨A, c, s, rfl, ⟨h2, h3, h7, fun i e j x he hx => by
        obtain ⟨p, hp, _, hc⟩ := h4 i e j x he hx
        exact ⟨p, _, hp, hc, h6 i e j x he hx, (h5 i e j x he hx).rx⟩⟩⟩
  | own id s n =>
    simp only [rowsOf] at hb
    split at hb
    · rename_i ab hi
      injection hb with hb; subst hb
      rcases r with hd | ⟨ab', h1, hs, hn, r⟩
      · rw [hi] at hd; cases hd
      · rw [hi] at h1; injection h1 with h1; injection h1 with h1; subst h1
        rcases r with ⟨rfl, A, rfl⟩ | ⟨g, cap, cur, hg, rfl, hw, hcs, hc, hm⟩
        · have h0 : ab.es = [] := List.eq_nil_of_length_eq_zero hn
          refine ⟨A, 0, 0, by rw [h0]; rfl, ⟨by rw [h0]; simp, fun e he => (by rw [h0] at he; cases he), fun _ => h0, fun i e j x he => (by rw [h0] at he; simp at he)⟩⟩
        · refine ⟨_, cap, ab.s, by rw [hn], ?_⟩
          have := block ab id g 0 n (some ⟨g, 0, none⟩) hi (by omega) hg (fun _ => by simp [Addr.add]) cap hc
          rw [List.drop_zero, ← hn, List.take_length] at this
          exact this
    · cases hb
  | row id lo n =>
    simp only [rowsOf] at hb
    split at hb
    · rename_i ab hi
      injection hb with hb; subst hb
      rcases r with hd | ⟨ab', h1, hle, A, c, rfl, hc, hg⟩
      · rw [hi] at hd; cases hd
      · rw [hi] at h1; injection h1 with h1; injection h1 with h1; subst h1
        have hlen : ((ab.es.drop lo).take n).length = n := by simp; omega
        by_cases hn : 0 < n
        · obtain ⟨g, hg1, hA⟩ := hg hn
          exact ⟨A, c, ab.s, by rw [hlen], block ab id g lo n A hi hle hg1 (fun _ => hA) c hc⟩
        · obtain rfl : n = 0 := by omega
          exact ⟨A, c, ab.s, by simp, ⟨by simp, fun e he => (by simp at he), fun _ => by simp, fun i e j x he => (by simp at he)⟩⟩
    · cases hb
  | arow id i j n =>
    simp only [rowsOf] at hb
    split at hb
    · rename_i ab hi
      obtain ⟨e0, he0, rfl⟩ := Option.map_eq_some_iff.1 hb
      rcases r with hd | ⟨ab', h1, hil, hjn, A, c, rfl, hc, hg⟩
      · rw [hi] at hd; cases hd
      · rw [hi] at h1; injection h1 with h1; injection h1 with h1; subst h1
        have hel : e0.length = ab.s := I.len id ab hi e0 (List.mem_of_getElem? he0)
        have hlen : (((e0.drop j).take n).map fun x => [x]).length = n := by simp; omega
        refine ⟨A, c, 1, by rw [hlen], ⟨by rw [hlen]; exact hc, fun e he => ?_, fun h0 => ?_, fun k e m x he hx => ?_⟩⟩
        · obtain ⟨y, _, rfl⟩ := List.mem_map.1 he; rfl
        · rcases Nat.eq_zero_or_pos n with h | h
          · rw [h]; rfl
          · obtain ⟨g, _, hA⟩ := hg h
            rw [hA] at h0; cases h0
        · rw [List.getElem?_map] at he
          obtain ⟨y, hy, rfl⟩ := Option.map_eq_some_iff.1 he
          rcases m with _ | m
          · simp at hx; subst hx
            rw [List.getElem?_take] at hy
            split at hy
            · rename_i hkn
              rw [List.getElem?_drop] at hy
              obtain ⟨g, hg1, hA⟩ := hg (by omega)
              rcases I.at_ id ab hi with ⟨h0, _⟩ | ⟨g', cur, hg', hw, hl, hr⟩
              · rw [h0] at hil; simp at hil
              · rw [hg1] at hg'; cases hg'
                obtain ⟨v, hv, hx'⟩ := hr i e0 (j + k) y he0 hy
                refine ⟨_, v, hA, ?_, hx'⟩
                rw [Addr_add_mid]
                simp only [World.cell?, hw]
                rw [show i * ab.s + j + (k * 1 + 0) = i * ab.s + (j + k) by omega]
                simp [hv]
            · cases hy
          · simp at hx
    · cases hb
  | sc v =>
    simp only [rowsOf] at hb
    split at hb
    · rename_i heq
      injection hb with hb; subst hb
      obtain rfl := isNilSl_spec heq
      cases r
      exact ⟨none, 0, 0, rfl, ⟨by simp, fun e he => (by simp at he), fun _ => rfl, fun i e j x he => (by simp at he)⟩⟩
    · cases hb
  | _ => simp [rowsOf] at hb

def elemB (P : Program) (t : TypeId) : Option TypeId := match P.underlying t with | some (.slice e) => some e | _ => none
theorem elemB_spec {P : Program} {t e : TypeId} (h : elemB P t = some e) : P.underlying t = some (.slice e) := by
  unfold elemB at h
  split at h
  · injection h with h; subst h; assumption
  · cases h
def arrB (P : Program) (t : TypeId) : Option (Nat × TypeId) := match P.underlying t with | some (.array n e) => some (n, e) | _ => none
theorem arrB_spec {P : Program} {t e : TypeId} {n : Nat} (h : arrB P t = some (n, e)) : P.underlying t = some (.array n e) := by
  unfold arrB at h
  split at h
  · injection h with h; cases h; assumption
  · cases h

section
variable {P : Program} {o : Oper} {tm : List T} {h : Heap}

theorem op_len {x : Operand} {t : TypeId} {l : L} {es : List (List L)} (ho : o.op = .call { callee := .builtin .len, args := #[x], argTypes := #[t] }) (ht : (elemB P t).isSome = true) (hx : evalT tm x = .leaf l) (hr : rowsOf h l = some es) :
    OpT Γ P o tm h ⟨.leaf (.sc (.int .i64 (es.length : Int))), idsL l, []⟩ :=
  OpT.of_pure fun tm' h' μ a w h1 h2 I F => by
    have r := F.at' h1 (x := x) (by simp [ho, Op.operands, Call.operands])
    rw [hx] at r
    obtain ⟨A, c, s, hu, _⟩ := rows_spec I (l := l) r (by rw [rowsOf_congr h2]; exact hr)
    obtain ⟨e, he⟩ := Option.isSome_iff_exists.1 ht
    refine ⟨_, ?_, RT.sc _⟩
    simp [execOp, ho, resolve, invoke, builtin, Builtin.len_, hu, run_underlying (elemB_spec he), goInt]

/-- The address of an element. -/
def elemL (l : L) (i : Nat) (e : List L) : L := match l with
  | .own id _ _ => .ptr id i 0
  | .row id lo _ => .ptr id (lo + i) 0
  | .arow id k j _ => .ptr id k (j + i)
  | _ => .pp e
theorem elem_spec {h : Heap} {μ : Pos} {w : World} (I : Inv Γ h μ w) {l : L} {A : Option Addr} {n c s : Nat} (r : RX Γ h μ w l (.slice A n c)) {es : List (List L)} (hb : rowsOf h l = some es) (R : Reads Γ h μ w es A c s) {i : Nat} {e : List L} (he : es[i]? = some e) (hs : s ≠ 0) :
    ∃ p, A = some p ∧ RX Γ h μ w (elemL l i e) (.pointer (some (p.add (i * s)))) := by
  have hil : i < es.length := (List.getElem?_eq_some_iff.1 he).1
  have hlen := R.len e (List.mem_of_getElem? he)
  obtain ⟨x, hx⟩ : ∃ x, e[0]? = some x := ⟨e[0]'(by omega), List.getElem?_eq_getElem _⟩
  obtain ⟨p, _, hp, _⟩ := R.at_ i e 0 x he hx
  subst hp
  refine ⟨p, rfl, ?_⟩
  cases l with
  | own id s' n' =>
    simp only [rowsOf] at hb
    split at hb
    · rename_i ab hi
      injection hb with hb; subst hb
      rcases r with hd | ⟨ab', h1, hs', hn, r⟩
      · rw [hi] at hd; cases hd
      · rw [hi] at h1; injection h1 with h1; injection h1 with h1; subst h1
        rcases r with ⟨rfl, A, hA⟩ | ⟨g, cap, cur, hg, hu, hw, hcs, hc, hm⟩
        · omega
        · injection hu with hu1 _ _; injection hu1 with hu1; subst hu1
          have hss : s = ab.s := by rw [← hlen]; exact I.len id ab hi e (List.mem_of_getElem? he)
          exact .inr ⟨ab, hi, g, hg, by rw [Addr_add_mid, hss]; simp⟩
    · cases hb
  | row id lo n' =>
    simp only [rowsOf] at hb
    split at hb
    · rename_i ab hi
      injection hb with hb; subst hb
      rcases r with hd | ⟨ab', h1, hle, A, c', hu, hc, hg⟩
      · rw [hi] at hd; cases hd
      · rw [hi] at h1; injection h1 with h1; injection h1 with h1; subst h1
        injection hu with hu1 hu2 hu3
        have hn0 : 0 < n' := by simp at hil; omega
        obtain ⟨g, hg1, hA⟩ := hg hn0
        rw [hA] at hu1; injection hu1 with hu1; subst hu1
        have hss : s = ab.s := by
          rw [← hlen]
          exact I.len id ab hi e (List.mem_of_mem_drop (List.mem_of_mem_take (List.mem_of_getElem? he)))
        refine .inr ⟨ab, hi, g, hg1, ?_⟩
        rw [Addr_add_add, Addr_add_mid, hss, Nat.add_mul]; simp
    · cases hb
  | arow id k j n' =>
    simp only [rowsOf] at hb
    split at hb
    · rename_i ab hi
      obtain ⟨e0, he0, rfl⟩ := Option.map_eq_some_iff.1 hb
      rcases r with hd | ⟨ab', h1, hil', hjn, A, c', hu, hc, hg⟩
      · rw [hi] at hd; cases hd
      · rw [hi] at h1; injection h1 with h1; injection h1 with h1; subst h1
        injection hu with hu1 hu2 hu3
        have hn0 : 0 < n' := by simp at hil; omega
        obtain ⟨g, hg1, hA⟩ := hg hn0
        rw [hA] at hu1; injection hu1 with hu1; subst hu1
        have hss : s = 1 := by
          rw [← hlen]
          have := List.mem_of_getElem? he
          obtain ⟨y, _, rfl⟩ := List.mem_map.1 this; rfl
        refine .inr ⟨ab, hi, g, hg1, ?_⟩
        rw [Addr_add_mid, hss, Nat.mul_one, Nat.add_assoc]
    · cases hb
  | sl es' =>
    simp [rowsOf] at hb; subst hb
    cases r with
    | sl _ _ _ _ s' cells h1 h2 h3 h4 h5 h6 h7 =>
      have hss : s' = s := by rw [← hlen]; exact (h3 e (List.mem_of_getElem? he)).symm
      subst hss
      refine RL.pp _ _ (fun j => cells i j) (fun j x hx => ?_) (fun j x hx => h5 i e j x he hx) (fun j x hx => h6 i e j x he hx)
      obtain ⟨p', hp', hB, hc⟩ := h4 i e j x he hx
      injection hp' with hp'; subst hp'
      exact ⟨by rw [addBlk]; exact hB, by rw [Addr_add_add]; exact hc⟩
  | sc v =>
    simp only [rowsOf] at hb
    split at hb
    · injection hb with hb; subst hb; simp at hil
    · cases hb
  | _ => simp [rowsOf] at hb

theorem op_indexAddr {t e' : TypeId} {x y : Operand} {l : L} {es : List (List L)} {k : IntKind} {i : Int} {e : List L} {s : Nat} (ho : o.op = .indexAddr t x y) (ht : elemB P t = some e') (hs : sizeB P e' = some s) (hx : evalT tm x = .leaf l) (hy : evalT tm y = .leaf (.sc (.int k i)))
    (hr : rowsOf h l = some es) (h0 : 0 ≤ i) (he : es[i.toNat]? = some e) (hsz : e.length = s) (hs0 : s ≠ 0) : OpT Γ P o tm h ⟨.leaf (elemL l i.toNat e), idsL l, []⟩ :=
  OpT.of_pure fun tm' h' μ a w h1 h2 I F => by
    have r := F.at' h1 (x := x) (by simp [ho, Op.operands])
    rw [hx] at r
    have r2 := F.at' h1 (x := y) (by simp [ho, Op.operands])
    rw [hy] at r2
    have hyv := RT.sc_inv r2
    have hr' : rowsOf h' l = some es := by rw [rowsOf_congr h2]; exact hr
    obtain ⟨A, c, s', hu, R⟩ := rows_spec I (l := l) r hr'
    obtain rfl : s' = s := by rw [← hsz]; exact (R.len e (List.mem_of_getElem? he)).symm
    rw [hu] at r
    obtain ⟨p, rfl, hp⟩ := elem_spec I (l := l) r hr' R he hs0
    have hil : i.toNat < es.length := (List.getElem?_eq_some_iff.1 he).1
    refine ⟨_, ?_, hp⟩
    have hlt : 0 ≤ i ∧ i < (es.length : Int) := ⟨h0, by omega⟩
    simp [execOp, ho, hu, hyv, Instr.indexAt, asIntOf, run_underlying (elemB_spec ht), run_sizeB hs, hlt]

/-- Of an array behind an address. -/
theorem op_indexAddrA {t e' : TypeId} {x y : Operand} {l : L} {cs : List L} {k : IntKind} {i : Int} {s n : Nat} (ho : o.op = .indexAddr t x y) (ht : arrB P t = some (n, e')) (hs : sizeB P e' = some s) (hx : evalT tm x = .leaf l) (hy : evalT tm y = .leaf (.sc (.int k i)))
    (hb : behind h l = some cs) (h0 : 0 ≤ i) (hi : i.toNat < n) (hk : i.toNat * s < cs.length) : OpT Γ P o tm h ⟨.leaf (ahead l (i.toNat * s)), idsL l, []⟩ :=
  OpT.of_pure fun tm' h' μ a w h1 h2 I F => by
    have r := F.at' h1 (x := x) (by simp [ho, Op.operands])
    rw [hx] at r
    have r2 := F.at' h1 (x := y) (by simp [ho, Op.operands])
    rw [hy] at r2
    have hyv := RT.sc_inv r2
    have hb' : behind h' l = some cs := by rw [behind_congr h2]; exact hb
    obtain ⟨p, hp, _⟩ := behind_spec I (l := l) r hb'
    rw [hp] at r
    refine ⟨.pointer (some (p.add (i.toNat * s))), ?_, ahead_spec r (by rw [hb']; rfl) (fun id hid => ?_) (fun cs' he => ?_)⟩
    · have hlt : 0 ≤ i ∧ i < (n : Int) := ⟨h0, by omega⟩
      simp [execOp, ho, hp, hyv, Instr.indexAt, asIntOf, run_underlying (arrB_spec ht), run_sizeB hs, hlt, Instr.sureAddr]
    · cases l <;> simp [idsL, behind] at hid hb'
      subst hid
      split at hb'
      · exact ⟨_, ‹_›⟩
      · cases hb'
    · subst he
      simp [behind] at hb; subst hb; exact hk

theorem op_indexA {t e' : TypeId} {x y : Operand} {ls : List L} {k : IntKind} {i : Int} {s n : Nat} {v : T} (ho : o.op = .index t x y) (ht : arrB P t = some (n, e')) (hs : sizeB P e' = some s) (hx : evalT tm x = .agg ls) (hy : evalT tm y = .leaf (.sc (.int k i)))
    (h0 : 0 ≤ i) (hi : i.toNat < n) (hv : takeT P e' (ls.drop (i.toNat * s)) = some v) : OpT Γ P o tm h ⟨v, [], []⟩ :=
  OpT.of_pure fun tm' h' μ a w h1 h2 I F => by
    have r := F.at' h1 (x := x) (by simp [ho, Op.operands])
    rw [hx] at r
    have r2 := F.at' h1 (x := y) (by simp [ho, Op.operands])
    rw [hy] at r2
    have hyv := RT.sc_inv r2
    obtain ⟨cs, hu, hsz, hr⟩ := r
    obtain ⟨u, h3, h4⟩ := run_part hsz hr hv
    refine ⟨u, ?_, h4⟩
    have hlt : 0 ≤ i ∧ i < (n : Int) := ⟨h0, by omega⟩
    simp [execOp, ho, hu, hyv, Instr.index, asIntOf, run_underlying (arrB_spec ht), run_sizeB hs, hlt, h3]

/-! ### Cuts -/
/-- A bound: none, or a number. -/
def boundOf (tm : List T) : Option Operand → Option (Option Int)
  | none => some none
  | some x => match evalT tm x with | .leaf (.sc (.int _ n)) => some (some n) | _ => none
/-- The piece from lo to hi. -/
def cutL (l : L) (lo hi : Nat) : L := match l with
  | .own id _ _ => .row id lo (hi - lo)
  | .row id lo' _ => .row id (lo' + lo) (hi - lo)
  | .arow id i j _ => .arow id i (j + lo) (hi - lo)
  | .sl es => .sl ((es.drop lo).take (hi - lo))
  | _ => .sl []

theorem cut_spec {h : Heap} {μ : Pos} {w : World} (I : Inv Γ h μ w) {l : L} {A : Option Addr} {n c s : Nat} (r : RX Γ h μ w l (.slice A n c)) {es : List (List L)} (hb : rowsOf h l = some es) (R : Reads Γ h μ w es A c s) {lo hi c' : Nat} {A' : Option Addr} (h1 : lo ≤ hi) (h2 : hi ≤ es.length)
    (hc : hi - lo ≤ c') (s' : Nat) (hs' : (∀ e ∈ es, e.length = s') ∨ es = []) (hA : lo < hi → A' = A.map (·.add (lo * s'))) : RX Γ h μ w (cutL l lo hi) (.slice A' (hi - lo) c') := by
  cases l with
  | own id s0 n' =>
    simp only [rowsOf] at hb
    split at hb
    · rename_i ab hi'
      injection hb with hb; subst hb
      rcases r with hd | ⟨ab', k1, hs, hn, r⟩
      · rw [hi'] at hd; cases hd
      · rw [hi'] at k1; injection k1 with k1; injection k1 with k1; subst k1
        refine .inr ⟨ab, hi', by omega, A', c', rfl, hc, fun hlt => ?_⟩
        rcases r with ⟨rfl, _, _⟩ | ⟨g, cap, cur, hg, hu, hw, hcs, hcc, hm⟩
        · omega
        · injection hu with hu1 _ _; subst hu1
          refine ⟨g, hg, ?_⟩
          rw [hA (by omega)]
          have : s' = ab.s := by
            rcases hs' with hs' | h0
            · have hne : 0 < ab.es.length := by omega
              rw [← hs' ab.es[0] (List.getElem_mem hne)]
              exact I.len id ab hi' _ (List.getElem_mem hne)
            · rw [h0] at h2; simp at h2; omega
          rw [this]; rfl
    · cases hb
  | row id lo' n' =>
    simp only [rowsOf] at hb
    split at hb
    · rename_i ab hi'
      injection hb with hb; subst hb
      rcases r with hd | ⟨ab', k1, hle, A0, c0, hu, hcc, hg⟩
      · rw [hi'] at hd; cases hd
      · rw [hi'] at k1; injection k1 with k1; injection k1 with k1; subst k1
        have hlen : ((ab.es.drop lo').take n').length = n' := by simp; omega
        rw [hlen] at h2
        refine .inr ⟨ab, hi', by omega, A', c', rfl, hc, fun hlt => ?_⟩
        injection hu with hu1 hu2 hu3
        subst hu1
        obtain ⟨g, hg1, hA0⟩ := hg (by omega)
        refine ⟨g, hg1, ?_⟩
        rw [hA (by omega), hA0]
        have : s' = ab.s := by
          have hne : 0 < ((ab.es.drop lo').take n').length := by omega
          rcases hs' with hs' | h0
          · rw [← hs' _ (List.getElem_mem hne)]
            exact I.len id ab hi' _ (List.mem_of_mem_drop (List.mem_of_mem_take (List.getElem_mem hne)))
          · rw [h0] at hne; simp at hne
        rw [this, Option.map_some, Addr_add_add, Nat.add_mul]
    · cases hb
  | arow id k j n' =>
    simp only [rowsOf] at hb
    split at hb
    · rename_i ab hi'
      obtain ⟨e0, he0, rfl⟩ := Option.map_eq_some_iff.1 hb
      rcases r with hd | ⟨ab', k1, hil', hjn, A0, c0, hu, hcc, hg⟩
      · rw [hi'] at hd; cases hd
      · rw [hi'] at k1; injection k1 with k1; injection k1 with k1; subst k1
        have hel : e0.length = ab.s := I.len id ab hi' e0 (List.mem_of_getElem? he0)
        have hlen : (((e0.drop j).take n').map fun x => [x]).length = n' := by simp; omega
        rw [hlen] at h2
        refine .inr ⟨ab, hi', hil', by omega, A', c', rfl, hc, fun hlt => ?_⟩
        injection hu with hu1 hu2 hu3
        subst hu1
        obtain ⟨g, hg1, hA0⟩ := hg (by omega)
        refine ⟨g, hg1, ?_⟩
        rw [hA (by omega), hA0]
        have : s' = 1 := by
          rcases hs' with hs' | h0
          · have hne : 0 < (((e0.drop j).take n').map fun x => [x]).length := by omega
            rw [← hs' _ (List.getElem_mem hne)]
            simp
          · rw [h0] at hlen; simp at hlen; omega
        rw [this, Option.map_some, Addr_add_mid, Nat.mul_one, Nat.add_assoc]
    · cases hb
  | sl es' =>
    simp [rowsOf] at hb; subst hb
    cases r with
    | sl _ _ _ _ s0 cells k1 k2 k3 k4 k5 k6 k7 =>
      have pick : ∀ i e, ((es'.drop lo).take (hi - lo))[i]? = some e → es'[lo + i]? = some e ∧ i < hi - lo := fun i e he => by
        rw [List.getElem?_take] at he
        split at he
        · rw [List.getElem?_drop] at he; exact ⟨he, ‹_›⟩
        · cases he
      refine RL.sl _ A' _ c' s0 (fun i j => cells (lo + i) j) (by simp; omega) hc (fun e he => k3 e (List.mem_of_mem_drop (List.mem_of_mem_take he))) (fun i e j x he hx => ?_)
        (fun i e j x he hx => k5 _ e j x (pick i e he).1 hx) (fun i e j x he hx => k6 _ e j x (pick i e he).1 hx) (fun h0 => ?_)
      rotate_left
      · rcases Nat.lt_or_ge lo hi with h | h
        · rw [hA h] at h0
          cases A with
          | none => rw [k7 rfl]; simp
          | some p => cases h0
        · rw [show hi - lo = 0 by omega]; rfl
      obtain ⟨he', hlt⟩ := pick i e he
      obtain ⟨p, hp, hB, hc'⟩ := k4 _ e j x he' hx
      subst hp
      refine ⟨p.add (lo * s'), by rw [hA (by omega)]; rfl, by rw [addBlk]; exact hB, ?_⟩
      have : s' = s0 := by
        rcases hs' with hs' | h0
        · rw [← hs' e (List.mem_of_getElem? he')]; exact k3 e (List.mem_of_getElem? he')
        · rw [h0] at he'; simp at he'
      rw [this, Addr_add_add, ← Nat.add_assoc, ← Nat.add_mul]; exact hc'
  | sc v =>
    simp only [rowsOf] at hb
    split at hb
    · injection hb with hb; subst hb
      simp at h2; subst h2
      obtain rfl : lo = 0 := by omega
      exact RL.sl [] A' 0 c' 0 (fun _ _ => undef) rfl (Nat.zero_le _) (fun e he => (by cases he)) (fun i e j l he => (by simp at he)) (fun i e j l he => (by simp at he)) (fun i e j l he => (by simp at he)) (fun _ => rfl)
    · cases hb
  | _ => simp [rowsOf] at hb
end
end Go.Proofs.Ytfppilpaaoklaaa
