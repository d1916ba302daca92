/- The walk over plain values: operations. -/
import Derived.Test.YtfppilpaaoklaaaPw11
namespace Go.Proofs.Ytfppilpaaoklaaa
set_option linter.unusedSimpArgs false
set_option linter.unusedVariables false
open Go Go.RowKit
variable {Γ : Ctx}

structure St where
  tm : List T
  bl : List (Option AB)
abbrev St.h (σ : St) : Heap := hOf σ.bl
abbrev St.ev (σ : St) (x : Operand) : T := evalT σ.tm x
abbrev St.new (σ : St) : Nat := σ.bl.length

def applyW : List (Option AB) → List (Nat × Option AB) → List (Option AB)
  | bl, [] => bl
  | bl, (id, x) :: ws => applyW (if id < bl.length then bl.set id x else bl ++ [x]) ws
def St.app (σ : St) (dst : Option Tmp) (e : Eff) : St := ⟨putT σ.tm dst e.val, applyW σ.bl e.writes⟩
def Wok (bl : List (Option AB)) (ws : List (Nat × Option AB)) : Prop := hOf (applyW bl ws) = upd (hOf bl) ws

theorem wok_nil {bl : List (Option AB)} : Wok bl [] := rfl
theorem hOf_step {bl : List (Option AB)} {id : Nat} {x : Option AB} (h : id ≤ bl.length) : hOf (if id < bl.length then bl.set id x else bl ++ [x]) = upd (hOf bl) [(id, x)] := by
  funext i
  rw [upd_one]
  simp only [hOf]
  by_cases hl : id < bl.length
  · rw [if_pos hl, List.getElem?_set]
    by_cases hi : i = id
    · subst hi; simp [hl]
    · rw [if_neg (Ne.symm hi), if_neg hi]
  · have he : id = bl.length := by omega
    rw [if_neg hl]
    by_cases hi : i = id
    · subst hi; rw [he]; simp
    · rw [if_neg hi]
      rcases Nat.lt_or_ge i bl.length with h1 | h1
      · rw [List.getElem?_append_left h1]
      · rw [List.getElem?_append_right h1, List.getElem?_eq_none (by simp; omega), List.getElem?_eq_none h1]
theorem wok_one {bl : List (Option AB)} {id : Nat} {x : Option AB} (h : id ≤ bl.length) : Wok bl [(id, x)] := hOf_step h
theorem upd_cons {h : Heap} {id : Nat} {x : Option AB} {ws : List (Nat × Option AB)} (hn : id ∉ ws.map (·.1)) : upd h ((id, x) :: ws) = upd (upd h [(id, x)]) ws := by
  funext i
  by_cases hi : i = id
  · subst hi
    rw [upd_at hn, upd_one, if_pos rfl]
    simp [upd]
  · have : (i == id) = false := by simp [hi]
    simp only [upd, List.lookup, this]
theorem wok_cons {bl : List (Option AB)} {id : Nat} {x : Option AB} {ws : List (Nat × Option AB)} (h : id ≤ bl.length) (hn : id ∉ ws.map (·.1)) (hw : Wok (if id < bl.length then bl.set id x else bl ++ [x]) ws) : Wok bl ((id, x) :: ws) := by
  unfold Wok at *
  rw [applyW, hw, hOf_step h, upd_cons hn]
theorem hOf_none {bl : List (Option AB)} {i : Nat} (h : bl.length ≤ i) : hOf bl i = none := List.getElem?_eq_none h
theorem hOf_lt {bl : List (Option AB)} {i : Nat} {x : Option AB} (h : hOf bl i = some x) : i < bl.length := (List.getElem?_eq_some_iff.1 h).1
theorem wok_new {N : Nat} (ls : List AB) : ∀ (k : Nat) (bl : List (Option AB)), bl.length = N + k → Wok bl ((ls.zipIdx k).map fun (b, i) => (N + i, some (shiftB N b))) := by
  induction ls with
  | nil => intro k bl _; rfl
  | cons b ls ih =>
    intro k bl hb
    simp only [List.zipIdx_cons, List.map_cons]
    refine wok_cons (by omega) (fun hm => ?_) ?_
    · simp only [List.map_map, List.mem_map] at hm
      obtain ⟨⟨b', k'⟩, hk', he⟩ := hm
      have := List.mem_zipIdx hk'
      simp at he this
      omega
    · rw [if_neg (by omega)]
      exact ih (k + 1) _ (by simp; omega)
theorem wok_newIds {bl : List (Option AB)} {ls : List AB} : Wok bl (newIds bl.length ls) := wok_new (N := bl.length) ls 0 bl rfl

/-! ### What is reckoned -/
def bitsI (op : BinOp) (k : IntKind) (x y : Int) : Int :=
  k.wrap ((match op with
    | .and => BitVec.ofInt k.bits x &&& BitVec.ofInt k.bits y
    | .or => BitVec.ofInt k.bits x ||| BitVec.ofInt k.bits y
    | .xor => BitVec.ofInt k.bits x ^^^ BitVec.ofInt k.bits y
    | _ => BitVec.ofInt k.bits x &&& ~~~(BitVec.ofInt k.bits y)).toNat)
def shlI (k : IntKind) (x : Int) (n : Nat) : Int := k.wrap (x * 2 ^ (min n k.bits))
def shrI (k : IntKind) (x : Int) (n : Nat) : Int := x.fdiv (2 ^ (min n k.bits))
/-- Of two numbers of one kind: what must hold, and what comes of it. -/
def intV (op : BinOp) (k : IntKind) (a b : Int) : Option (Prop × Value) :=
  match op with
  | .add => some (True, .int k (k.wrap (a + b)))
  | .sub => some (True, .int k (k.wrap (a - b)))
  | .mul => some (True, .int k (k.wrap (a * b)))
  | .quo => some (b ≠ 0, .int k (k.wrap (a.tdiv b)))
  | .rem => some (b ≠ 0, .int k (a.tmod b))
  | .and => some (True, .int k (bitsI .and k a b))
  | .or => some (True, .int k (bitsI .or k a b))
  | .xor => some (True, .int k (bitsI .xor k a b))
  | .andNot => some (True, .int k (bitsI .andNot k a b))
  | .eql => some (True, .bool (a == b))
  | .neq => some (True, .bool (a != b))
  | .lss => some (True, .bool (decide (a < b)))
  | .leq => some (True, .bool (decide (a ≤ b)))
  | .gtr => some (True, .bool (decide (b < a)))
  | .geq => some (True, .bool (decide (b ≤ a)))
  | _ => none
def binV (P : Program) (op : BinOp) (xt : TypeId) (x y : Value) : Option (Prop × Value) :=
  match x, y with
  | .int k a, .int k' b => match op with
    | .shl => some (0 ≤ b, .int k (shlI k a b.toNat))
    | .shr => some (0 ≤ b, .int k (shrI k a b.toNat))
    | _ => if k = k' then intV op k a b else none
  | .string a, .string b => match op with
    | .eql => some (True, .bool (a.toList == b.toList))
    | .neq => some (True, .bool (!(a.toList == b.toList)))
    | _ => none
  | .bool a, .bool b => match op with
    | .eql => some (P.underlying xt = some .bool, .bool (a == b))
    | .neq => some (P.underlying xt = some .bool, .bool (!(a == b)))
    | _ => none
  | _, _ => none
theorem intV_spec {P : Program} {op : BinOp} {k : IntKind} {xt : TypeId} {a b : Int} {c : Prop} {v : Value} (h : intV op k a b = some (c, v)) (hc : c) (w : World) : (binOp op xt (.int k a) (.int k b)).run P w = .ok v w := by
  cases op <;> simp only [intV] at h <;> first | (cases h; done) | skip
  all_goals (injection h with h; injection h with h1 h2; subst h1 h2)
  all_goals (try (simp [binOp, Op.intArith, Op.intCmp]; done))
  · simp [binOp, Op.intDiv, hc]
  · simp [binOp, Op.intDiv, hc]
  all_goals (simp [binOp, Op.intBits, bitsI])
theorem run_equalIn_bool {P : Program} (w : World) (d : Nat) (t : TypeId) (a b : Bool) (h : P.underlying t = some .bool) : (Op.equalIn (d + 1) t (.bool a) (.bool b)).run P w = .ok (a == b) w := by
  simp [Op.equalIn, run_underlying h]
theorem run_equal_bool {P : Program} (w : World) (t : TypeId) (a b : Bool) (h : P.underlying t = some .bool) : (Op.equal t (.bool a) (.bool b)).run P w = .ok (a == b) w := run_equalIn_bool w 9999 t a b h
theorem binV_spec {P : Program} {op : BinOp} {xt : TypeId} {x y v : Value} {c : Prop} (h : binV P op xt x y = some (c, v)) (hc : c) : (∀ p q w, (eqGuard op xt p q x y).run P w = .ok () w) ∧ ∀ w, (binOp op xt x y).run P w = .ok v w := by
  refine ⟨fun p q w => ?_, fun w => ?_⟩
  · unfold binV at h
    split at h <;> first | (unfold eqGuard; split <;> rfl) | cases h
  · unfold binV at h
    split at h
    · rename_i k a k' b
      split at h
      · injection h with h; injection h with h1 h2; subst h1 h2
        have : ¬ b < 0 := by omega
        simp [binOp, Op.shift, this, shlI]
      · injection h with h; injection h with h1 h2; subst h1 h2
        have : ¬ b < 0 := by omega
        simp [binOp, Op.shift, this, shrI]
      · split at h
        · rename_i hk
          subst hk
          exact intV_spec h hc w
        · cases h
    · split at h
      · injection h with h; injection h with h1 h2; subst h1 h2
        simp [binOp, Op.stringOp]
      · injection h with h; injection h with h1 h2; subst h1 h2
        simp [binOp, Op.stringOp]
      · cases h
    · split at h
      · injection h with h; injection h with h1 h2; subst h1 h2
        simp [binOp, run_equal_bool w xt _ _ hc]
      · injection h with h; injection h with h1 h2; subst h1 h2
        simp [binOp, run_equal_bool w xt _ _ hc]
      · cases h
    · cases h

def unV (op : UnOp) (x : Value) : Option Value :=
  match op, x with
  | .neg, .int k n => some (.int k (k.wrap (0 - n)))
  | .xor, .int k n => some (.int k (bitsI .xor k (if k.signed then -1 else k.max) n))
  | .not, .bool b => some (.bool (!b))
  | _, _ => none
theorem unV_spec {P : Program} {op : UnOp} {x v : Value} (h : unV op x = some v) (w : World) : (Op.unary op x).run P w = .ok v w := by
  unfold unV at h
  split at h
  · injection h with h; subst h; simp [Op.unary, Op.intArith]
  · injection h with h; subst h; simp [Op.unary, Op.intBits, bitsI]
  · injection h with h; subst h; simp [Op.unary]
  · cases h
def intKindB (P : Program) (t : TypeId) : Option IntKind := match P.underlying t with | some (.int k) => some k | _ => none
theorem intKindB_spec {P : Program} {t : TypeId} {k : IntKind} (h : intKindB P t = some k) : P.underlying t = some (.int k) := by
  unfold intKindB at h
  split at h
  · injection h with h; subst h; assumption
  · cases h
theorem conv_spec {P : Program} {s d : TypeId} {k k' : IntKind} {n : Int} (hs : intKindB P s = some k') (hd : intKindB P d = some k) (w : World) : (convert s d (.int k' n)).run P w = .ok (.int k (k.wrap n)) w := by
  simp [convert, run_underlying (intKindB_spec hs), run_underlying (intKindB_spec hd), Conv.intToInt]

/-! ### Operations -/
section
variable (P : Program) (σ : St)
def aBin (op : BinOp) (xt : TypeId) (x y : Operand) (K : Eff → Prop) : Prop :=
  match scOf (σ.ev x), scOf (σ.ev y) with
  | some a, some b => match binV P op xt a b with
    | some (c, v) => c ∧ K ⟨.leaf (.sc v), [], []⟩
    | none => False
  | none, some v => match op, σ.ev x, elemB P xt with
    | .eql, .leaf l, some _ => match rowsOf σ.h l with
      | some es => isNilSl v = true ∧ K ⟨.leaf (.bb fun b => b = true → es = []), idsL l, []⟩
      | none => False
    | _, _, _ => False
  | _, _ => False
def aUn (op : UnOp) (x : Operand) (K : Eff → Prop) : Prop :=
  match scOf (σ.ev x) with
  | some a => match unV op a with
    | some v => K ⟨.leaf (.sc v), [], []⟩
    | none => False
  | none => False
def aConv (s d : TypeId) (x : Operand) (K : Eff → Prop) : Prop :=
  match intKindB P d with
  | some k => match σ.ev x with
    | .leaf (.sc (.int k' n)) => intKindB P s = some k' ∧ K ⟨.leaf (.sc (.int k (k.wrap n))), [], []⟩
    | _ => False
  | none => match elemB P s, σ.ev x with
    | some et, .leaf l => P.underlying d = some .string ∧ P.underlying et = some (.int .u8) ∧ ∃ bs, rowsOf σ.h l = some (bytesE bs) ∧ K ⟨.leaf (.sc (.string ⟨bs.toArray⟩)), idsL l, []⟩
    | _, _ => False
def aAlloc (t : TypeId) (K : Eff → Prop) : Prop :=
  match zeroC P t with
  | some z => K ⟨.leaf (.ptr σ.new 0 0), [], [(σ.new, some ⟨t, z.length, [z.map .sc]⟩)]⟩
  | none => False
def aBox (t : TypeId) (x : Operand) (K : Eff → Prop) : Prop :=
  match cellsT (σ.ev x) with
  | some ls => okT σ.h (σ.ev x) ∧ K ⟨.leaf (.ptr σ.new 0 0), idsT (σ.ev x), [(σ.new, some ⟨t, ls.length, [ls]⟩)]⟩
  | none => False
def aBuild (t : TypeId) (ps : Array (Nat × Operand)) (K : Eff → Prop) : Prop :=
  match partsT σ.tm ps.toList, zeroC P t, placesOf P t with
  | some qs, some z, some place => match fillL place (z.map .sc) qs with
    | some out => okPs σ.h σ.tm ps.toList ∧ K ⟨.agg out, idsPs σ.tm ps.toList, []⟩
    | none => False
  | _, _, _ => False
def aLoad (t : TypeId) (x : Operand) (K : Eff → Prop) : Prop :=
  match σ.ev x with
  | .leaf l => match behind σ.h l with
    | some cs => match takeT P t cs with
      | some v => K ⟨v, idsL l, []⟩
      | none => False
    | none => False
  | _ => False
def aStore (t : TypeId) (x y : Operand) (K : Eff → Prop) : Prop :=
  match σ.ev x with
  | .leaf (.ptr id i j) => match σ.h id with
    | some (some ab) => match ab.es[i]?, cellsT (σ.ev y) with
      | some e, some ls => okT σ.h (σ.ev y) ∧ sizeB P t = some ls.length ∧ j + ls.length ≤ e.length ∧ K ⟨undefT, id :: idsT (σ.ev y), [(id, some ⟨ab.t, ab.s, ab.es.set i (over e ls j)⟩)]⟩
      | _, _ => False
    | _ => False
  | _ => False
def aNil (x : Operand) (K : Eff → Prop) : Prop :=
  match σ.ev x with
  | .leaf (.sc (.func (.func f) fs cs)) => K ⟨.leaf (.sc (.func (.func f) fs cs)), [], []⟩
  | .leaf l => (behind σ.h l).isSome = true ∧ K ⟨.leaf l, idsL l, []⟩
  | _ => False
def aFieldAddr (s : TypeId) (x : Operand) (f : Nat) (K : Eff → Prop) : Prop :=
  match σ.ev x, fieldB P s f with
  | .leaf l, some (off, ft) => match behind σ.h l, sizeB P ft with
    | some cs, some n => n ≠ 0 ∧ off < cs.length ∧ K ⟨.leaf (ahead l off), idsL l, []⟩
    | _, _ => False
  | _, _ => False
def aField (s : TypeId) (x : Operand) (f : Nat) (K : Eff → Prop) : Prop :=
  match σ.ev x, fieldB P s f with
  | .agg ls, some (off, ft) => match takeT P ft (ls.drop off) with
    | some v => K ⟨v, [], []⟩
    | none => False
  | _, _ => False
def notTup : T → Bool
  | .tup _ => false
  | _ => true
def aExtract (x : Operand) (i : Nat) (K : Eff → Prop) : Prop :=
  match σ.ev x with
  | .tup ts => match ts[i]? with
    | some v => notTup v = true ∧ K ⟨v, [], []⟩
    | none => False
  | _ => False
def aIndexAddr (t : TypeId) (x y : Operand) (K : Eff → Prop) : Prop :=
  match σ.ev x, σ.ev y with
  | .leaf l, .leaf (.sc (.int k i)) => match elemB P t with
    | some e' => match sizeB P e', rowsOf σ.h l with
      | some s, some es => 0 ≤ i ∧ match es[i.toNat]? with
        | some e => e.length = s ∧ s ≠ 0 ∧ K ⟨.leaf (elemL l i.toNat e), idsL l, []⟩
        | none => False
      | _, _ => False
    | none => match arrB P t with
      | some (n, e') => match sizeB P e', behind σ.h l with
        | some s, some cs => 0 ≤ i ∧ i.toNat < n ∧ i.toNat * s < cs.length ∧ K ⟨.leaf (ahead l (i.toNat * s)), idsL l, []⟩
        | _, _ => False
      | none => False
  | _, _ => False
def aIndex (t : TypeId) (x y : Operand) (K : Eff → Prop) : Prop :=
  match σ.ev x, σ.ev y, arrB P t with
  | .agg ls, .leaf (.sc (.int k i)), some (n, e') => match sizeB P e' with
    | some s => 0 ≤ i ∧ i.toNat < n ∧ match takeT P e' (ls.drop (i.toNat * s)) with
      | some v => K ⟨v, [], []⟩
      | none => False
    | none => False
  | _, _, _ => False
def aSlice (t : TypeId) (x : Operand) (lo hi mx : Option Operand) (K : Eff → Prop) : Prop :=
  match σ.ev x, elemB P t, bnd σ.tm lo, bnd σ.tm hi, bnd σ.tm mx with
  | .leaf l, some e, some lo', some hi', some mx' => match sizeB P e, rowsOf σ.h l with
    | some s, some es => (mx'.isNone || hi'.isSome) = true ∧ 0 ≤ lo'.getD 0 ∧ lo'.getD 0 ≤ hi'.getD es.length ∧ hi'.getD es.length ≤ mx'.getD es.length ∧ mx'.getD es.length ≤ es.length ∧ (∀ x ∈ es, x.length = s) ∧
        K ⟨.leaf (cutL l (lo'.getD 0).toNat (hi'.getD es.length).toNat), idsL l, []⟩
    | _, _ => False
  | _, _, _, _, _ => False
def aMake (t : TypeId) (x y : Operand) (K : Eff → Prop) : Prop :=
  match σ.ev x, σ.ev y, eltyB P t with
  | .leaf (.sc (.int _ l)), .leaf (.sc (.int _ c)), some (e, s, bytes, z) => 0 ≤ l ∧ l ≤ c ∧ (bytes : Int) * c ≤ 140737488355328 ∧ c ≤ 140737488355328 ∧ K ⟨.leaf (.own σ.new s l.toNat), [], [(σ.new, some ⟨e, s, zeroRows z l.toNat⟩)]⟩
  | _, _, _ => False
def aBuildSlice (t : TypeId) (len : Nat) (ps : Array (Nat × Operand)) (K : Eff → Prop) : Prop :=
  if len = 0 then match eltyB P t with
    | some (e, s, _, _) => ps.toList = [] ∧ K ⟨.leaf (.own σ.new s 0), [], [(σ.new, some ⟨e, s, []⟩)]⟩
    | none => False
  else match eltyB P t, partsT σ.tm ps.toList with
  | some (e, s, bytes, z), some qs => match fillL (fun i => some (i * s, s)) (zeroRows z len).flatten qs with
    | some out => 0 < len ∧ len * s ≤ 16777216 ∧ okPs σ.h σ.tm ps.toList ∧ K ⟨.leaf (.own σ.new s len), idsPs σ.tm ps.toList, [(σ.new, some ⟨e, s, chunk s len out⟩)]⟩
    | none => False
  | _, _ => False
def ownIdsL : L → List Nat
  | .own id _ _ => [id]
  | _ => []
def ownIds : T → List Nat
  | .leaf l => ownIdsL l
  | .agg ls => ls.flatMap ownIdsL
  | .tup _ => []
def partIds (tm : List T) : List (Nat × Operand) → List Nat
  | [] => []
  | p :: ps => ownIds (evalT tm p.2) ++ partIds tm ps
/-- Rows that are written no more, first. -/
def aFrz (f : St → (Eff → Prop) → Prop) : List Nat → St → (Eff → Prop) → Prop
  | [], σ, K => f σ K
  | id :: ids, σ, K => match σ.h id with
    | some (some ab) => allP ab.es ∧ aFrz f ids ⟨σ.tm.map (frzT id ab.es), σ.bl.set id none⟩ fun e => e.wids.contains id = false ∧ K ⟨e.val, id :: e.reads, (id, none) :: e.writes⟩
    | _ => aFrz f ids σ K
def aLen (x : Operand) (t : TypeId) (K : Eff → Prop) : Prop :=
  match σ.ev x with
  | .leaf l => match rowsOf σ.h l with
    | some es => (elemB P t).isSome = true ∧ K ⟨.leaf (.sc (.int .i64 (es.length : Int))), idsL l, []⟩
    | none => False
  | _ => False
def ontoB (h : Heap) (e : TypeId) (s : Nat) : L → Option (List (List L) × List (Nat × Option AB))
  | .sc v => if isNilSl v = true then some ([], []) else none
  | .own id s' n => match h id with
    | some (some ab) => if ab.t = e ∧ ab.s = s ∧ s' = s ∧ n = ab.es.length then some (ab.es, [(id, none)]) else none
    | _ => none
  | _ => none
theorem ontoB_spec {h : Heap} {e : TypeId} {s : Nat} {l : L} {es : List (List L)} {ws : List (Nat × Option AB)} (hh : ontoB h e s l = some (es, ws)) : Onto h e s l es ws := by
  unfold ontoB at hh
  split at hh
  · split at hh
    · injection hh with hh; injection hh with h1 h2; subst h1 h2
      exact .nil _ ‹_›
    · cases hh
  · split at hh
    · rename_i id s' n _ ab hab
      split at hh
      · rename_i hc
        obtain ⟨h1, h2, h3, h4⟩ := hc
        injection hh with hh; injection hh with q1 q2; subst q1 q2 h3 h4
        exact .own id ab hab h1 h2
      · cases hh
    · cases hh
  · cases hh
def aAppend (x y : Operand) (t t' : TypeId) (K : Eff → Prop) : Prop :=
  match σ.ev x, σ.ev y, eltyB P t with
  | .leaf l, .leaf l2, some (e, s, bytes, z) => match ontoB σ.h e s l, rowsOf σ.h l2 with
    | some (es, ws), some news => t' = t ∧ (∀ r ∈ news, r.length = s) ∧ es.length + news.length ≤ 140737488355328 ∧ (es.length + news.length) * bytes ≤ 140737488355328 ∧
        K ⟨.leaf (.own σ.new s (es.length + news.length)), idsL l ++ idsL l2, ws ++ [(σ.new, some ⟨e, s, es ++ news⟩)]⟩
    | _, _ => False
  | _, _, _ => False
def aCopy (x y : Operand) (t t' : TypeId) (K : Eff → Prop) : Prop :=
  match σ.ev x, σ.ev y, eltyB P t with
  | .leaf l, .leaf l2, some (e, s, bytes, z) => match spanOf σ.h l, rowsOf σ.h l2 with
    | some (id, ab, lo, n), some news => t' = t ∧ ab.s = s ∧ (∀ r ∈ news, r.length = s) ∧
        K ⟨.leaf (.sc (.int .i64 ((min news.length n : Nat) : Int))), idsL l ++ idsL l2, [(id, some ⟨ab.t, ab.s, ab.es.take lo ++ news.take (min news.length n) ++ ab.es.drop (lo + min news.length n)⟩)]⟩
    | _, _ => False
  | _, _, _ => False

/-- l can be handed on as l'. -/
def viewP (h : Heap) (l : L) : L → Prop
  | .pp cs => behind h l = some cs ∧ (persL l = true ∨ ∀ x ∈ cs, persL x = true)
  | l' => l = l' ∧ persP l = true
def viewPs (h : Heap) : List L → List L → Prop
  | [], [] => True
  | l :: ls, l' :: ls' => viewP h l l' ∧ viewPs h ls ls'
  | _, _ => False
def viewOk (h : Heap) (l : L) : L → Prop
  | .clo f ls' => ∃ ls, l = .clo f ls ∧ viewPs h ls ls'
  | .sl es => rowsOf h l = some es ∧ (persL l = true ∨ allP es)
  | .pp cs => behind h l = some cs ∧ (persL l = true ∨ ∀ x ∈ cs, persL x = true)
  | l' => l = l' ∧ persL l = true
def viewsOk (h : Heap) : List L → List L → Prop
  | [], [] => True
  | l :: ls, l' :: ls' => viewOk h l l' ∧ viewsOk h ls ls'
  | _, _ => False
def viewTOk (h : Heap) : T → T → Prop
  | .leaf l, .leaf l' => viewOk h l l'
  | .agg ls, .agg ls' => viewsOk h ls ls'
  | _, _ => False
def argsOk (h : Heap) (tm : List T) : List Operand → List T → Prop
  | [], [] => True
  | x :: xs, v :: vs => viewTOk h (evalT tm x) v ∧ argsOk h tm xs vs
  | _, _ => False
def idsOfT : T → List Nat
  | .leaf l => idsL l
  | .agg ls => ls.flatMap idsL
  | .tup _ => []
/-- What the kit's own rules say, of an operation that none of ours speaks of. -/
def aSem (o : Oper) (K : Eff → Prop) : Prop := ∃ e, (∀ Γ : Ctx, OpT Γ P o σ.tm σ.h e) ∧ Wok σ.bl e.writes ∧ K e
/-- A Go function that has a body. -/
def FnOk (f : FuncId) : Prop := ∃ fn c, P.funcs[f]? = some fn ∧ (fn.name == "runtime.NumGoroutine") = false ∧ fn.body = some c
def aCall1 (σ : St) (fx : Operand) (xs : Array Operand) (K : Eff → Prop) : Prop :=
  ∃ f vs bl r, σ.ev fx = .leaf (.sc (.func (.func f) #[] #[])) ∧ FnOk P f ∧ PC P f vs bl r ∧
    (((xs.toList.map σ.ev = vs ∧ ∀ v ∈ vs, persT v = true) ∧ K ⟨shiftT σ.new r, [], newIds σ.new bl⟩) ∨
     ((plainT r = true ∧ plainBs bl ∧ argsOk σ.h σ.tm xs.toList vs) ∧ K ⟨shiftT σ.new r, xs.toList.flatMap fun x => idsOfT (σ.ev x), newIds σ.new bl⟩))
/-- A call of a closure. -/
def aCallC (σ : St) (fx : Operand) (xs : Array Operand) (K : Eff → Prop) : Prop :=
  ∃ f ls cv vs bl r, σ.ev fx = .leaf (.clo f ls) ∧ FnOk P f ∧ PC P f (vs ++ cv.map .leaf) bl r ∧
    (((xs.toList.map σ.ev = vs ∧ (∀ v ∈ vs, persT v = true) ∧ ls = cv ∧ ls.all persP = true) ∧ K ⟨shiftT σ.new r, [], newIds σ.new bl⟩) ∨
     ((plainT r = true ∧ plainBs bl ∧ argsOk σ.h σ.tm xs.toList vs ∧ viewPs σ.h ls cv) ∧ K ⟨shiftT σ.new r, (xs.toList.flatMap fun x => idsOfT (σ.ev x)) ++ ls.flatMap idsP, newIds σ.new bl⟩))
/-- A call; own rows that are handed on may be read for good from here on. -/
def aCall (fx : Operand) (xs : Array Operand) (K : Eff → Prop) : Prop := ∃ ids, aFrz (fun σ K => aCall1 P σ fx xs K ∨ aCallC P σ fx xs K) ids σ K

/-- Two ways: rows of its own are cut as a piece of it, or as the kit's rules have it. -/
def aSliceO (o : Oper) (t : TypeId) (x : Operand) (lo hi mx : Option Operand) (K : Eff → Prop) : Prop := aSlice P σ t x lo hi mx K ∨ aSem P σ o K
/-- .. rows of its own that go into others are written no more, or stay its own. -/
def aBuildO (t : TypeId) (len : Nat) (ps : Array (Nat × Operand)) (K : Eff → Prop) : Prop := aFrz (fun σ K => aBuildSlice P σ t len ps K) (partIds σ.tm ps.toList) σ K ∨ aBuildSlice P σ t len ps K
def aStoreO (t : TypeId) (x y : Operand) (K : Eff → Prop) : Prop := aStore P σ t x y K ∨ aFrz (fun σ K => aStore P σ t x y K) (ownIds (σ.ev y)) σ K
def AOp (o : Oper) (K : Eff → Prop) : Prop :=
  match o.op with
  | .move x => K ⟨σ.ev x, [], []⟩
  | .assign x => K ⟨σ.ev x, [], []⟩
  | .pick c x y => match σ.ev c with
    | .leaf (.sc (.bool t)) => K ⟨if t then σ.ev x else σ.ev y, [], []⟩
    | _ => False
  | .binOp op xt x y _ => match scOf (σ.ev x), σ.ev x with
    | none, .agg _ => aSem P σ o K
    | none, .leaf (.bb _) => aSem P σ o K
    | _, _ => aBin P σ op xt x y K
  | .unOp op _ x => aUn σ op x K
  | .convert s d x => match elemB P d with
    | some _ => aSem P σ o K
    | none => aConv P σ s d x K
  | .alloc t => aAlloc P σ t K
  | .box t x => aBox σ t x K
  | .build t ps => aBuild P σ t ps K
  | .buildSlice t len ps => match partIds σ.tm ps.toList with
    | [] => aBuildSlice P σ t len ps K
    | _ => aBuildO P σ t len ps K
  | .load t x => aLoad P σ t x K
  | .store t x y => match ownIds (σ.ev y) with
    | [] => aStore P σ t x y K
    | _ => aStoreO P σ t x y K
  | .nilCheck x => aNil σ x K
  | .fieldAddr s x f => aFieldAddr P σ s x f K
  | .field s x f => aField P σ s x f K
  | .extract x i => aExtract σ x i K
  | .indexAddr t x y => aIndexAddr P σ t x y K
  | .index t x y => aIndex P σ t x y K
  | .slice t x lo hi mx => match σ.ev x with
    | .leaf (.own _ _ _) => aSliceO P σ o t x lo hi mx K
    | .leaf (.sc _) => aSliceO P σ o t x lo hi mx K
    | .leaf (.ptr _ _ _) => aSem P σ o K
    | .leaf (.pp _) => aSem P σ o K
    | _ => aSlice P σ t x lo hi mx K
  | .makeSlice t x y => aMake P σ t x y K
  | .makeFunc fn fs cs => match fs.toList, cs.toList with
    | [], [] => K ⟨.leaf (.sc (.func fn #[] #[])), [], []⟩
    | _, _ => aSem P σ o K
  | .call c => match c.callee, c.args.toList, c.argTypes.toList with
    | .builtin .len, [x], [t] => aLen P σ x t K
    | .builtin .append, [x, y], [t, t'] => match σ.ev y with
      | .leaf (.sc (.int _ _)) => aSem P σ o K
      | _ => aAppend P σ x y t t' K
    | .builtin .copy, [x, y], [t, t'] => match σ.ev x with
      | .leaf (.arow _ _ _ _) => aSem P σ o K
      | _ => aCopy P σ x y t t' K
    | .value fx, _, _ => aCall P σ fx c.args K
    | _, _, _ => aSem P σ o K
  | _ => aSem P σ o K
end

theorem viewP_spec {h : Heap} {l l' : L} (v : viewP h l l') {h' : Heap} (hs : ∀ id ∈ idsP l, h' id = h id) : ViewP h' l l' := by
  cases l' with
  | pp cs =>
    obtain ⟨h1, h2⟩ := v
    rcases h2 with h2 | h2
    · cases l with
      | pp cs' => simp [behind] at h1; subst h1; exact .inl ⟨rfl, rfl⟩
      | ptr id i j => simp [persL] at h2
      | _ => simp [behind] at h1
    · refine .inr ⟨cs, rfl, ?_, h2⟩
      rw [← h1]
      cases l with
      | ptr id i j => simp only [behind]; rw [hs id (by simp [idsP])]
      | _ => rfl
  | _ => obtain ⟨rfl, h2⟩ := v; exact .inl ⟨rfl, h2⟩
theorem viewOk_spec {h : Heap} {l l' : L} (v : viewOk h l l') {h' : Heap} (hs : ∀ id ∈ idsL l, h' id = h id) : ViewL h' l l' := by
  cases l' with
  | sl es =>
    obtain ⟨h1, h2⟩ := v
    have h1' : rowsOf h' l = some es := by rw [rowsOf_congr hs]; exact h1
    rcases h2 with h2 | h2
    · cases l with
      | sl es' => simp [rowsOf] at h1; subst h1; exact .same _ rfl
      | sc v =>
        refine .rows _ es h1' ?_
        simp only [rowsOf] at h1
        split at h1
        · injection h1 with h1; subst h1; intro e he; cases he
        · cases h1
      | pp cs => simp [rowsOf] at h1
      | clo f ls => simp [rowsOf] at h1
      | mp es => simp [rowsOf] at h1
      | _ => simp [persL] at h2
    · exact .rows _ es h1' h2
  | pp cs =>
    obtain ⟨h1, h2⟩ := v
    rcases h2 with h2 | h2
    · cases l with
      | pp cs' => simp [behind] at h1; subst h1; exact .same _ rfl
      | sl es => simp [behind] at h1
      | sc v => simp [behind] at h1
      | clo f ls => simp [behind] at h1
      | mp es => simp [behind] at h1
      | _ => simp [persL] at h2
    · exact .cells _ cs (by rw [behind_congr hs]; exact h1) h2
  | clo f ls' =>
    obtain ⟨ls, rfl, h2⟩ := v
    have key : ∀ (ls ls' : List L), viewPs h ls ls' → (∀ id ∈ ls.flatMap idsP, h' id = h id) → ls.length = ls'.length ∧ ∀ (j : Nat) (l l' : L), ls[j]? = some l → ls'[j]? = some l' → ViewP h' l l' := by
      intro ls
      induction ls with
      | nil => intro ls' h2 _; cases ls' with
        | nil => exact ⟨rfl, fun j l l' h => by simp at h⟩
        | cons y ys => exact h2.elim
      | cons x xs ih => intro ls' h2 hs'; cases ls' with
        | nil => exact h2.elim
        | cons y ys =>
          obtain ⟨a1, a2⟩ := h2
          obtain ⟨b1, b2⟩ := ih ys a2 fun id hid => hs' id (by simp only [List.flatMap_cons, List.mem_append]; exact .inr hid)
          refine ⟨by simp [b1], fun j l l' hl hl' => ?_⟩
          rcases j with _ | j
          · simp at hl hl'; subst hl hl'
            exact viewP_spec a1 fun id hid => hs' id (by simp only [List.flatMap_cons, List.mem_append]; exact .inl hid)
          · exact b2 j l l' (by simpa using hl) (by simpa using hl')
    obtain ⟨k1, k2⟩ := key ls ls' h2 hs
    exact .clo f ls ls' k1 k2
  | _ => obtain ⟨rfl, h2⟩ := v; exact .same _ h2
theorem viewsOk_spec {h : Heap} : ∀ {ls ls' : List L}, viewsOk h ls ls' → ∀ {h' : Heap}, (∀ id ∈ ls.flatMap idsL, h' id = h id) → ls.length = ls'.length ∧ ∀ (j : Nat) (l l' : L), ls[j]? = some l → ls'[j]? = some l' → ViewL h' l l'
  | [], [], _, _, _ => ⟨rfl, fun j l l' h => by simp at h⟩
  | l :: ls, l' :: ls', v, h', hs => by
    obtain ⟨v1, v2⟩ := v
    obtain ⟨a1, a2⟩ := viewsOk_spec v2 (h' := h') (fun id hid => hs id (by simp only [List.flatMap_cons, List.mem_append]; exact .inr hid))
    refine ⟨by simp [a1], fun j x x' hx hx' => ?_⟩
    rcases j with _ | j
    · simp at hx hx'; subst hx hx'
      exact viewOk_spec v1 fun id hid => hs id (by simp only [List.flatMap_cons, List.mem_append]; exact .inl hid)
    · exact a2 j x x' (by simpa using hx) (by simpa using hx')
theorem viewTOk_spec {h : Heap} {t t' : T} (v : viewTOk h t t') {h' : Heap} (hs : ∀ id ∈ idsOfT t, h' id = h id) : ViewT h' t t' := by
  cases t with
  | leaf l => cases t' with
    | leaf l' => exact .leaf _ _ (viewOk_spec v hs)
    | _ => exact v.elim
  | agg ls => cases t' with
    | agg ls' => obtain ⟨h1, h2⟩ := viewsOk_spec v hs; exact .agg _ _ h1 h2
    | _ => exact v.elim
  | tup ts => exact v.elim
theorem argsOk_spec {h : Heap} {tm : List T} : ∀ {xs : List Operand} {vs : List T}, argsOk h tm xs vs → xs.length = vs.length ∧ ∀ (k : Nat) (x : Operand) (v : T), xs[k]? = some x → vs[k]? = some v → viewTOk h (evalT tm x) v
  | [], [], _ => ⟨rfl, fun k x v h => by simp at h⟩
  | x :: xs, v :: vs, a => by
    obtain ⟨h1, h2⟩ := argsOk_spec a.2
    refine ⟨by simp [h1], fun k y u hy hu => ?_⟩
    rcases k with _ | k
    · simp at hy hu; subst hy hu; exact a.1
    · exact h2 k y u (by simpa using hy) (by simpa using hu)

section
variable {P : Program} {σ : St} {o : Oper} {K : Eff → Prop}
theorem aFrz.sound {f : St → (Eff → Prop) → Prop} (hf : ∀ σ K, f σ K → ∃ e, OpT Γ P o σ.tm σ.h e ∧ Wok σ.bl e.writes ∧ K e) : ∀ (ids : List Nat) (σ : St) (K : Eff → Prop), aFrz f ids σ K → ∃ e, OpT Γ P o σ.tm σ.h e ∧ Wok σ.bl e.writes ∧ K e
  | [], σ, K, h => hf σ K h
  | id :: ids, σ, K, h => by
    unfold aFrz at h
    split at h
    · rename_i ab hi
      obtain ⟨hall, h⟩ := h
      obtain ⟨e, h1, h2, h3, h4⟩ := aFrz.sound hf ids _ _ h
      have hn : id ∉ e.wids := by simpa using h3
      have hlt := hOf_lt hi
      have hh : hOf (σ.bl.set id none) = upd (hOf σ.bl) [(id, none)] := by
        have := hOf_step (bl := σ.bl) (id := id) (x := none) (by omega)
        rw [if_pos hlt] at this; exact this
      refine ⟨_, OpT.freeze hi hall hn (by rw [← hh]; exact h1), wok_cons (by omega) hn (by rw [if_pos hlt]; exact h2), h4⟩
    · exact aFrz.sound hf ids σ K h
theorem aBuildSlice.sound {t : TypeId} {len : Nat} {ps : Array (Nat × Operand)} (ho : o.op = .buildSlice t len ps) (σ : St) (K : Eff → Prop) (h : aBuildSlice P σ t len ps K) : ∃ e, OpT Γ P o σ.tm σ.h e ∧ Wok σ.bl e.writes ∧ K e := by
  unfold aBuildSlice at h
  split at h
  · rename_i h0
    subst h0
    split at h
    · rename_i e s bytes z h1
      exact ⟨_, op_buildSlice0 ho h1 (by rw [← Array.toList_inj, h.1]) (hOf_none (Nat.le_refl _)), wok_one (Nat.le_refl _), h.2⟩
    · exact h.elim
  split at h
  · rename_i e s bytes z qs h1 h2
    split at h
    · rename_i out h3
      obtain ⟨k1, k2, k3, k4⟩ := h
      exact ⟨_, op_buildSlice ho h1 h2 h3 k1 k2 k3 (hOf_none (Nat.le_refl _)), wok_one (Nat.le_refl _), k4⟩
    · exact h.elim
  · exact h.elim
theorem aCallC.sound {fx : Operand} {args : Array Operand} {ats : Array TypeId} (ho : o.op = .call { callee := .value fx, args := args, argTypes := ats }) (h : aCallC P σ fx args K) : ∃ e, OpT Γ P o σ.tm σ.h e ∧ Wok σ.bl e.writes ∧ K e := by
  obtain ⟨f, ls, cv, vs, bl, r, hfx, ⟨fn, c, hf, hname, hbody⟩, hpc, hor⟩ := h
  have hN : ∀ i, σ.new ≤ i → i < σ.new + bl.length → hOf σ.bl i = none := fun i h1 _ => hOf_none h1
  rcases hor with ⟨⟨hm, hp, rfl, hpc'⟩, hk⟩ | ⟨⟨hr, hb, ha, hv⟩, hk⟩
  · refine ⟨_, op_callC [] ho hfx hf hname hbody hpc hN (by rw [← hm]; simp) rfl (.inl ⟨fun k x v hx hv => ?_, rfl, hpc'⟩), wok_newIds, hk⟩
    have : vs[k]? = some (σ.ev x) := by rw [← hm]; simp [hx]
    rw [this] at hv; injection hv with hv
    exact ⟨hp v (by rw [← hv]; exact List.mem_of_getElem? this), hv⟩
  · obtain ⟨a1, a2⟩ := argsOk_spec ha
    have key : ∀ (ls ls' : List L), viewPs σ.h ls ls' → ls.length = ls'.length ∧ ∀ (j : Nat) (l l' : L), ls[j]? = some l → ls'[j]? = some l' → viewP σ.h l l' := by
      intro ls
      induction ls with
      | nil => intro ls' h2; cases ls' with
        | nil => exact ⟨rfl, fun j l l' h => by simp at h⟩
        | cons y ys => exact h2.elim
      | cons x xs ih => intro ls' h2; cases ls' with
        | nil => exact h2.elim
        | cons y ys =>
          obtain ⟨b1, b2⟩ := ih ys h2.2
          refine ⟨by simp [b1], fun j l l' hl hl' => ?_⟩
          rcases j with _ | j
          · simp at hl hl'; subst hl hl'; exact h2.1
          · exact b2 j l l' (by simpa using hl) (by simpa using hl')
    obtain ⟨k1, k2⟩ := key ls cv hv
    refine ⟨_, op_callC _ ho hfx hf hname hbody hpc hN (by rw [← a1]; simp) k1 (.inr ⟨hr, hb, fun k x v hx hv h' hs => viewTOk_spec (a2 k x v (by simpa using hx) hv) fun id hid => hs id ?_, fun h' hs j l l' hl hl' => viewP_spec (k2 j l l' hl hl') fun id hid => hs id ?_⟩), wok_newIds, hk⟩
    · exact List.mem_append_left _ (List.mem_flatMap.2 ⟨x, by simpa using Array.mem_of_getElem? hx, hid⟩)
    · exact List.mem_append_right _ (List.mem_flatMap.2 ⟨l, List.mem_of_getElem? hl, hid⟩)
theorem aStore.sound {t : TypeId} {x y : Operand} (ho : o.op = .store t x y) (σ : St) (K : Eff → Prop) (h : aStore P σ t x y K) : ∃ e, OpT Γ P o σ.tm σ.h e ∧ Wok σ.bl e.writes ∧ K e := by
  unfold aStore at h
  split at h
  · rename_i id i j hx
    split at h
    · rename_i ab hi
      split at h
      · rename_i e ls he hl
        obtain ⟨k1, k2, k3, k4⟩ := h
        exact ⟨_, op_store ho hx hi he hl k1 k2 k3, wok_one (Nat.le_of_lt (hOf_lt hi)), k4⟩
      · exact h.elim
    · exact h.elim
  · exact h.elim
theorem aSlice.sound {t : TypeId} {x : Operand} {lo hi mx : Option Operand} (ho : o.op = .slice t x lo hi mx) (σ : St) (K : Eff → Prop) (h : aSlice P σ t x lo hi mx K) : ∃ e, OpT Γ P o σ.tm σ.h e ∧ Wok σ.bl e.writes ∧ K e := by
  unfold aSlice at h
  split at h
  · rename_i l e lo' hi' mx' hx ht h1 h2 h3
    split at h
    · rename_i s es hs hr
      obtain ⟨k1, k2, k3, k4, k5, k6, k7⟩ := h
      refine ⟨_, op_slice ho ht hs hx hr h1 h2 h3 ?_ k2 k3 k4 k5 k6, wok_nil, k7⟩
      cases mx' <;> cases hi' <;> simp at k1 ⊢
    · exact h.elim
  · exact h.elim
theorem aSem.sound (h : aSem P σ o K) : ∃ e, OpT Γ P o σ.tm σ.h e ∧ Wok σ.bl e.writes ∧ K e := by
  obtain ⟨e, h1, h2, h3⟩ := h; exact ⟨e, h1 Γ, h2, h3⟩
theorem AOp.sound (h : AOp P σ o K) : ∃ e, OpT Γ P o σ.tm σ.h e ∧ Wok σ.bl e.writes ∧ K e := by
  unfold AOp at h
  split at h
  · rename_i x ho; exact ⟨_, op_move (.inl ho), wok_nil, h⟩
  · rename_i x ho; exact ⟨_, op_move (.inr ho), wok_nil, h⟩
  · rename_i c x y ho
    split at h
    · rename_i t hc; exact ⟨_, op_pick ho hc, wok_nil, h⟩
    · exact h.elim
  · rename_i op xt x y yt ho
    split at h
    · obtain ⟨e, h1, h2, h3⟩ := h; exact ⟨e, h1 Γ, h2, h3⟩
    · obtain ⟨e, h1, h2, h3⟩ := h; exact ⟨e, h1 Γ, h2, h3⟩
    unfold aBin at h
    split at h
    · rename_i a b h1 h2
      split at h
      · rename_i c v hv
        obtain ⟨g1, g2⟩ := binV_spec hv h.1
        exact ⟨_, op_bin ho h1 h2 (g1 x y) g2, wok_nil, h.2⟩
      · exact h.elim
    · rename_i v h1 h2
      split at h
      · rename_i l et hx ht
        split at h
        · rename_i es hr
          have hy : evalT σ.tm y = .leaf (.sc v) := by
            have h2' : scOf (evalT σ.tm y) = some v := h2
            cases hev : evalT σ.tm y with
            | leaf l => cases l <;> rw [hev] at h2' <;> simp [scOf] at h2' <;> rw [h2']
            | agg ls => rw [hev] at h2'; simp [scOf] at h2'
            | tup ts => rw [hev] at h2'; simp [scOf] at h2'
          exact ⟨_, op_eqlNil ho (elemB_spec ht) hx hy h.1 hr, wok_nil, h.2⟩
        · exact h.elim
      · exact h.elim
    · exact h.elim
  · rename_i op xt x ho
    unfold aUn at h
    split at h
    · rename_i a h1
      split at h
      · rename_i v hv; exact ⟨_, op_un ho h1 (unV_spec hv), wok_nil, h⟩
      · exact h.elim
    · exact h.elim
  · rename_i s d x ho
    split at h
    · exact aSem.sound h
    · unfold aConv at h
      split at h
      · rename_i k hd
        split at h
        · rename_i k' n hx; exact ⟨_, op_convert ho (by rw [show evalT σ.tm x = _ from hx]; rfl) (conv_spec h.1 hd), wok_nil, h.2⟩
        · exact h.elim
      · split at h
        · rename_i et l hs hx
          obtain ⟨h1, h2, bs, h3, h4⟩ := h
          exact ⟨_, op_string ho (elemB_spec hs) h2 h1 hx h3, wok_nil, h4⟩
        · exact h.elim
  · rename_i t ho
    unfold aAlloc at h
    split at h
    · rename_i z hz; exact ⟨_, op_alloc ho hz (hOf_none (Nat.le_refl _)), wok_one (Nat.le_refl _), h⟩
    · exact h.elim
  · rename_i t x ho
    unfold aBox at h
    split at h
    · rename_i ls hc; exact ⟨_, op_box ho hc h.1 (hOf_none (Nat.le_refl _)), wok_one (Nat.le_refl _), h.2⟩
    · exact h.elim
  · rename_i t ps ho
    unfold aBuild at h
    split at h
    · rename_i qs z place h1 h2 h3
      split at h
      · rename_i out h4; exact ⟨_, op_build ho h1 h2 h3 h4 h.1, wok_nil, h.2⟩
      · exact h.elim
    · exact h.elim
  · rename_i t len ps ho
    split at h
    · exact aBuildSlice.sound ho σ K h
    · rcases h with h | h
      · exact aFrz.sound (fun σ K h => aBuildSlice.sound ho σ K h) _ σ K h
      · exact aBuildSlice.sound ho σ K h
  · rename_i t x ho
    unfold aLoad at h
    split at h
    · rename_i l hx
      split at h
      · rename_i cs hb
        split at h
        · rename_i v hv; exact ⟨_, op_load ho hx hb hv, wok_nil, h⟩
        · exact h.elim
      · exact h.elim
    · exact h.elim
  · rename_i t x y ho
    split at h
    · exact aStore.sound ho σ K h
    · rcases h with h | h
      · exact aStore.sound ho σ K h
      · exact aFrz.sound (fun σ K h => aStore.sound ho σ K h) _ σ K h
  · rename_i x ho
    unfold aNil at h
    split at h
    · rename_i f fs cs hx; exact ⟨_, op_nilCheckF ho hx, wok_nil, h⟩
    · rename_i l hx; exact ⟨_, op_nilCheck ho hx h.1, wok_nil, h.2⟩
    · exact h.elim
  · rename_i s x f ho
    unfold aFieldAddr at h
    split at h
    · rename_i l off ft hx hf
      split at h
      · rename_i cs n hb hn; exact ⟨_, op_fieldAddr ho hx hf hn h.1 hb h.2.1, wok_nil, h.2.2⟩
      · exact h.elim
    · exact h.elim
  · rename_i s x f ho
    unfold aField at h
    split at h
    · rename_i ls off ft hx hf
      split at h
      · rename_i v hv; exact ⟨_, op_field ho hx hf hv, wok_nil, h⟩
      · exact h.elim
    · exact h.elim
  · rename_i x i ho
    unfold aExtract at h
    split at h
    · rename_i ts hx
      split at h
      · rename_i v hv; exact ⟨_, op_extract ho hx hv (fun us e => by rw [e] at h; simp [notTup] at h), wok_nil, h.2⟩
      · exact h.elim
    · exact h.elim
  · rename_i t x y ho
    unfold aIndexAddr at h
    split at h
    · rename_i l k i hx hy
      split at h
      · rename_i e' ht
        split at h
        · rename_i s es hs hr
          obtain ⟨k0, h⟩ := h
          split at h
          · rename_i e he; exact ⟨_, op_indexAddr ho ht hs hx hy hr k0 he h.1 h.2.1, wok_nil, h.2.2⟩
          · exact h.elim
        · exact h.elim
      · split at h
        · rename_i n e' ht
          split at h
          · rename_i s cs hs hb; exact ⟨_, op_indexAddrA ho ht hs hx hy hb h.1 h.2.1 h.2.2.1, wok_nil, h.2.2.2⟩
          · exact h.elim
        · exact h.elim
    · exact h.elim
  · rename_i t x y ho
    unfold aIndex at h
    split at h
    · rename_i ls k i n e' hx hy ht
      split at h
      · rename_i s hs
        obtain ⟨k0, k1, h⟩ := h
        split at h
        · rename_i v hv; exact ⟨_, op_indexA ho ht hs hx hy k0 k1 hv, wok_nil, h⟩
        · exact h.elim
      · exact h.elim
    · exact h.elim
  · rename_i t x lo hi mx ho
    split at h
    · rcases h with h | h
      · exact aSlice.sound ho σ K h
      · exact aSem.sound h
    · rcases h with h | h
      · exact aSlice.sound ho σ K h
      · exact aSem.sound h
    · exact aSem.sound h
    · exact aSem.sound h
    · exact aSlice.sound ho σ K h
  · rename_i t x y ho
    unfold aMake at h
    split at h
    · rename_i kl l kc c e s bytes z hx hy ht
      obtain ⟨k1, k2, k3, k4, k5⟩ := h
      exact ⟨_, op_make ho ht hx hy k1 k2 k3 k4 (hOf_none (Nat.le_refl _)), wok_one (Nat.le_refl _), k5⟩
    · exact h.elim
  · rename_i fn fs cs ho
    split at h
    rotate_left
    · exact aSem.sound h
    rename_i h1 h2
    obtain rfl : fs = #[] := by rw [← Array.toList_inj, h1]
    obtain rfl : cs = #[] := by rw [← Array.toList_inj, h2]
    exact ⟨_, OpT.of_pure fun tm' h' μ a w g1 g2 I F => ⟨_, by simp [execOp, ho, Instr.makeFunc], RT.sc _⟩, wok_nil, h⟩
  · rename_i c ho
    obtain ⟨callee, args, ats⟩ := c
    split at h
    · rename_i x t hc h1 h2
      simp only at hc h1 h2
      obtain rfl : args = #[x] := by rw [← Array.toList_inj, h1]
      obtain rfl : ats = #[t] := by rw [← Array.toList_inj, h2]
      subst hc
      unfold aLen at h
      split at h
      · rename_i l hx
        split at h
        · rename_i es hr; exact ⟨_, op_len ho h.1 hx hr, wok_nil, h.2⟩
        · exact h.elim
      · exact h.elim
    · rename_i x y t t' hc h1 h2
      simp only at hc h1 h2
      obtain rfl : args = #[x, y] := by rw [← Array.toList_inj, h1]
      obtain rfl : ats = #[t, t'] := by rw [← Array.toList_inj, h2]
      subst hc
      split at h
      · exact aSem.sound h
      unfold aAppend at h
      split at h
      · rename_i l l2 e s bytes z hx hy ht
        split at h
        · rename_i es ws news hon hr
          obtain ⟨rfl, k1, k2, k3, k4⟩ := h
          refine ⟨_, op_append ho ht hx hy (ontoB_spec hon) hr k1 (hOf_none (Nat.le_refl _)) k2 k3, ?_, k4⟩
          cases ontoB_spec hon with
          | nil v hv => exact wok_one (Nat.le_refl _)
          | own id ab hab _ _ =>
            have hlt := hOf_lt hab
            refine wok_cons (by omega) (by simp; omega) ?_
            rw [if_pos hlt]
            exact wok_one (by simp)
        · exact h.elim
      · exact h.elim
    · rename_i x y t t' hc h1 h2
      simp only at hc h1 h2
      obtain rfl : args = #[x, y] := by rw [← Array.toList_inj, h1]
      obtain rfl : ats = #[t, t'] := by rw [← Array.toList_inj, h2]
      subst hc
      split at h
      · exact aSem.sound h
      unfold aCopy at h
      split at h
      · rename_i l l2 e s bytes z hx hy ht
        split at h
        · rename_i id ab lo n news hsp hr
          obtain ⟨rfl, k1, k2, k3⟩ := h
          refine ⟨_, op_copy ho ht hx hy hsp hr k2 k1, wok_one ?_, k3⟩
          have : hOf σ.bl id = some (some ab) := by
            unfold spanOf at hsp
            split at hsp
            · split at hsp
              · rename_i hh; injection hsp with hsp; injection hsp with q1 hsp; injection hsp with q2 _; subst q1 q2; exact hh
              · cases hsp
            · split at hsp
              · rename_i hh; injection hsp with hsp; injection hsp with q1 hsp; injection hsp with q2 _; subst q1 q2; exact hh
              · cases hsp
            · cases hsp
          exact Nat.le_of_lt (hOf_lt this)
        · exact h.elim
      · exact h.elim
    · rename_i fx hc
      simp only at hc
      subst hc
      obtain ⟨ids, h⟩ := h
      refine aFrz.sound (fun σ K h => ?_) ids σ K h
      rcases h with h | h
      rotate_left
      · exact aCallC.sound ho h
      obtain ⟨f, vs, bl, r, hfx, ⟨fn, c, hf, hname, hbody⟩, hpc, hor⟩ := h
      have hN : ∀ i, σ.new ≤ i → i < σ.new + bl.length → hOf σ.bl i = none := fun i h1 _ => hOf_none h1
      rcases hor with ⟨⟨hm, hp⟩, hk⟩ | ⟨⟨hr, hb, ha⟩, hk⟩
      · refine ⟨_, op_call [] ho hfx hf hname hbody hpc hN (by rw [← hm]; simp) (.inl fun k x v hx hv => ?_), wok_newIds, hk⟩
        have : vs[k]? = some (σ.ev x) := by rw [← hm]; simp [hx]
        rw [this] at hv; injection hv with hv
        exact ⟨hp v (by rw [← hv]; exact List.mem_of_getElem? this), hv⟩
      · obtain ⟨a1, a2⟩ := argsOk_spec ha
        refine ⟨_, op_call _ ho hfx hf hname hbody hpc hN (by rw [← a1]; simp) (.inr ⟨hr, hb, fun k x v hx hv h' hs => viewTOk_spec (a2 k x v (by simpa using hx) hv) fun id hid => hs id ?_⟩), wok_newIds, hk⟩
        exact List.mem_flatMap.2 ⟨x, by simpa using Array.mem_of_getElem? hx, hid⟩
    · exact aSem.sound h
  · exact aSem.sound h
end
end Go.Proofs.Ytfppilpaaoklaaa
