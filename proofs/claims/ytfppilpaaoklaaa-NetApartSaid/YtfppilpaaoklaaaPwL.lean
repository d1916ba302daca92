/- The walk over plain values: calls; bytes. -/
import Derived.Test.YtfppilpaaoklaaaPwK
namespace Go.Proofs.Ytfppilpaaoklaaa
set_option linter.unusedSimpArgs false
set_option linter.unusedVariables false
open Go Go.RowKit

theorem aCall1.pers {P : Program} {σ : St} {fx : Operand} {xs : Array Operand} {K : Eff → Prop} {f : FuncId} {vs : List T} {bl : List AB} {r : T} (hc : PC P f vs bl r) (hf : FnOk P f) (hfx : σ.ev fx = .leaf (.sc (.func (.func f) #[] #[])))
    (ha : xs.toList.map σ.ev = vs) (hp : ∀ v ∈ vs, persT v = true) (hK : K ⟨shiftT σ.new r, [], newIds σ.new bl⟩) : aCall1 P σ fx xs K := ⟨f, vs, bl, r, hfx, hf, hc, .inl ⟨⟨ha, hp⟩, hK⟩⟩
theorem aCall1.view {P : Program} {σ : St} {fx : Operand} {xs : Array Operand} {K : Eff → Prop} {f : FuncId} {vs : List T} {bl : List AB} {r : T} (hc : PC P f vs bl r) (hf : FnOk P f) (hfx : σ.ev fx = .leaf (.sc (.func (.func f) #[] #[])))
    (hr : plainT r = true) (hb : plainBs bl) (ha : argsOk σ.h σ.tm xs.toList vs) (hK : K ⟨shiftT σ.new r, xs.toList.flatMap fun x => idsOfT (σ.ev x), newIds σ.new bl⟩) : aCall1 P σ fx xs K := ⟨f, vs, bl, r, hfx, hf, hc, .inr ⟨⟨hr, hb, ha⟩, hK⟩⟩
theorem aFrz.mono {f g : St → (Eff → Prop) → Prop} (hfg : ∀ σ K, f σ K → g σ K) : ∀ (ids : List Nat) (σ : St) (K : Eff → Prop), aFrz f ids σ K → aFrz g ids σ K
  | [], σ, K, h => hfg σ K h
  | id :: ids, σ, K, h => by
    unfold aFrz at h ⊢
    split
    · rename_i ab hi
      rw [hi] at h
      exact ⟨h.1, aFrz.mono hfg ids _ _ h.2⟩
    · rename_i hne
      split at h
      · rename_i ab hi; exact (hne ab hi).elim
      · exact aFrz.mono hfg ids _ _ h
theorem aCall.one {P : Program} {σ : St} {fx : Operand} {xs : Array Operand} {K : Eff → Prop} (h : aCall1 P σ fx xs K) : aCall P σ fx xs K := ⟨[], .inl h⟩
theorem aCall.clo {P : Program} {σ : St} {fx : Operand} {xs : Array Operand} {K : Eff → Prop} (h : aCallC P σ fx xs K) : aCall P σ fx xs K := ⟨[], .inr h⟩
theorem aCall.frz {P : Program} {σ : St} {fx : Operand} {xs : Array Operand} {K : Eff → Prop} (ids : List Nat) (h : aFrz (fun σ K => aCall1 P σ fx xs K) ids σ K) : aCall P σ fx xs K := ⟨ids, aFrz.mono (fun _ _ h => .inl h) ids σ K h⟩
theorem aCall.pers {P : Program} {σ : St} {fx : Operand} {xs : Array Operand} {K : Eff → Prop} {f : FuncId} {vs : List T} {bl : List AB} {r : T} (hc : PC P f vs bl r) (hf : FnOk P f) (hfx : σ.ev fx = .leaf (.sc (.func (.func f) #[] #[])))
    (ha : xs.toList.map σ.ev = vs) (hp : ∀ v ∈ vs, persT v = true) (hK : K ⟨shiftT σ.new r, [], newIds σ.new bl⟩) : aCall P σ fx xs K := .one (.pers hc hf hfx ha hp hK)
theorem aCall.view {P : Program} {σ : St} {fx : Operand} {xs : Array Operand} {K : Eff → Prop} {f : FuncId} {vs : List T} {bl : List AB} {r : T} (hc : PC P f vs bl r) (hf : FnOk P f) (hfx : σ.ev fx = .leaf (.sc (.func (.func f) #[] #[])))
    (hr : plainT r = true) (hb : plainBs bl) (ha : argsOk σ.h σ.tm xs.toList vs) (hK : K ⟨shiftT σ.new r, xs.toList.flatMap fun x => idsOfT (σ.ev x), newIds σ.new bl⟩) : aCall P σ fx xs K := .one (.view hc hf hfx hr hb ha hK)

theorem aCall.frzAll {P : Program} {σ : St} {fx : Operand} {xs : Array Operand} {K : Eff → Prop} (h : aFrz (fun σ K => aCall1 P σ fx xs K) (xs.toList.flatMap fun x => ownIds (σ.ev x)) σ K) : aCall P σ fx xs K := ⟨_, aFrz.mono (fun _ _ h => .inl h) _ σ K h⟩
theorem aSem_congr {P : Program} {σ σ' : St} {o : Oper} {K : Eff → Prop} (h : σ = σ') : aSem P σ o K = aSem P σ' o K := by rw [h]
section
variable {P : Program} {σ σ' : St} {o : Oper} {t : TypeId} {x y : Operand} {lo hi mx : Option Operand} {len : Nat} {ps : Array (Nat × Operand)} {K : Eff → Prop}
theorem aSliceO_congr (h : σ = σ') : aSliceO P σ o t x lo hi mx K = aSliceO P σ' o t x lo hi mx K := by rw [h]
theorem aBuildO_congr (h : σ = σ') : aBuildO P σ t len ps K = aBuildO P σ' t len ps K := by rw [h]
theorem aStoreO_congr (h : σ = σ') : aStoreO P σ t x y K = aStoreO P σ' t x y K := by rw [h]
theorem aSliceO.l (h : aSlice P σ t x lo hi mx K) : aSliceO P σ o t x lo hi mx K := .inl h
theorem aSliceO.r (h : aSem P σ o K) : aSliceO P σ o t x lo hi mx K := .inr h
theorem aBuildO.l (h : aFrz (fun σ K => aBuildSlice P σ t len ps K) (partIds σ.tm ps.toList) σ K) : aBuildO P σ t len ps K := .inl h
theorem aBuildO.r (h : aBuildSlice P σ t len ps K) : aBuildO P σ t len ps K := .inr h
theorem aStoreO.l (h : aStore P σ t x y K) : aStoreO P σ t x y K := .inl h
theorem aStoreO.r (h : aFrz (fun σ K => aStore P σ t x y K) (ownIds (σ.ev y)) σ K) : aStoreO P σ t x y K := .inr h
end
theorem aCall1_congr {P : Program} {σ σ' : St} {fx : Operand} {xs : Array Operand} {K : Eff → Prop} (h : σ = σ') : aCall1 P σ fx xs K = aCall1 P σ' fx xs K := by rw [h]
/-! ### Arguments that say more than is asked: a nil row has no elements -/
def wkL (l l' : L) : Prop := l = l' ∨ (∃ v, l = .sc v ∧ isNilSl v = true) ∧ l' = .sl []
def wkLs : List L → List L → Prop
  | [], [] => True
  | l :: ls, l' :: ls' => wkL l l' ∧ wkLs ls ls'
  | _, _ => False
def wkT : T → T → Prop
  | .leaf l, .leaf l' => wkL l l'
  | .agg ls, .agg ls' => wkLs ls ls'
  | _, _ => False
def wkTs : List T → List T → Prop
  | [], [] => True
  | t :: ts, t' :: ts' => wkT t t' ∧ wkTs ts ts'
  | _, _ => False
theorem RX.wk {Γ : Ctx} {h : Heap} {μ : Pos} {w : World} {l l' : L} {u : Value} (k : wkL l l') (r : RX Γ h μ w l u) : RX Γ h μ w l' u := by
  rcases k with rfl | ⟨⟨v, rfl, hv⟩, rfl⟩
  · exact r
  · have : u = v := by
      have r' : RL (PerG Γ h μ w) w (.sc v) u := r
      cases r'; rfl
    rw [this, isNilSl_spec hv]
    exact RL.sl [] none 0 0 0 (fun _ _ => undef) rfl (Nat.zero_le _) (fun e he => (by cases he)) (fun i e j l he => (by simp at he)) (fun i e j l he => (by simp at he)) (fun i e j l he => (by simp at he)) (fun _ => rfl)
theorem wkLs_len : ∀ {ls ls' : List L}, wkLs ls ls' → ls.length = ls'.length ∧ ∀ (j : Nat) (l' : L), ls'[j]? = some l' → ∃ l, ls[j]? = some l ∧ wkL l l'
  | [], [], _ => ⟨rfl, fun j l h => by simp at h⟩
  | l :: ls, l' :: ls', k => by
    obtain ⟨h1, h2⟩ := wkLs_len k.2
    refine ⟨by simp [h1], fun j x hx => ?_⟩
    rcases j with _ | j
    · simp at hx; subst hx; exact ⟨l, rfl, k.1⟩
    · exact h2 j x (by simpa using hx)
  | [], _ :: _, k => k.elim
  | _ :: _, [], k => k.elim
theorem RT.wk {Γ : Ctx} {h : Heap} {μ : Pos} {w : World} {t t' : T} {u : Value} (k : wkT t t') (r : RT Γ h μ w t u) : RT Γ h μ w t' u := by
  cases t with
  | leaf l => cases t' with
    | leaf l' => exact RX.wk k r
    | _ => exact k.elim
  | agg ls => cases t' with
    | agg ls' =>
      obtain ⟨cs, rfl, hl, hj⟩ := r
      obtain ⟨k1, k2⟩ := wkLs_len k
      refine ⟨cs, rfl, by rw [hl, k1], fun j l' hl' => ?_⟩
      obtain ⟨l, h1, h2⟩ := k2 j l' hl'
      obtain ⟨v, h3, h4, h5⟩ := hj j l h1
      exact ⟨v, h3, h4, RX.wk h2 h5⟩
    | _ => exact k.elim
  | tup ts => exact k.elim
theorem wkTs_at : ∀ {ts ts' : List T}, wkTs ts ts' → ts.length = ts'.length ∧ ∀ (j : Nat) (t' : T), ts'[j]? = some t' → ∃ t, ts[j]? = some t ∧ wkT t t'
  | [], [], _ => ⟨rfl, fun j l h => by simp at h⟩
  | l :: ls, l' :: ls', k => by
    obtain ⟨h1, h2⟩ := wkTs_at k.2
    refine ⟨by simp [h1], fun j x hx => ?_⟩
    rcases j with _ | j
    · simp at hx; subst hx; exact ⟨l, rfl, k.1⟩
    · exact h2 j x (by simpa using hx)
  | [], _ :: _, k => k.elim
  | _ :: _, [], k => k.elim
theorem PC.args {P : Program} {f : FuncId} {vs vs' : List T} {bl : List AB} {r : T} (h : PC P f vs' bl r) (k : wkTs vs vs') : PC P f vs bl r := fun B args w hgl hs ha => by
  obtain ⟨k1, k2⟩ := wkTs_at k
  refine h B args w hgl (by rw [hs, k1]) fun i t' ht' => ?_
  obtain ⟨t, h1, h2⟩ := k2 i t' ht'
  exact RT.wk h2 (ha i t h1)
theorem aCall1.wk {P : Program} {σ : St} {fx : Operand} {xs : Array Operand} {K : Eff → Prop} {f : FuncId} {vs : List T} {bl : List AB} {r : T} (hc : PC P f vs bl r) (hf : FnOk P f) (hfx : σ.ev fx = .leaf (.sc (.func (.func f) #[] #[])))
    (ha : wkTs (xs.toList.map σ.ev) vs) (hp : ∀ v ∈ xs.toList.map σ.ev, persT v = true) (hK : K ⟨shiftT σ.new r, [], newIds σ.new bl⟩) : aCall1 P σ fx xs K := .pers (hc.args ha) hf hfx rfl hp hK
theorem aCall.wk {P : Program} {σ : St} {fx : Operand} {xs : Array Operand} {K : Eff → Prop} {f : FuncId} {vs : List T} {bl : List AB} {r : T} (hc : PC P f vs bl r) (hf : FnOk P f) (hfx : σ.ev fx = .leaf (.sc (.func (.func f) #[] #[])))
    (ha : wkTs (xs.toList.map σ.ev) vs) (hp : ∀ v ∈ xs.toList.map σ.ev, persT v = true) (hK : K ⟨shiftT σ.new r, [], newIds σ.new bl⟩) : aCall P σ fx xs K := .one (.wk hc hf hfx ha hp hK)

theorem leEs_self {ρ : List Nat} {es : List (List L)} (h : allP es) : leEs ρ es es := .inl ⟨rfl, h⟩
theorem leEs_one {ρ : List Nat} {r r' : List L} : leEs ρ [r] [r'] ↔ (r = r' ∧ allP [r]) ∨ leLs ρ r r' := by
  unfold leEs
  refine or_congr (by simp) ⟨fun h => h.2 0 r r' rfl rfl, fun h => ⟨rfl, fun i e e' he he' => ?_⟩⟩
  rcases i with _ | i
  · simp at he he'; subst he he'; exact h
  · simp at he
/-! ### Bytes -/
@[simp] theorem bytesE_length (bs : List UInt8) : (bytesE bs).length = bs.length := by simp [bytesE]
@[simp] theorem bytesE_len (bs : List UInt8) : ∀ r ∈ bytesE bs, r.length = 1 := by
  intro r hr
  obtain ⟨x, _, rfl⟩ := List.mem_map.1 hr
  rfl
@[simp] theorem bytesE_allP (bs : List UInt8) : allP (bytesE bs) := by
  intro r hr l hl
  obtain ⟨x, _, rfl⟩ := List.mem_map.1 hr
  simp at hl; subst hl; rfl
@[simp] theorem bytesE_nil : bytesE [] = [] := rfl
theorem bytesE_cons (x : UInt8) (bs : List UInt8) : bytesE (x :: bs) = [.sc (byV x)] :: bytesE bs := rfl
theorem bytesE_append (a b : List UInt8) : bytesE a ++ bytesE b = bytesE (a ++ b) := by simp [bytesE]
theorem bytesE_take (a : List UInt8) (n : Nat) : (bytesE a).take n = bytesE (a.take n) := by simp [bytesE]
theorem bytesE_take_self (bs : List UInt8) : (bytesE bs).take bs.length = bytesE bs := by rw [bytesE_take, List.take_length]
theorem bytesE_drop (a : List UInt8) (n : Nat) : (bytesE a).drop n = bytesE (a.drop n) := by simp [bytesE]
theorem bytesE_get (a : List UInt8) (i : Nat) : (bytesE a)[i]? = (a[i]?).map fun x => [.sc (byV x)] := by simp [bytesE]
theorem shiftE_bytes {k : Nat} (bs : List UInt8) : (bytesE bs).map (fun e => e.map (shiftL k)) = bytesE bs := by
  simp [bytesE, shiftL]
theorem bytesE_inj {a b : List UInt8} : bytesE a = bytesE b ↔ a = b := by
  constructor
  · intro h
    induction a generalizing b with
    | nil => cases b with
      | nil => rfl
      | cons y b => simp [bytesE] at h
    | cons x a ih => cases b with
      | nil => simp [bytesE] at h
      | cons y b =>
        simp only [bytesE_cons, List.cons.injEq, L.sc.injEq, byV, Value.int.injEq, true_and, and_true] at h
        have : x = y := by
          have h1 : (x.toNat : Int) = y.toNat := h.1
          exact UInt8.toNat_inj.1 (by omega)
        rw [this, ih h.2]
  · rintro rfl; rfl
theorem exBytesE {a : List UInt8} {p : List UInt8 → Prop} : (∃ bs, some (bytesE a) = some (bytesE bs) ∧ p bs) ↔ p a := by
  constructor
  · rintro ⟨bs, h, k⟩
    rw [bytesE_inj.1 (Option.some.inj h)]; exact k
  · exact fun h => ⟨a, rfl, h⟩
theorem str_beq (a b : List UInt8) : (((⟨a.toArray⟩ : ByteArray).toList) == ((⟨b.toArray⟩ : ByteArray).toList)) = decide (a = b) := by
  have h : ∀ l : List UInt8, (⟨l.toArray⟩ : ByteArray).toList = l := fun l => by simp
  rw [h, h, Bool.eq_iff_iff]; simp
abbrev bytesL (bs : List UInt8) : L := .sl (bytesE bs)
abbrev bytesT (bs : List UInt8) : T := .leaf (bytesL bs)
abbrev intT (n : Int) : T := .leaf (.sc (.int .i64 n))
abbrev boolT (b : Bool) : T := .leaf (.sc (.bool b))
theorem wrap_i64 (n : Int) (h : -9223372036854775808 ≤ n ∧ n ≤ 9223372036854775807) : IntKind.i64.wrap n = n := by rw [IntKind.wrap_i64]; omega
theorem wrap_u64 (n : Int) (h : 0 ≤ n ∧ n ≤ 18446744073709551615) : IntKind.u64.wrap n = n := by
  simp [IntKind.wrap, IntKind.signed, IntKind.bits]
  omega
end Go.Proofs.Ytfppilpaaoklaaa
