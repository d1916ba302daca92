/- The walk over plain values: what simp may look into. -/
import Derived.Test.YtfppilpaaoklaaaTy
namespace Go.Proofs.Ytfppilpaaoklaaa
open Go Go.RowKit
theorem mo : Try.prog.follows .mixedOrders = true := by kernel_rfl
theorem AW_congr {Γ : Ctx} {P : Program} {c : Code} {Q : Exit → St → Prop} {σ σ' : St} (h : σ = σ') : AW Γ P c Q σ = AW Γ P c Q σ' := by rw [h]
theorem AO_congr {P : Program} {ops : Array Oper} {d : Bool} {l : List Oper} {acc acc' : List Eff} {K : St → Prop} {σ σ' : St} (h1 : acc = acc') (h : σ = σ') : AO P ops d l acc K σ = AO P ops d l acc' K σ' := by rw [h1, h]
theorem aCall_congr {P : Program} {σ σ' : St} {fx : Operand} {xs : Array Operand} {K : Eff → Prop} (h : σ = σ') : aCall P σ fx xs K = aCall P σ' fx xs K := by rw [h]
/-- AO, sealed: nothing looks into it but by its two rules. -/
noncomputable def AOs (P : Program) (ops : Array Oper) (draw : Bool) : List Oper → List Eff → (St → Prop) → St → Prop :=
  Classical.choose (⟨AO P ops draw, rfl⟩ : ∃ f : List Oper → List Eff → (St → Prop) → St → Prop, f = AO P ops draw)
theorem AOs_eq (P : Program) (ops : Array Oper) (draw : Bool) : AOs P ops draw = AO P ops draw := Classical.choose_spec (⟨AO P ops draw, rfl⟩ : ∃ f : List Oper → List Eff → (St → Prop) → St → Prop, f = AO P ops draw)
theorem AO_nil' {P : Program} {ops : Array Oper} {draw : Bool} {acc : List Eff} {K : St → Prop} {σ : St} : AOs P ops draw [] acc K σ = ((draw = true → pairsOk ops acc = true) ∧ K σ) := by rw [AOs_eq]; exact propext Iff.rfl
/-- What comes behind an operation, sealed off from simp. -/
def kont (P : Program) (ops : Array Oper) (draw : Bool) (rest : List Oper) (acc : List Eff) (K : St → Prop) (σ : St) (d : Option Tmp) : Eff → Prop := fun e => AOs P ops draw rest (acc ++ [e]) K (σ.app d e)
theorem kont_app {P : Program} {ops : Array Oper} {draw : Bool} {rest : List Oper} {acc : List Eff} {K : St → Prop} {σ : St} {d : Option Tmp} {e : Eff} : kont P ops draw rest acc K σ d e = AOs P ops draw rest (acc ++ [e]) K (σ.app d e) := propext Iff.rfl
theorem AO_cons' {P : Program} {ops : Array Oper} {draw : Bool} {o : Oper} {rest : List Oper} {acc : List Eff} {K : St → Prop} {σ : St} : AOs P ops draw (o :: rest) acc K σ = (match guardOf ops σ.tm o with
    | .yes => AOp P σ o (kont P ops draw rest acc K σ o.dst)
    | .no => AOs P ops draw rest (acc ++ [idleE]) K (σ.app o.dst idleE)
    | .ask d b want => askG b want (AOp P (σ.lit d want) o (kont P ops draw rest acc K (σ.lit d want) o.dst)) (AOs P ops draw rest (acc ++ [idleE]) K ((σ.lit d (!want)).app o.dst idleE))
    | .bad => False) := by
  show _ = (match guardOf ops σ.tm o with
    | .yes => AOp P σ o fun e => AOs P ops draw rest (acc ++ [e]) K (σ.app o.dst e)
    | .no => AOs P ops draw rest (acc ++ [idleE]) K (σ.app o.dst idleE)
    | .ask d b want => askG b want (AOp P (σ.lit d want) o fun e => AOs P ops draw rest (acc ++ [e]) K ((σ.lit d want).app o.dst e)) (AOs P ops draw rest (acc ++ [idleE]) K ((σ.lit d (!want)).app o.dst idleE))
    | .bad => False)
  rw [AOs_eq]; exact propext Iff.rfl
theorem AOs_congr {P : Program} {ops : Array Oper} {d : Bool} {l : List Oper} {acc acc' : List Eff} {K : St → Prop} {σ σ' : St} (h1 : acc = acc') (h : σ = σ') : AOs P ops d l acc K σ = AOs P ops d l acc' K σ' := by rw [h1, h]
theorem AW.regionS {Γ : Ctx} {P : Program} {id : Nat} {ops : Array Oper} {draw : Bool} {Q : Exit → St → Prop} {σ : St} (hm : P.follows .mixedOrders = true) (hnd : noDefer ops = true) (h : AOs P ops draw ops.toList [] (fun σ' => Q .normal σ') σ) : AW Γ P (.region id ops draw) Q σ :=
  AW.region hm hnd (by rw [AOs_eq] at h; exact h)
theorem AW.regionK {Γ : Ctx} {P : Program} {id : Nat} {ops : Array Oper} {draw : Bool} {Q : Exit → St → Prop} {σ : St} (hm : P.follows .mixedOrders = true) (hnd : noDefer ops = true) (h : ∀ K : St → Prop, (∀ σ', Q .normal σ' → K σ') → AOs P ops draw ops.toList [] K σ) : AW Γ P (.region id ops draw) Q σ :=
  AW.regionS hm hnd (h _ fun _ q => q)
/-- What tests say, as they are read. -/
theorem hcS : (∀ {p : Prop} [Decidable p], (decide p = true) = p) ∧ (∀ {p : Prop} [Decidable p], decide p = false ↔ ¬p) ∧ (∀ (a b : Bool), ((a && b) = true) = (a = true ∧ b = true)) ∧ (∀ (a b : Bool), ((a || b) = true) = (a = true ∨ b = true)) ∧ (∀ {x y : Bool}, (x && y) = false ↔ x = false ∨ y = false) ∧ (∀ {x y : Bool}, (x || y) = false ↔ x = false ∧ y = false) ∧
    (∀ {a b : Int}, ¬a < b ↔ b ≤ a) ∧ (∀ {a b : Int}, ¬a ≤ b ↔ b < a) ∧ (∀ {α : Type} [BEq α] [LawfulBEq α] {a b : α}, (a == b) = true ↔ a = b) ∧ (∀ {α : Type} [BEq α] [LawfulBEq α] {a b : α}, (a != b) = true ↔ a ≠ b) ∧ (∀ {α : Type} (a b : α), (a ≠ b) = ¬a = b) ∧ (∀ {p : Prop} [Decidable p], ¬¬p ↔ p) ∧
    (∀ {α : Type} [BEq α] [LawfulBEq α] {a b : α}, (a == b) = false ↔ a ≠ b) ∧ (∀ {α : Type} [BEq α] [LawfulBEq α] {a b : α}, (a != b) = false ↔ a = b) ∧ (∀ {a b : Bool}, (!a) = b ↔ a = !b) ∧ ((!true) = false) ∧ ((!false) = true) ∧ (∀ {p : Prop} [Decidable p], true = decide p ↔ p) ∧ (∀ {p : Prop} [Decidable p], false = decide p ↔ ¬p) ∧ (∀ (b : Bool), (¬b = true) = (b = false)) ∧ (∀ (b : Bool), (¬b = false) = (b = true)) :=
  ⟨@decide_eq_true_eq, @decide_eq_false_iff_not, Bool.and_eq_true, Bool.or_eq_true, @Bool.and_eq_false_iff, @Bool.or_eq_false_iff, @Int.not_lt, @Int.not_le, @beq_iff_eq, @bne_iff_ne, @ne_eq, @Decidable.not_not, @beq_eq_false_iff_ne, @bne_eq_false_iff_eq, @Bool.not_eq_eq_eq_not, Bool.not_true, Bool.not_false, @true_eq_decide_iff, @false_eq_decide_iff, Bool.not_eq_true, Bool.not_eq_false⟩
end Go.Proofs.Ytfppilpaaoklaaa
