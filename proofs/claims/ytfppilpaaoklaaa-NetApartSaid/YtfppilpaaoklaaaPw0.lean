/- A piece of code in a round of a range over a function, or in none: the walk's laws for both. -/
import Derived.Test.YtfppilpaaoklaaaPw12
import Derived.RangeFuncNested
import Derived.RangeFuncCalls
import Derived.RangeFuncFrom
import Derived.OrdersIn
import Derived.TacticsIn
import Derived.OwnWalkIn
namespace Go.Proofs.Ytfppilpaaoklaaa
set_option linter.unusedSimpArgs false
set_option linter.unusedVariables false
open Go Go.RowKit

section
variable {P : Program} {ops : Array Oper} {Q : Exit → Act → World → Prop} {md : Region.Mode} {l n : Nat}

/-- It goes on, and in no other way. -/
def NormalOnly (Q : Exit → Act → World → Prop) : Exit → Act → World → Prop := fun e a w => e = .normal ∧ Q .normal a w
theorem not_letsOut (Q : Exit → Act → World → Prop) : ¬ LetsOut (NormalOnly Q) := fun ⟨_, _, h⟩ => by cases h.1

theorem opIn_of_wp {o : Oper} {a : Act} {w : World} {K K' : Act → World → Prop} (hd : ∀ c, o.op ≠ .defer c) (hk : ∀ a w, K a w → K' a w) (h : o.wp P a w K (NormalOnly Q)) : o.wpIn (Fence.wide.inRound l) n P a w K' Q := by
  refine ⟨fun f _ => trivial, ?_⟩
  rw [Oper.semAt_plain _ _ _ hd]
  unfold Oper.wp at h
  generalize (execOp a.eval o).run P w = r at *
  cases r with
  | ok x w' =>
    cases x with
    | value v => exact hk _ _ h
    | skip => exact hk _ _ h
    | defer d => exact hk _ _ h
    | enter f args => exact ⟨fun hh => (by cases hh), CallsIn.inRound l (callsIn_wide.2 (Calls.mono h (fun e w'' he => by
        cases e with
        | returned v => exact hk _ _ he
        | panicked c => cases he.1
        | outgrown => exact absurd he (not_letsOut Q))))⟩
    | row r args => exact ⟨fun hh => (by cases hh), fun c cs _ => let ⟨v, w'', hr, s⟩ := h c cs; ⟨v, w'', hk _ _ hr, stepsIn_wide.2 s⟩⟩
    | _ => exact h.elim
  | halt x w' =>
    cases x with
    | panic v => cases h.1
    | _ => exact h.elim

theorem wpAny_inRound (hnd : ∀ (i : Nat) (o : Oper), ops[i]? = some o → ∀ c, o.op ≠ .defer c) : ∀ (fuel : Nat) (listed : Array Bool) (a : Act) (w : World),
    wpAny P md ops (NormalOnly Q) fuel listed a w → wpAnyIn (Fence.wide.inRound l) n P md ops Q fuel listed a w
  | 0, _, _, _, h => ⟨h.1, h.2.2⟩
  | fuel + 1, listed, a, w, h => ⟨fun hr => (h.1 hr).2, fun i hi => by
      have hh := h.2 i hi
      unfold wpOp at hh
      unfold wpOpIn
      split
      · rename_i ho
        rw [ho] at hh
        exact wpAny_inRound hnd fuel _ _ _ hh
      · rename_i o ho
        rw [ho] at hh
        simp only at hh
        split
        · rename_i hw
          rw [if_pos hw] at hh
          rcases hh with hh | hh
          · exact opIn_of_wp (hnd i o ho) (fun a w h' => wpAny_inRound hnd fuel _ a w h') hh
          · exact absurd hh.2 (not_letsOut Q)
        · rename_i hw
          rw [if_neg hw] at hh
          exact ⟨fun _ _ => trivial, wpAny_inRound hnd fuel _ _ _ hh⟩⟩

theorem wpList_inRound : ∀ (ls : List Oper) (hnd : ∀ o ∈ ls, ∀ c, o.op ≠ .defer c) (a : Act) (w : World), wpList P ops (NormalOnly Q) ls a w → wpListIn (Fence.wide.inRound l) n P ops Q ls a w
  | [], _, a, w, h => h.2
  | o :: rest, hnd, a, w, h => by
    unfold wpList at h
    unfold wpListIn
    split
    · rename_i hw
      rw [if_pos hw] at h
      rcases h with h | h
      · exact opIn_of_wp (hnd o (by simp)) (fun a w h' => wpList_inRound rest (fun o' ho' => hnd o' (by simp [ho'])) a w h') h
      · exact absurd h.2 (not_letsOut Q)
    · rename_i hw
      rw [if_neg hw] at h
      exact ⟨fun _ _ => trivial, wpList_inRound rest (fun o' ho' => hnd o' (by simp [ho'])) _ _ h⟩

def noDefer (ops : Array Oper) : Bool := ops.toList.all fun o => match o.op with | .defer _ => false | _ => true
theorem noDefer_mem {ops : Array Oper} (h : noDefer ops = true) : ∀ o ∈ ops.toList, ∀ c, o.op ≠ .defer c := fun o ho c hc => by
  have h1 := List.all_eq_true.1 h o ho
  rw [hc] at h1
  cases h1
theorem noDefer_spec {ops : Array Oper} (h : noDefer ops = true) : ∀ (i : Nat) (o : Oper), ops[i]? = some o → ∀ c, o.op ≠ .defer c := fun i o ho =>
  noDefer_mem h o (by rw [← Array.getElem?_toList] at ho; exact List.mem_of_getElem? ho)
end

/-- In a round, or in none. -/
def wpG (md : Option Nat) (P : Program) (c : Code) (Q : Exit → Act → World → Prop) (a : Act) (w : World) : Prop :=
  match md with
  | none => c.wp P Q a w
  | some l => ∀ n, c.wpIn (Fence.wide.inRound l) n P Q a w
section
variable {md : Option Nat} {P : Program} {Q : Exit → Act → World → Prop} {a : Act} {w : World}
theorem wpG_mono {c : Code} {Q' : Exit → Act → World → Prop} (h : wpG md P c Q a w) (hq : ∀ e a w, Q e a w → Q' e a w) : wpG md P c Q' a w := by
  cases md with
  | none => exact Go.wp_mono h hq
  | some l => exact fun n => wpIn_mono (h n) hq
theorem wpG_skip (h : Q .normal a w) : wpG md P .skip Q a w := by
  cases md with
  | none => exact wp_skip h
  | some l => exact fun n => wpIn_skip h
theorem wpG_exit {id : Nat} (h : Q (.exit id) a w) : wpG md P (.exit id) Q a w := by
  cases md with
  | none => exact wp_exit h
  | some l => exact fun n => wpIn_exit h
theorem wpG_ret (h : Q .ret a w) : wpG md P .ret Q a w := by
  cases md with
  | none => exact wp_ret h
  | some l => exact fun n => wpIn_ret h
theorem wpG_label {l : Nat} (h : Q .normal a w) : wpG md P (.label l) Q a w := by
  cases md with
  | none => exact wp_label h
  | some l => exact fun n => wpIn_label h
theorem wpG_seq {x y : Code} (h : wpG md P x (Exit.then (fun a w => wpG md P y Q a w) Q) a w) : wpG md P (.seq x y) Q a w := by
  cases md with
  | none => exact wp_seq h
  | some l => exact fun n => wpIn_seq (wpIn_mono (h n) fun e a w q => by
      cases e with
      | normal => exact q n
      | _ => exact q)
theorem wpG_block {id : Nat} {c : Code} (h : wpG md P c (Exit.inBlock id Q) a w) : wpG md P (.block id c) Q a w := by
  cases md with
  | none => exact wp_block h
  | some l => exact fun n => wpIn_block (h n)
theorem wpG_cond {c : Operand} {x y : Code} {t : Bool} (hc : a.eval c = .bool t) (ht : t = true → wpG md P x Q a w) (hf : t = false → wpG md P y Q a w) : wpG md P (.cond c x y) Q a w := by
  cases md with
  | none => exact wp_cond_split hc ht hf
  | some l => exact fun n => wpIn_cond_split hc (fun h => ht h n) (fun h => hf h n)
theorem wpG_loop {c : Code} (I : Act → World → Prop) (μ : Act → World → Nat) (h₀ : I a w) (round : ∀ a w, I a w → wpG md P c (Exit.then (fun a' w' => I a' w' ∧ μ a' w' < μ a w) Q) a w) : wpG md P (.loop c) Q a w := by
  cases md with
  | none => exact wp_loop I μ h₀ round
  | some l => exact fun n => wpIn_loop I μ h₀ fun a w h => round a w h n
theorem wpG_list {id : Nat} {ops : Array Oper} (hnd : noDefer ops = true) (h : ∀ Q' : Exit → Act → World → Prop, (∀ a w, Q .normal a w → Q' .normal a w) → wpList P ops Q' ops.toList a w) : wpG md P (.region id ops false) Q a w := by
  cases md with
  | none => exact wp_region_list (h Q fun _ _ q => q)
  | some l => exact fun n => wpIn_region_list (wpList_inRound _ (noDefer_mem hnd) _ _ (h (NormalOnly Q) fun _ _ q => ⟨rfl, q⟩))
theorem wpG_any {id : Nat} {ops : Array Oper} (hm : P.follows .mixedOrders = true) (hnd : noDefer ops = true)
    (h : ∀ Q' : Exit → Act → World → Prop, (∀ a w, Q .normal a w → Q' .normal a w) → wpAny P .any ops Q' ops.size (Array.replicate ops.size false) a { w with drawn := w.drawn + 1 }) : wpG md P (.region id ops true) Q a w := by
  cases md with
  | none => exact wp_region_any hm (h Q fun _ _ q => q)
  | some l => exact fun n => wpIn_region_any hm (wpAny_inRound (noDefer_spec hnd) _ _ _ _ (h (NormalOnly Q) fun _ _ q => ⟨rfl, q⟩))
end
end Go.Proofs.Ytfppilpaaoklaaa
