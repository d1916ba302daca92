/- The body of a range over a function: its regions by the walk's plain laws. Own words. -/
import Derived.RangeFuncNested
import Derived.RangeFuncCalls
import Derived.OrdersIn
import Derived.StillTail
import Derived.StillTailTactics
import Derived.OwnWalkIn
import Derived.Deep.RegionHeld3
namespace Go.Proofs.Ytoahkaongmlfkaa
open Go Go.RowKit

section
variable {P : Program} {ops : Array Oper} {Q : Exit → Act → World → Prop} {md : Region.Mode} {l n : Nat}

/-- It goes on, and in no other way. -/
def NormalOnly (Q : Exit → Act → World → Prop) : Exit → Act → World → Prop := fun e a w => e = .normal ∧ Q .normal a w
theorem not_letsOut (Q : Exit → Act → World → Prop) : ¬ LetsOut (NormalOnly Q) := fun ⟨_, _, h⟩ => by cases h.1

theorem opIn_of_wp {o : Oper} {a : Act} {w : World} {K K' : Act → World → Prop} (hd : ∀ c, o.op ≠ .defer c) (hk : ∀ a w, K a w → K' a w) (h : o.wp P a w K (NormalOnly Q)) : o.wpIn (Fence.wide.inRound l) n P a w K' Q := by
  refine ⟨fun f _ => trivial, ?_⟩
  rw [Oper.semAt_plain _ _ _ hd]
  unfold Oper.wp at h
  generalize (execOp a.eval o).run P w = r at *
  cases r with
  | ok x w' =>
    cases x with
    | value v => exact hk _ _ h
    | skip => exact hk _ _ h
    | defer d => exact hk _ _ h
    | enter f args => exact ⟨fun hh => (by cases hh), CallsIn.inRound l (callsIn_wide.2 (Calls.mono h (fun e w'' he => by
        cases e with
        | returned v => exact hk _ _ he
        | panicked c => cases he.1
        | outgrown => exact absurd he (not_letsOut Q))))⟩
    | row r args => exact ⟨fun hh => (by cases hh), fun c cs _ => let ⟨v, w'', hr, s⟩ := h c cs; ⟨v, w'', hk _ _ hr, stepsIn_wide.2 s⟩⟩
    | _ => exact h.elim
  | halt x w' =>
    cases x with
    | panic v => cases h.1
    | _ => exact h.elim

theorem wpAny_inRound (hnd : ∀ (i : Nat) (o : Oper), ops[i]? = some o → ∀ c, o.op ≠ .defer c) : ∀ (fuel : Nat) (listed : Array Bool) (a : Act) (w : World),
    wpAny P md ops (NormalOnly Q) fuel listed a w → wpAnyIn (Fence.wide.inRound l) n P md ops Q fuel listed a w
  | 0, _, _, _, h => ⟨h.1, h.2.2⟩
  | fuel + 1, listed, a, w, h => ⟨fun hr => (h.1 hr).2, fun i hi => by
      have hh := h.2 i hi
      unfold wpOp at hh
      unfold wpOpIn
      split
      · rename_i ho
        rw [ho] at hh
        exact wpAny_inRound hnd fuel _ _ _ hh
      · rename_i o ho
        rw [ho] at hh
        simp only at hh
        split
        · rename_i hw
          rw [if_pos hw] at hh
          rcases hh with hh | hh
          · exact opIn_of_wp (hnd i o ho) (fun a w h' => wpAny_inRound hnd fuel _ a w h') hh
          · exact absurd hh.2 (not_letsOut Q)
        · rename_i hw
          rw [if_neg hw] at hh
          exact ⟨fun _ _ => trivial, wpAny_inRound hnd fuel _ _ _ hh⟩⟩

def noDefer (ops : Array Oper) : Bool := ops.all fun o => match o.op with | .defer _ => false | _ => true
theorem noDefer_spec {ops : Array Oper} (h : noDefer ops = true) : ∀ (i : Nat) (o : Oper), ops[i]? = some o → ∀ c, o.op ≠ .defer c := fun i o ho c hc => by
  have h1 := Array.all_eq_true.1 h i (Array.getElem?_eq_some_iff.1 ho).1
  rw [(Array.getElem?_eq_some_iff.1 ho).2, hc] at h1
  cases h1

/-- Reads in whatever order, then the rest in the text's order. -/
theorem wpIn_region_still_tail {id : Nat} {a : Act} {w : World} {l' : List Oper} (k : Nat) (hm : P.follows .mixedOrders = true) (hd : noDefer l'.toArray = true) (hB : Region.lexTailB .any l'.toArray k = true)
    (h : wpStill P l'.toArray { w with drawn := w.drawn + 1 } (fun a' => wpList P l'.toArray (NormalOnly Q) (l'.drop k) a' { w with drawn := w.drawn + 1 }) (l'.take k) a) : (Code.region id l'.toArray true).wpIn (Fence.wide.inRound l) n P Q a w := by
  simp only [Region.lexTailB, Bool.and_eq_true, decide_eq_true_eq] at hB
  obtain ⟨⟨⟨⟨hsel, hn⟩, hs⟩, hc⟩, hlex⟩ := hB
  have hn' : k < l'.length := by simpa using hn
  have htl : (l'.take k).length = k := by simp; omega
  have hdl : (l'.drop k).length = l'.toArray.size - k := by simp
  have inv0 : HeadInv .any l'.toArray k (Array.replicate l'.toArray.size false) :=
    ⟨by simp, fun j oj _ hl => (by rw [getD_replicate_false] at hl; cases hl), fun t _ ht => getD_in (by simpa using ht) (getD_replicate_false _ _)⟩
  have H := wpAnyL_lex (md := .any) (g := l'.toArray.size - k) hsel hs hc hn (l'.take k) 0 _ a (fun j hj => by
    have hj' : j < k := by rw [htl] at hj; exact hj
    simp [hj']) (by simpa using htl) inv0 (by rw [htl]; exact hlex) h
  refine wpIn_region_any hm (wpAny_inRound (noDefer_spec hd) _ _ _ _ ?_)
  have := wpAny_of_head (Q' := NormalOnly Q) (g := l'.toArray.size - k) (fun listed a' hL => by
    have := wpAny_of_seq (md := .any) (Q' := NormalOnly Q) (l'.drop k) k listed a' { w with drawn := w.drawn + 1 } (fun j => by simp [List.getElem?_drop]) (by rw [hdl]; exact hL.1) hL.2
    rwa [hdl] at this) _ _ _ H
  rw [htl, show k + (l'.toArray.size - k) = l'.toArray.size by omega] at this
  exact this
/-- A region whose orders are walked under a condition. -/
theorem wpIn_region_heldR {id : Nat} {a : Act} {w : World} (S : World → Prop) (hm : P.follows .mixedOrders = true) (hd : noDefer ops = true) (hS : S w.drew)
    (h : S w.drew → wpAnyH P .any ops (NormalOnly Q) S ops.size (Array.replicate ops.size false) a w.drew) : (Code.region id ops true).wpIn (Fence.wide.inRound l) n P Q a w :=
  wpIn_region_any hm (wpAny_inRound (noDefer_spec hd) _ _ _ _ (wpAny_of_held _ _ _ _ (h hS)))
theorem cell_farE {w : World} {p q : Addr} {u : Value} (hne : q.block ≠ p.block) : (w.setCell p u).cell? q = w.cell? q := by
  unfold World.cell? at *
  rw [Below.heap_setCell w p u q.block hne]
theorem cell_far {w : World} {p q : Addr} {v u : Value} (hne : q.block ≠ p.block) (h : w.cell? q = some v) : (w.setCell p u).cell? q = some v := by
  unfold World.cell? at *
  rw [Below.heap_setCell w p u q.block hne]
  exact h
theorem frozen_far {w : World} {p q : Addr} {u : Value} (hne : q.block ≠ p.block) (h : w.frozen? q = false) : (w.setCell p u).frozen? q = false := by
  unfold World.frozen? at *
  rw [Below.heap_setCell w p u q.block hne]
  exact h
end
end Go.Proofs.Ytoahkaongmlfkaa
