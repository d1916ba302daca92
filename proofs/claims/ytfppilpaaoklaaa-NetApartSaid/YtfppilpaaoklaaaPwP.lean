/- The walk over plain values: rows of whatever. -/
import Derived.Test.YtfppilpaaoklaaaPwN
import Derived.Test.YtfppilpaaoklaaaPwO
namespace Go.Proofs.Ytfppilpaaoklaaa
set_option linter.unusedSimpArgs false
set_option linter.unusedVariables false
open Go Go.RowKit
theorem allP_nil : allP [] = True := by simp [allP]
theorem allP_cons {e : List L} {es : List (List L)} : allP (e :: es) = ((∀ l ∈ e, persL l = true) ∧ allP es) := by simp [allP]
theorem allP_append {a b : List (List L)} : allP (a ++ b) = (allP a ∧ allP b) := by simp [allP, or_imp, forall_and]
/-- How a datum lies in cells, read for good. -/
class Enc {α : Type} (E : α → List L) (n : outParam Nat) : Prop where
  len : ∀ x, (E x).length = n
  pers : ∀ x, ∀ l ∈ E x, persL l = true
  shift : ∀ x k, (E x).map (shiftL k) = E x
def rowsE {α : Type} (E : α → List L) (xs : List α) : List (List L) := xs.map E
section
variable {α : Type} {E : α → List L} {n : Nat}
@[simp] theorem rowsE_length (xs : List α) : (rowsE E xs).length = xs.length := by simp [rowsE]
@[simp] theorem rowsE_nil : rowsE E [] = [] := rfl
theorem rowsE_cons (x : α) (xs : List α) : rowsE E (x :: xs) = E x :: rowsE E xs := rfl
theorem rowsE_append (a b : List α) : rowsE E a ++ rowsE E b = rowsE E (a ++ b) := by simp [rowsE]
theorem rowsE_snoc (a : List α) (x : α) : rowsE E (a ++ [x]) = rowsE E a ++ [E x] := by simp [rowsE]
theorem rowsE_take (a : List α) (n : Nat) : (rowsE E a).take n = rowsE E (a.take n) := by simp [rowsE]
theorem rowsE_take_self (a : List α) : (rowsE E a).take a.length = rowsE E a := by rw [rowsE_take, List.take_length]
theorem rowsE_drop (a : List α) (n : Nat) : (rowsE E a).drop n = rowsE E (a.drop n) := by simp [rowsE]
theorem rowsE_get (a : List α) (i : Nat) : (rowsE E a)[i]? = (a[i]?).map E := by simp [rowsE]
theorem rowsE_set (a : List α) (i : Nat) (x : α) : (rowsE E a).set i (E x) = rowsE E (a.set i x) := by simp [rowsE, List.map_set]
theorem rowsE_len [h : Enc E n] (xs : List α) : ∀ r ∈ rowsE E xs, r.length = n := by
  intro r hr
  obtain ⟨x, _, rfl⟩ := List.mem_map.1 hr
  exact h.len x
@[simp] theorem rowsE_allP [h : Enc E n] (xs : List α) : allP (rowsE E xs) := by
  intro r hr l hl
  obtain ⟨x, _, rfl⟩ := List.mem_map.1 hr
  exact h.pers x l hl
theorem shiftE_rows [h : Enc E n] {k : Nat} (xs : List α) : (rowsE E xs).map (fun e => e.map (shiftL k)) = rowsE E xs := by
  rw [rowsE, List.map_map]
  exact List.map_congr_left fun x _ => h.shift x k
@[simp] theorem leEs_nil {ρ : List Nat} : leEs ρ [] [] := leEs_self (by intro e he; cases he)
@[simp] theorem leEs_rows [h : Enc E n] {ρ : List Nat} (xs : List α) : leEs ρ (rowsE E xs) (rowsE E xs) := leEs_self (rowsE_allP xs)
@[simp] theorem leEs_snoc [h : Enc E n] {ρ : List Nat} (xs : List α) (x : α) : leEs ρ (rowsE E xs ++ [E x]) (rowsE E (xs ++ [x])) := by rw [rowsE_snoc]; exact leEs_self (by rw [← rowsE_snoc]; exact rowsE_allP _)
theorem leEs_bytes {ρ : List Nat} (bs : List UInt8) : leEs ρ (bytesE bs) (bytesE bs) := leEs_self (bytesE_allP bs)
@[simp] theorem inEs_rows [h : Enc E n] {k : Nat} (xs : List α) : inEs k (rowsE E xs) := .inl (rowsE_allP xs)
@[simp] theorem inEs_bytes {k : Nat} (xs : List UInt8) : inEs k (bytesE xs) := .inl (bytesE_allP xs)
end
abbrev rowsL {α : Type} (E : α → List L) (xs : List α) : L := .sl (rowsE E xs)
abbrev rowsT {α : Type} (E : α → List L) (xs : List α) : T := .leaf (rowsL E xs)
/-! ### Texts, numbers, truths -/
def textC (t : List UInt8) : List L := [bytesL t]
instance : Enc textC 1 := ⟨fun _ => rfl, fun x l hl => by simp [textC] at hl; subst hl; rfl, fun x k => rfl⟩
@[simp] theorem leEs_snoc_text {ρ : List Nat} (xs : List (List UInt8)) (x : List UInt8) : leEs ρ (rowsE textC xs ++ [[bytesL x]]) (rowsE textC (xs ++ [x])) := leEs_snoc (E := textC) xs x
def intC (n : Int) : List L := [.sc (.int .i64 n)]
instance : Enc intC 1 := ⟨fun _ => rfl, fun x l hl => by simp [intC] at hl; subst hl; rfl, fun x k => rfl⟩
def numC (n : Nat) : List L := [.sc (.int .u64 (n : Int))]
instance : Enc numC 1 := ⟨fun _ => rfl, fun x l hl => by simp [numC] at hl; subst hl; rfl, fun x k => rfl⟩
def booC (b : Bool) : List L := [.sc (.bool b)]
instance : Enc booC 1 := ⟨fun _ => rfl, fun x l hl => by simp [booC] at hl; subst hl; rfl, fun x k => rfl⟩
abbrev numT (n : Nat) : T := .leaf (.sc (.int .u64 (n : Int)))
theorem rows_shape {α : Type} {t e : TypeId} {E : α → List L} {ok : α → Prop} {b : Nat} (he : Shape e E ok) (ht : Try.prog.underlying t = some (.slice e)) (hb : Try.prog.bytesOf e = b) :
    Shape t (fun xs : List α => [rowsL E xs]) (fun xs => (∀ x ∈ xs, ok x) ∧ xs.length * b ≤ 140737488351232 ∧ xs.length ≤ 9223372036854775807) := shape_slice he ht hb
theorem OpnR.byte_s {W : World} {v : Value} (h : OpnR W 26 v) : ∃ bs : List UInt8, bs.length ≤ 140737488351232 ∧ RT (Cx (fun _ => True) W.heap.size) h0 μ0 W (bytesT bs) v := by
  have sh : Shape 26 (fun bs => [bytesL bs]) (fun bs => bs.length ≤ 140737488351232) := (shape_slice (shape_u8 Try.underlying5) Try.underlying26 (b := 1) (by kernel_rfl)).map id (fun x => rfl) (fun x h => by simpa using h.2.1)
  exact h.leaf sh (fun _ => rfl) (h.cells_slice Try.underlying26) _ (fun _ => trivial)
end Go.Proofs.Ytfppilpaaoklaaa
