/- Strings out of bytes, and the answer of Same. -/
import Derived.Test.YtoahkaongmlfkaaBase
namespace Go.Proofs.Ytoahkaongmlfkaa
set_option linter.unusedSimpArgs false
set_option linter.unusedVariables false
open Go.RowKit

/-! ### A string out of bytes -/

def strOf (bs : List UInt8) : ByteArray := ⟨bs.toArray⟩
theorem strOf_list (bs : List UInt8) : (strOf bs).toList = bs := by
  rw [ByteArray.toList_eq]; simp [strOf]

theorem fold_bytes (bs : List UInt8) : ∀ s : ByteArray, (bs.map fun x => (x.toNat : Int)).foldl (fun r n => r.push (UInt8.ofNat n.toNat)) s = ⟨s.data ++ bs.toArray⟩ := by
  induction bs with
  | nil => intro s; simp
  | cons x l ih =>
    intro s
    rw [List.map_cons, List.foldl_cons, ih]
    have e : UInt8.ofNat ((x.toNat : Int).toNat) = x := by simp
    rw [e]
    simp [ByteArray.push]

theorem run_string_of {P : Program} {w : World} {src dst e : TypeId} (hs : P.underlying src = some (.slice e)) (he : P.underlying e = some (.int .u8)) (hd : P.underlying dst = some .string)
    {B : Nat} {A : Option Addr} {n c : Nat} {bs : List UInt8} (h : SlB w B A n c bs) : (convert src dst (.slice A n c)).run P w = .ok (.string (strOf bs)) w := by
  rw [run_convert_bytes_string w src dst e A n c hs he hd]
  rcases A with _ | p
  · have hb : bs = [] := by
      rcases bs with _ | ⟨x, l⟩
      · rfl
      · obtain ⟨q, e, _⟩ := h.rd 0 (bv x) rfl
        cases e
    subst hb
    simp [Conv.bytesToString, strOf]; rfl
  · have hcells : (loadCells p n).run P w = .ok ((bs.map fun x => (x.toNat : Int)).map (Value.int .u8)).toArray w := by
      have := run_loadCells_list (P := P) w p (bs.map bv) (fun j v hv => by
        obtain ⟨q, e, _, hc⟩ := h.rd j v hv
        injection e with e
        subst e
        exact hc)
      rw [List.length_map, h.len] at this
      rw [this, List.map_map]
      rfl
    rw [run_bytesToString w p n c _ hcells, fold_bytes]
    simp [strOf]

/-- Two lists of bytes are the same just if they are, as the walk asks it of strings. -/
theorem beq_bytes (a b : List UInt8) : ((strOf a).toList == (strOf b).toList) = decide (a = b) := by
  rw [strOf_list, strOf_list, Bool.eq_iff_iff]; simp

theorem Same_any (w : World) (B B' : Nat) (A A' : Option Addr) (n c n' c' : Nat) (a b : List UInt8) (ha : SlB w B A n c a) (hb : SlB w B' A' n' c' b) :
    Calls Try.prog 24 #[.slice A n c, .slice A' n' c'] w fun e w' => e = .returned (.bool (decide (a = b))) ∧ w = w' := by
  have h1 := run_string_of Try.underlying44 Try.underlying5 Try.underlying9 ha
  have h2 := run_string_of Try.underlying44 Try.underlying5 Try.underlying9 hb
  go_enter Try.func24, Try.ntmps24
  go_wp2
  go_ret
  refine ⟨?_, rfl⟩
  rw [← beq_bytes]
  rfl
end Go.Proofs.Ytoahkaongmlfkaa
