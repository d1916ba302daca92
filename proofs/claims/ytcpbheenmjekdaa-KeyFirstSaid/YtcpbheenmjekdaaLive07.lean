/- The chapter's example of key. -/
import Derived.Test.YtcpbheenmjekdaaKeyC
import Derived.Test.YtcpbheenmjekdaaKeyN
namespace Go.Proofs.Ytcpbheenmjekdaa
set_option linter.unusedSimpArgs false
set_option linter.unusedVariables false
open Go.RowKit

def plainC : CfgD := ⟨2, 1, 2, 3, 4, 20, 5, 4, 1, 1⟩
def zeroC : CfgD := ⟨0, 0, 0, 0, 0, 0, 0, 0, 0, 0⟩
abbrev plainV : Value := .agg #[.slice none 0 0, .int .i64 2, .int .i64 1, .int .i64 2, .int .i64 3, .int .i64 4, .int .i64 20, .int .i64 5, .int .i64 4, .int .u64 1, .int .u64 1]
abbrev zeroV : Value := .agg #[.slice none 0 0, .int .i64 0, .int .i64 0, .int .i64 0, .int .i64 0, .int .i64 0, .int .i64 0, .int .i64 0, .int .i64 0, .int .u64 0, .int .u64 0]

theorem plain_any (w : World) : Calls Try.prog 22 #[] w fun e w' => e = .returned plainV ∧ Below w.heap.size w w' := by
  go_enter Try.func22, Try.ntmps22
  go_wp2_with fail
  refine bodyPost_ret (v := plainV) (by simp [results, Try.results22, go_sem]) rfl ?_
  exact ⟨rfl, (Below.refl _ _).alloc (Nat.le_refl _) _⟩

theorem live07_any (w : World) : Calls Try.prog 7 #[] w fun e w' => e = .returned (.bool true) ∧ Below w.heap.size w w' := by
  have K1 : Hid (∀ w, Calls Try.prog 8 #[plainV] w fun e w' => e = .returned (.int .i64 0) ∧ Below w.heap.size w w') := Lib.hid fun w => keyCheck_any w none 0 0 plainC
  have K2 : Hid (∀ w, Calls Try.prog 8 #[zeroV] w fun e w' => e = .returned (.int .i64 1) ∧ Below w.heap.size w w') := Lib.hid fun w => keyCheck_any w none 0 0 zeroC
  have hp : CfgSmall plainC := ⟨by decide, by decide, by decide, by decide, by decide, by decide⟩
  have N0 : Hid (∀ w, Calls Try.prog 19 #[plainV, .int .i64 0] w fun e w' => e = .returned (.int .i64 4) ∧ Below w.heap.size w w') := Lib.hid fun w => keyNode_any w none 0 0 plainC hp 0
  have N1 : Hid (∀ w, Calls Try.prog 19 #[plainV, .int .i64 1] w fun e w' => e = .returned (.int .i64 5) ∧ Below w.heap.size w w') := Lib.hid fun w => keyNode_any w none 0 0 plainC hp 1
  have P := Lib.hid plain_any
  have hbw := Below.refl w.heap.size w
  go_enter Try.func7, Try.ntmps7
  go_wp2_with (first | (go_at_call 22; refine (P.out _).mono ?_; rintro e w2 ⟨rfl, hb⟩; replace hbw := after_next hbw hb; clear hb) | (go_at_call 8; first | (with_reducible refine (K1.out _).mono ?_; rintro e w2 ⟨rfl, hb⟩; replace hbw := after_next hbw hb; clear hb) | (with_reducible refine (K2.out _).mono ?_; rintro e w2 ⟨rfl, hb⟩; replace hbw := after_next hbw hb; clear hb)) | (go_at_call 19; first | (with_reducible refine (N0.out _).mono ?_; rintro e w2 ⟨rfl, hb⟩; replace hbw := after_next hbw hb; clear hb) | (with_reducible refine (N1.out _).mono ?_; rintro e w2 ⟨rfl, hb⟩; replace hbw := after_next hbw hb; clear hb)))
  go_ret
  exact ⟨by simp, hbw⟩
end Go.Proofs.Ytcpbheenmjekdaa
