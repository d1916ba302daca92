/- The bound: a world handed in. -/
import Derived.Test.YthnkfhgiiimjfaaPwBs
namespace Go.Proofs.Ythnkfhgiiimjfaa
set_option linter.unusedSimpArgs false
set_option linter.unusedVariables false
open Go Go.RowKit
attribute [local congr] AW_congr AOs_congr aCall_congr aCall1_congr aSem_congr aSliceO_congr aBuildO_congr aStoreO_congr
attribute [local go_sem] rowsE_length rowsE_get Option.map_map shiftE_rows List.take_length
set_option maxRecDepth 100000


theorem shape_bytes : Shape 22 (fun bs => [bytesL bs]) (fun bs => bs.length ≤ 140737488351232) :=
  (shape_slice (shape_u8 Try.underlying5) Try.underlying22 (b := 1) (by kernel_rfl)).map id (fun x => rfl) (fun x h => by simpa using h.2.1)
theorem shape_rawSl {t e : TypeId} (ht : Try.prog.underlying t = some (.slice e)) : Shape t (fun v : Value => [.sc v]) (fun _ => True) := fun W H enc n cs y hy hw => by
  rcases Go.Deep.open_slice ht hy with ⟨rfl, _⟩ | ⟨a, len, cap, m, k, D, Pl, rfl, _, _⟩
  · exact ⟨_, trivial, RLs.one rfl (RL.sc _)⟩
  · exact ⟨_, trivial, RLs.one rfl (RL.sc _)⟩
theorem shape_rawI {t : TypeId} (ht : Try.prog.underlying t = some (.int .i64)) : Shape t (fun v : Value => [.sc v]) (fun _ => True) := (shape_i64 ht).map (fun n => Value.int .i64 n) (fun _ => rfl) (fun _ _ => trivial)
theorem shape_rawU {t : TypeId} (ht : Try.prog.underlying t = some (.int .u64)) : Shape t (fun v : Value => [.sc v]) (fun _ => True) := (shape_u64 ht).map (fun n => Value.int .u64 (n : Int)) (fun _ => rfl) (fun _ _ => trivial)
theorem shape_rawB {t : TypeId} (ht : Try.prog.underlying t = some .bool) : Shape t (fun v : Value => [.sc v]) (fun _ => True) := (shape_bool ht).map (fun b => Value.bool b) (fun _ => rfl) (fun _ _ => trivial)
theorem shape_ints : Shape 27 (fun ns : List Int => [rowsL intC ns]) (fun ns => ns.length ≤ 140737488351232) :=
  (shape_slice (shape_i64 Try.underlying3) Try.underlying27 (b := 8) (by kernel_rfl)).map id (fun x => rfl) (fun x h => by have := h.2.1; simp only [id]; omega)
theorem shape_bools : Shape 35 (fun ns : List Bool => [rowsL boolC ns]) (fun _ => True) :=
  (shape_slice (shape_bool Try.underlying4) Try.underlying35 (b := 1) (by kernel_rfl)).map id (fun x => rfl) (fun x h => trivial)
theorem shape_cf : Shape 25 cfC (fun _ => True) := by
  have b := shape_struct (n := 11) Try.underlying25 (by kernel_rfl) (shapeF_c 1 10 shape_bytes (shapeF_c 1 9 (shape_i64 Try.underlying3) (shapeF_c 1 8 (shape_i64 Try.underlying3) (shapeF_c 1 7 (shape_i64 Try.underlying3) (shapeF_c 1 6 (shape_i64 Try.underlying3) (shapeF_c 1 5 (shape_i64 Try.underlying3) (shapeF_c 1 4 (shape_i64 Try.underlying3) (shapeF_c 1 3 (shape_i64 Try.underlying3) (shapeF_c 1 2 (shape_i64 Try.underlying3) (shapeF_c 1 1 (shape_u64 Try.underlying23) (shapeF_c 1 0 (shape_u64 Try.underlying23) shapeF_nil rfl rfl (by kernel_rfl)) rfl rfl (by kernel_rfl)) rfl rfl (by kernel_rfl)) rfl rfl (by kernel_rfl)) rfl rfl (by kernel_rfl)) rfl rfl (by kernel_rfl)) rfl rfl (by kernel_rfl)) rfl rfl (by kernel_rfl)) rfl rfl (by kernel_rfl)) rfl rfl (by kernel_rfl)) rfl rfl (by kernel_rfl))
  exact b.map (fun x => ⟨x.1, x.2.1, x.2.2.1, x.2.2.2.1, x.2.2.2.2.1, x.2.2.2.2.2.1, x.2.2.2.2.2.2.1, x.2.2.2.2.2.2.2.1, x.2.2.2.2.2.2.2.2.1, x.2.2.2.2.2.2.2.2.2.1, x.2.2.2.2.2.2.2.2.2.2.1⟩) (fun x => rfl) (fun x h => trivial)
theorem OpnR.cf {W : World} {v : Value} (h : OpnR W 25 v) : ∃ c, RT (Cx (fun _ => True) W.heap.size) h0 μ0 W (cfT c) v := by
  obtain ⟨cs, hc⟩ := h.cells_agg Try.underlying25
  obtain ⟨c, _, r⟩ := h.agg shape_cf cs hc _ (fun _ => trivial)
  exact ⟨c, r⟩
theorem shape_netW : Shape 29 (fun x : Value × List Int => [.sc x.1, rowsL intC x.2]) (fun x => x.2.length ≤ 140737488351232) := by
  have b := shape_struct (n := 2) Try.underlying29 (by kernel_rfl) (shapeF_c 1 1 (shape_rawSl Try.underlying26) (shapeF_c 1 0 shape_ints shapeF_nil rfl rfl (by kernel_rfl)) rfl rfl (by kernel_rfl))
  exact b.map (fun x => (x.1, x.2.1)) (fun x => rfl) (fun x h => h.2.1)
theorem shape_stmW : Shape 31 (fun x : Value × Nat × List Int => [.sc x.1, .sc (.int .u64 (x.2.1 : Int)), rowsL intC x.2.2]) (fun x => x.2.2.length ≤ 140737488351232) := by
  have b := shape_struct (n := 3) Try.underlying31 (by kernel_rfl) (shapeF_c 1 2 (shape_rawU Try.underlying23) (shapeF_c 1 1 (shape_u64 Try.underlying23) (shapeF_c 1 0 shape_ints shapeF_nil rfl rfl (by kernel_rfl)) rfl rfl (by kernel_rfl)) rfl rfl (by kernel_rfl))
  exact b.map (fun x => (x.1, x.2.1, x.2.2.1)) (fun x => rfl) (fun x h => h.2.2.1)
theorem shape_postW : Shape 34 (fun x : Value × (Value × Nat × List Int) × Value => [.sc x.1, .sc x.2.1.1, .sc (.int .u64 (x.2.1.2.1 : Int)), rowsL intC x.2.1.2.2, .sc x.2.2]) (fun x => x.2.1.2.2.length ≤ 140737488351232) := by
  have b := shape_struct (n := 5) Try.underlying34 (by kernel_rfl) (shapeF_c 1 4 (shape_rawI Try.underlying3) (shapeF_c 3 1 shape_stmW (shapeF_c 1 0 (shape_rawSl Try.underlying32) shapeF_nil rfl rfl (by kernel_rfl)) rfl rfl (by kernel_rfl)) rfl rfl (by kernel_rfl))
  exact b.map (fun x => (x.1, x.2.1, x.2.2.1)) (fun x => rfl) (fun x h => h.2.1)
theorem shape_storeW : Shape 43 (fun x : Value × Value => [.sc x.1, .sc x.2]) (fun _ => True) := by
  have b := shape_struct (n := 2) Try.underlying43 (by kernel_rfl) (shapeF_c 1 1 (shape_rawSl Try.underlying40) (shapeF_c 1 0 (shape_rawSl Try.underlying41) shapeF_nil rfl rfl (by kernel_rfl)) rfl rfl (by kernel_rfl))
  exact b.map (fun x => (x.1, x.2.1)) (fun x => rfl) (fun x h => trivial)
theorem shape_sharedW : Shape 45 (fun x : Value × Value × Value => [.sc x.1, .sc x.2.1, .sc x.2.2]) (fun _ => True) := by
  have b := shape_struct (n := 3) Try.underlying45 (by kernel_rfl) (shapeF_c 1 2 (shape_rawSl Try.underlying27) (shapeF_c 2 0 shape_storeW shapeF_nil rfl rfl (by kernel_rfl)) rfl rfl (by kernel_rfl))
  exact b.map (fun x => (x.1, x.2.1.1, x.2.1.2)) (fun x => rfl) (fun x h => trivial)
/-- What a coordinator's cells hold, as they stand. -/
structure CoW where
  v2 : Value
  v3 : Value
  ro : Nat
  ch : List Int
  v4 : Value
  sb : List Int
  v5 : Value
  v6 : Value
  v7 : Value
  v8 : Value
  v9 : Value
  v10 : Value
def coC (x : CoW) : List L := [.sc x.v2, .sc x.v3, .sc (.int .u64 (x.ro : Int)), rowsL intC x.ch, .sc x.v4, rowsL intC x.sb, .sc x.v5, .sc x.v6, .sc x.v7, .sc x.v8, .sc x.v9, .sc x.v10]
theorem shape_coW : Shape 37 coC (fun x => x.ch.length ≤ 140737488351232) := by
  have b := shape_struct (n := 12) Try.underlying37 (by kernel_rfl) (shapeF_c 5 7 shape_postW (shapeF_c 1 6 shape_ints (shapeF_c 1 5 (shape_rawI Try.underlying3) (shapeF_c 1 4 (shape_rawB Try.underlying4) (shapeF_c 1 3 (shape_rawSl Try.underlying35) (shapeF_c 1 2 (shape_rawSl Try.underlying35) (shapeF_c 1 1 (shape_rawB Try.underlying4) (shapeF_c 1 0 (shape_rawB Try.underlying4) shapeF_nil rfl rfl (by kernel_rfl)) rfl rfl (by kernel_rfl)) rfl rfl (by kernel_rfl)) rfl rfl (by kernel_rfl)) rfl rfl (by kernel_rfl)) rfl rfl (by kernel_rfl)) rfl rfl (by kernel_rfl)) rfl rfl (by kernel_rfl))
  exact b.map (fun x => ⟨x.1.1, x.1.2.1.1, x.1.2.1.2.1, x.1.2.1.2.2, x.1.2.2, x.2.1, x.2.2.1, x.2.2.2.1, x.2.2.2.2.1, x.2.2.2.2.2.1, x.2.2.2.2.2.2.1, x.2.2.2.2.2.2.2.1⟩) (fun x => rfl) (fun x h => h.1)
structure WlW where
  v : Nat → Value
  fs : List Int
  ro : Nat
  ch : List Int
  sb : List Int
  dd : List Bool
  hl : Bool
def pickV (l : List Value) (i : Nat) : Value := l.getD i (.tuple #[])
theorem shape_wld : Shape 48 (fun x : WlW => wldC x.v x.fs x.ro x.ch x.sb x.dd x.hl) (fun x => x.ch.length ≤ 140737488351232) := by
  have b := shape_struct (n := 23) Try.underlying48 (by kernel_rfl) (shapeF_c 1 22 (shape_rawI Try.underlying3) (shapeF_c 2 20 shape_netW (shapeF_c 12 8 shape_coW (shapeF_c 1 7 (shape_rawSl Try.underlying38) (shapeF_c 1 6 shape_bools (shapeF_c 1 5 (shape_rawSl Try.underlying39) (shapeF_c 3 2 shape_sharedW (shapeF_c 1 1 (shape_rawSl Try.underlying46) (shapeF_c 1 0 (shape_bool Try.underlying4) shapeF_nil rfl rfl (by kernel_rfl)) rfl rfl (by kernel_rfl)) rfl rfl (by kernel_rfl)) rfl rfl (by kernel_rfl)) rfl rfl (by kernel_rfl)) rfl rfl (by kernel_rfl)) rfl rfl (by kernel_rfl)) rfl rfl (by kernel_rfl)) rfl rfl (by kernel_rfl))
  exact b.map (fun x => ⟨pickV [x.1, x.2.1.1, x.2.2.1.v2, x.2.2.1.v3, x.2.2.1.v4, x.2.2.1.v5, x.2.2.1.v6, x.2.2.1.v7, x.2.2.1.v8, x.2.2.1.v9, x.2.2.1.v10, x.2.2.2.1, x.2.2.2.2.2.1, x.2.2.2.2.2.2.1.1, x.2.2.2.2.2.2.1.2.1, x.2.2.2.2.2.2.1.2.2, x.2.2.2.2.2.2.2.1], x.2.1.2, x.2.2.1.ro, x.2.2.1.ch, x.2.2.1.sb, x.2.2.2.2.1, x.2.2.2.2.2.2.2.2.1⟩) (fun x => rfl) (fun x h => h.2.2.1)
theorem OpnR.wld {W : World} {v : Value} (h : OpnR W 48 v) : ∃ x : WlW, x.ch.length ≤ 140737488351232 ∧ RT (Cx (fun _ => True) W.heap.size) h0 μ0 W (wldT x.v x.fs x.ro x.ch x.sb x.dd x.hl) v := by
  obtain ⟨cs, hc⟩ := h.cells_agg Try.underlying48
  exact h.agg shape_wld cs hc _ (fun _ => trivial)
theorem OpnR.i64 {W : World} {v : Value} (h : OpnR W 3 v) : ∃ n : Int, RT (Cx (fun _ => True) W.heap.size) h0 μ0 W (intT n) v := by
  obtain ⟨n, _, r⟩ := h.leaf (l := fun n => .sc (.int .i64 n)) (shape_i64 Try.underlying3) (fun _ => rfl) (h.cells_int Try.underlying3) _ (fun _ => trivial)
  exact ⟨n, r⟩
theorem live_pc : PC Try.prog 7 [] [] (boolT true) := by
  have R : PC Try.prog 13 [intT 0, intT 1] [] (intT 3) := by
    refine PC.of_body Try.func13 rfl ?_
    intro Γ _ _
    simp only [Try.ntmps13, List.length_cons, List.length_nil, Nat.reduceAdd, Nat.reduceSub, List.replicate_succ, List.replicate_zero, List.cons_append, List.nil_append]
    repeat' (first
    | (with_reducible first | refine AW.seq ?_ | refine AW.block ?_ | refine AW.ret ?_ | refine AW.skip ?_ | refine AW.exit ?_)
    | ((refine AW.cond (by rfl) (fun hc => ?_) (fun hc => ?_)) <;> (try simp only [hcS] at hc) <;> (try first | contradiction | (exfalso; omega)))
    | ((refine AW.condB (by rfl) (fun hc => ?_) (fun hc => ?_)))
    | ((first | (with_reducible refine AW.regionK mo (by kernel_rfl) ?_; intro K hK) | (with_reducible refine aSliceO.l ?_) | (with_reducible refine aBuildO.l ?_) | (with_reducible refine aStoreO.l ?_)); simp (maxSteps := 2000000) only [↓askG_tt, ↓askG_ff, ↓askG_tf, ↓askG_ft, ↓AOp, ↓aBin, ↓aUn, ↓aConv, ↓aAlloc, ↓aBox, ↓aBuild, ↓aLoad, ↓aStore, ↓aNil, ↓aFieldAddr, ↓aField, ↓aExtract, ↓aIndexAddr, ↓aIndex, ↓aSlice, ↓aMake, ↓aBuildSlice, ↓aFrz, ↓aLen, ↓aAppend, ↓aCopy, Nat.reduceAdd, Nat.reduceSub, Nat.reduceMul, Nat.reduceLT, Nat.reduceLeDiff, Nat.reduceEqDiff, Int.reduceToNat, Int.reduceBEq, Int.reduceBNe, Int.reduceEq, Int.reduceNe, Int.reduceNeg, Int.reduceLE, Int.reduceLT, reduceIte, reduceCtorEq, go_sem, Nat.add_sub_cancel, Nat.add_one_sub_one, Nat.sub_zero, Nat.mul_one, shiftP, shiftT, shiftC, shiftL, shiftB, newIds, idsOfT, List.zipIdx_cons, List.zipIdx_nil, Int.reduceAdd, show IntKind.i64.wrap 1 = 1 from wrap_i64 1 (by omega), show IntKind.i64.wrap 3 = 3 from wrap_i64 3 (by omega)])
    | (with_reducible refine hK _ ?_; clear hK K)
    | (with_reducible refine askG.mk (fun hg => ?_) (fun hg => ?_) <;> (try simp only [hcS] at hg) <;> (try first | contradiction | (exfalso; omega)))
    | ((with_reducible refine And.intro ?_ ?_); focus (first | (with_reducible show pairsOk _ _ = true; kernel_rfl) | omega | (with_reducible assumption) | kernel_rfl | (exact rowsE_len _) | (exact rowsE_allP _) | ((simp [allP_nil, allP_cons, persL]; done)) | (simp; done) | (simp; omega)))
    | ((with_reducible first | show inBlockS _ _ _ _ | show thenS _ _ _ _); simp only [inBlockS, thenS, reduceIte, Nat.reduceEqDiff]))
    all_goals (refine ⟨_, [], rfl, ⟨rfl, ?_, ?_, ?_⟩⟩ <;> simp [go_sem, Nat.add_sub_cancel, Nat.add_one_sub_one, Nat.sub_zero, Nat.mul_one, finP, finPs, viewP, viewPs, finT, finC, finCs, finL, finLs, finBs, viewOk, viewsOk, persL, inT, inC, inCs, inL, inLs, ndB, allP_nil, allP_cons, allP_append])
  refine PC.of_body Try.func7 rfl ?_
  intro Γ _ _
  simp only [Try.ntmps7, List.length_cons, List.length_nil, Nat.reduceAdd, Nat.reduceSub, List.replicate_succ, List.replicate_zero, List.cons_append, List.nil_append]
  repeat' (first
    | (with_reducible first | refine AW.seq ?_ | refine AW.block ?_ | refine AW.ret ?_ | refine AW.skip ?_ | refine AW.exit ?_)
    | ((refine AW.cond (by rfl) (fun hc => ?_) (fun hc => ?_)) <;> (try simp only [hcS] at hc) <;> (try first | contradiction | (exfalso; omega)))
    | ((refine AW.condB (by rfl) (fun hc => ?_) (fun hc => ?_)))
    | ((first | (refine aCall.pers (R) fnOk13 ?_ ?_ ?_ ?_; (focus rfl); (focus rfl); (focus (simp [persT, persL]; done))) | (with_reducible refine AW.regionK mo (by kernel_rfl) ?_; intro K hK) | (with_reducible refine aSliceO.l ?_) | (with_reducible refine aBuildO.l ?_) | (with_reducible refine aStoreO.l ?_)); simp (maxSteps := 2000000) only [↓askG_tt, ↓askG_ff, ↓askG_tf, ↓askG_ft, ↓AOp, ↓aBin, ↓aUn, ↓aConv, ↓aAlloc, ↓aBox, ↓aBuild, ↓aLoad, ↓aStore, ↓aNil, ↓aFieldAddr, ↓aField, ↓aExtract, ↓aIndexAddr, ↓aIndex, ↓aSlice, ↓aMake, ↓aBuildSlice, ↓aFrz, ↓aLen, ↓aAppend, ↓aCopy, Nat.reduceAdd, Nat.reduceSub, Nat.reduceMul, Nat.reduceLT, Nat.reduceLeDiff, Nat.reduceEqDiff, Int.reduceToNat, Int.reduceBEq, Int.reduceBNe, Int.reduceEq, Int.reduceNe, Int.reduceNeg, Int.reduceLE, Int.reduceLT, reduceIte, reduceCtorEq, go_sem, Nat.add_sub_cancel, Nat.add_one_sub_one, Nat.sub_zero, Nat.mul_one, shiftP, shiftT, shiftC, shiftL, shiftB, newIds, idsOfT, List.zipIdx_cons, List.zipIdx_nil])
    | (with_reducible refine hK _ ?_; clear hK K)
    | (with_reducible refine askG.mk (fun hg => ?_) (fun hg => ?_) <;> (try simp only [hcS] at hg) <;> (try first | contradiction | (exfalso; omega)))
    | ((with_reducible refine And.intro ?_ ?_); focus (first | (with_reducible show pairsOk _ _ = true; kernel_rfl) | omega | (with_reducible assumption) | kernel_rfl | (exact rowsE_len _) | (exact rowsE_allP _) | ((simp [allP_nil, allP_cons, persL]; done)) | (simp; done) | (simp; omega)))
    | ((with_reducible first | show inBlockS _ _ _ _ | show thenS _ _ _ _); simp only [inBlockS, thenS, reduceIte, Nat.reduceEqDiff]))
  all_goals (refine ⟨_, [], rfl, ⟨rfl, ?_, ?_, ?_⟩⟩ <;> simp [go_sem, Nat.add_sub_cancel, Nat.add_one_sub_one, Nat.sub_zero, Nat.mul_one, finP, finPs, viewP, viewPs, finT, finC, finCs, finL, finLs, finBs, viewOk, viewsOk, persL, inT, inC, inCs, inL, inLs, ndB, allP_nil, allP_cons, allP_append])
end Go.Proofs.Ythnkfhgiiimjfaa
