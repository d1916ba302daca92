/- What a shuffle by draws comes to. -/
import Derived.Test.YtoahkaongmlfkaaPermI
import Derived.Test.YtoahkaongmlfkaaRound
import Derived.Test.YtoahkaongmlfkaaReg
namespace Go.Proofs.Ytoahkaongmlfkaa
set_option linter.unusedSimpArgs false
set_option linter.unusedVariables false
open Go.RowKit Go.Shelf
attribute [local go_sem] Oper.semAt_some

def swapL (p : List Int) (i j : Nat) : List Int := (p.set i (p.getD j 0)).set j (p.getD i 0)
theorem swapL_len (p : List Int) (i j : Nat) : (swapL p i j).length = p.length := by simp [swapL]
def shufA (ds p0 : List Int) (pre : List Nat) : List Int × Nat := pre.foldl (fun st i => (swapL st.1 i (leftS (ds.getD st.2 0) (i + 1)), st.2 + 1)) (p0, 0)
theorem shufA_snoc (ds p0 : List Int) (pre : List Nat) (i : Nat) : shufA ds p0 (pre ++ [i]) = (swapL (shufA ds p0 pre).1 i (leftS (ds.getD (shufA ds p0 pre).2 0) (i + 1)), (shufA ds p0 pre).2 + 1) := by
  simp [shufA]
theorem snocN (l : List Nat) : l = [] ∨ ∃ r x, l = r ++ [x] := by
  rcases List.eq_nil_or_concat l with h | ⟨r, x, h⟩
  · exact .inl h
  · exact .inr ⟨r, x, by simpa using h⟩
theorem shufA_facts (ds p0 : List Int) (pre : List Nat) : (shufA ds p0 pre).1.length = p0.length ∧ (shufA ds p0 pre).2 = pre.length := by
  generalize hk : pre.length = k
  induction k generalizing pre with
  | zero => rw [List.eq_nil_of_length_eq_zero hk]; simp [shufA]
  | succ k ih =>
    rcases snocN pre with rfl | ⟨r, x, rfl⟩
    · simp at hk
    · have := ih r (by simpa using hk)
      rw [shufA_snoc, swapL_len, this.1, this.2]
      exact ⟨rfl, rfl⟩
def idL (n : Nat) : List Int := (List.range n).map fun i : Nat => (i : Int)
theorem idL_len (n : Nat) : (idL n).length = n := by simp [idL]
theorem idL_next (n : Nat) : idL (n + 1) = idL n ++ [(n : Int)] := by unfold idL; rw [List.range_succ, List.map_append]; rfl
/-- P11.1. -/
def shufS (ds : List Int) (n : Nat) : List Int := (shufA ds (idL n) (downL n)).1
theorem shufS_len (ds : List Int) (n : Nat) : (shufS ds n).length = n := by unfold shufS; rw [(shufA_facts _ _ _).1, idL_len]

section
variable {w w' : World} {base n c : Nat} {A : Option Addr} {zs : List Int}
theorem OwnI.cell {g j : Nat} (h : OwnI w base (some ⟨g, 0, none⟩) n c zs) (hj : j < n) : w.cell? ⟨g, j, none⟩ = some (.int .i64 (zs.getD j 0)) := by
  have hk : j < zs.length := by rw [h.len]; exact hj
  rw [World.ownsRow.cellAt h j (by omega)]
  simp [hk, iv]
theorem OwnI.free {g : Nat} (h : OwnI w base (some ⟨g, 0, none⟩) n c zs) (j : Nat) : w.frozen? ⟨g, j, none⟩ = false := World.ownsRow.frozenAt h j
theorem OwnI.store {g : Nat} (h : OwnI w base (some ⟨g, 0, none⟩) n c zs) (j : Nat) (z : Int) : OwnI (w.setCell ⟨g, j, none⟩ (.int .i64 z)) base (some ⟨g, 0, none⟩) n c (zs.set j z) := by
  have := (World.ownsRow.stored h j (iv z)).1
  unfold OwnI Own
  rw [List.map_set]
  exact this
theorem OwnI.far {g : Nat} (h : OwnI w base (some ⟨g, 0, none⟩) n c zs) {p : Addr} (hp : g ≠ p.block) (u : Value) : OwnI (w.setCell p u) base (some ⟨g, 0, none⟩) n c zs := by
  refine ⟨h.1, ?_⟩
  rcases h.2 with ⟨h', hx⟩ | ⟨g', cap, cur, h', hb, hg, r⟩
  · exact .inl ⟨h', hx⟩
  · injection h' with hA hn hc
    injection hA with hA
    injection hA with hA
    subst hA
    exact .inr ⟨g, cap, cur, by rw [hc], hb, (Below.heap_setCell w p u g hp).trans hg, r⟩
theorem OwnI.kept' {row : Option Nat} (h : OwnI w base A n c zs) (hg : w.grownBy w' row) (hr : ∀ r, row = some r → ∃ o : Obj, w.heap[r]? = some o ∧ o.isCells = false) : OwnI w' base A n c zs := by
  refine ⟨h.1, ?_⟩
  rcases h.2 with hn | ⟨g, cap, cur, h', hbg, hgg, r⟩
  · exact .inl hn
  · refine .inr ⟨g, cap, cur, h', hbg, (hg.block g (Array.getElem?_eq_some_iff.1 hgg).1 (fun e => ?_)).trans hgg, r⟩
    obtain ⟨o, ho, hc⟩ := hr g e.symm
    rw [hgg] at ho
    cases ho
    simp [Obj.isCells] at hc
end

/-- make([]int, n). -/
theorem wpList_make_i {w : World} {ops : Array Oper} {rest : List Oper} {o : Oper} {a : Act} {Q : Exit → Act → World → Prop}
    (hg : o.guard = none) (l c : Operand) (hop : o.op = Op.makeSlice 22 l c) (base n : Nat) (hl : a.eval l = .int .i64 (n : Int)) (hc : a.eval c = .int .i64 (n : Int))
    (b3 : n ≤ 1000000) (b4 : base ≤ w.heap.size)
    (hK : ∀ w', OwnI w' base (some ⟨w.heap.size, 0, none⟩) n n (List.replicate n 0) → Below w.heap.size w w' → w.heap.size < w'.heap.size →
      wpList Try.prog ops Q rest (a.put o.dst (.slice (some ⟨w.heap.size, 0, none⟩) n n)) w') : wpList Try.prog ops Q (o :: rest) a w := by
  refine wpList_make_rd tyI64 hg l c hop base _ _ n hl hc (by omega) (by unfold maxLen; omega) b4 fun w' h1 h2 h3 => hK w' ?_ ((Below.refl _ _).grown h2 (Nat.le_refl _) (by simp)) h3
  have e : (madeCells (Value.int .i64 0).cells (n * 1)).toList = (List.replicate n (0 : Int)).map iv := by
    rw [Nat.mul_one, List.map_replicate]
    exact toList_madeCells_one (.int .i64 0) n
  rw [e] at h1
  exact h1

set_option maxHeartbeats 1000000 in
set_option maxRecDepth 100000 in
theorem shuffle_ok (w : World) (B : Nat) (A : Option Addr) (m c : Nat) (zs : List Int) (n : Nat) (h : SlI w B A m c zs) (hB : B ≤ w.heap.size) (hm : m ≤ 140737488355328) (hz : ∀ z ∈ zs, -9223372036854775808 ≤ z ∧ z ≤ 9223372036854775807) (hn : n ≤ 1024) :
    Calls Try.prog 11 #[.int .i64 (n : Int), .slice A m c] w fun e w' => ∃ A' c', e = .returned (.tuple #[.slice A' n c', .int .i64 ((min (n - 1) m : Nat) : Int), .int .i64 0]) ∧ OwnI w' w.heap.size A' n c' (shufS zs n) ∧ Below w.heap.size w w' := by
  have hlen := Lib.hid h.len
  have hn0 : ¬ (n : Int) < 0 := by omega
  have hn1 : ¬ (n : Int) > 1024 := by omega
  have hwn : IntKind.i64.wrap ((n : Int) - 1) = (n : Int) - 1 := IntWalk.i64_in _ ⟨by omega, by omega⟩
  refine (callsIn_wide (n := 5)).1 (callsIn_of_wp_marks Try.func11 rfl trivial ?_ rfl)
  simp only [Try.ntmps11, List.size_toArray, List.length_cons, List.length_nil, Nat.reduceAdd, Nat.reduceSub, Array.replicate_succ, Array.replicate_zero, List.push_toArray, List.append_toArray, List.nil_append, List.cons_append]
  refine wpIn_wide.2 ?_
  have hbd := (Below.refl w.heap.size w).alloc (Nat.le_refl _) (.cells #[.slice A m c] 22)
  have RD := Row.new w 22 #[.slice A m c]
  go_wp2_with (at_make; refine wpList_make_i rfl _ _ rfl (w.heap.size + 1) n rfl rfl (by omega) (by simp) ?_; intro w1 ho1 hb1 hlt1; simp only [World.size_alloc] at ho1 hlt1; replace RD := (RD.below hb1 (by simp)).alloc (.cells #[.slice (some ⟨w.heap.size + 1, 0, none⟩) n n] 22); replace hbd := after_lay (hbd.trans (hb1.mono (by simp))) (.cells #[.slice (some ⟨w.heap.size + 1, 0, none⟩) n n] 22); replace ho1 := ho1.alloc (.cells #[.slice (some ⟨w.heap.size + 1, 0, none⟩) n n] 22); have RP := Row.new w1 22 #[.slice (some ⟨w.heap.size + 1, 0, none⟩) n n]; have kp := RP.cell 0; simp only [List.getElem?_toArray, List.getElem?_cons_zero] at kp)
  have hgp : w.heap.size + 1 < w1.heap.size := hlt1
  have hsz : w1.heap.size < (w1.alloc (.cells #[.slice (some ⟨w.heap.size + 1, 0, none⟩) n n] 22)).heap.size := by simp
  generalize w1.heap.size = gp at *
  generalize (w1.alloc (.cells #[.slice (some ⟨w.heap.size + 1, 0, none⟩) n n] 22)) = w2 at *
  clear hb1 kp
  go_loopw [23] (fun i wr => ∃ k : Nat, k ≤ n ∧ i = .int .i64 k ∧ Row wr w.heap.size 22 #[.slice A m c] ∧ Row wr gp 22 #[.slice (some ⟨w.heap.size + 1, 0, none⟩) n n] ∧ OwnI wr (w.heap.size + 1) (some ⟨w.heap.size + 1, 0, none⟩) n n (idL k ++ List.replicate (n - k) 0) ∧ Below w.heap.size w wr ∧ gp < wr.heap.size) (fun i _ => n - (intOf i).toNat)
  case atStart => exact ⟨0, Nat.zero_le _, rfl, RD, RP, ho1.cast (by simp [idL]), hbd, hsz⟩
  case round =>
    obtain ⟨k, hk, rfl, QD, QP, hown, hb, hz2⟩ := hrel
    have kp := QP.cell 0
    simp at kp
    by_cases hlt : k < n
    · have hc := hown.cell hlt
      have hf := hown.free k
      have hki : (k : Int) < n := by omega
      go_wp2_with fail
      go_roundw
      case rel =>
        refine ⟨k + 1, by omega, by simp, QD.far (by simp) _, QP.far (by simp; omega) _, (hown.store k (k : Int)).cast ?_, hb.setCell (by simp) _, by simpa using hz2⟩
        have hl : (idL k).length = k := idL_len k
        rw [idL_next, List.set_append_right _ _ (by omega), hl, Nat.sub_self, show n - k = (n - (k + 1)) + 1 by omega, List.replicate_succ, List.set_cons_zero, List.append_assoc]
        rfl
      case measure => simp [intOf]; omega
    · obtain rfl : k = n := by omega
      have hi0 : OwnI wr (w.heap.size + 1) (some ⟨w.heap.size + 1, 0, none⟩) k k (idL k) := hown.cast (by simp)
      have hkk : ¬ (k : Int) < k := by omega
      go_wp2_with (go_at_call 22; refine (down_any _ _ _).mono ?_; rintro e w3 ⟨rfl, rfl⟩)
      have hzr : wr.heap.size < wr.heap.size + 1 := Nat.lt_succ_self _
      have RU := ((Row.new wr 3 #[.int .i64 0]).alloc (.cells #[.int .i64 ((k : Int) - 1)] 3)).alloc (.cells #[.int .i64 1] 3)
      have RB := (Row.new (wr.alloc (.cells #[.int .i64 0] 3)) 3 #[.int .i64 ((k : Int) - 1)]).alloc (.cells #[.int .i64 1] 3)
      have RC := Row.new ((wr.alloc (.cells #[.int .i64 0] 3)).alloc (.cells #[.int .i64 ((k : Int) - 1)] 3)) 3 #[.int .i64 1]
      simp only [World.size_alloc] at RB RC
      have cu := RU.cell 0
      have fu := RU.free 0
      have cb1 : _ = some (Value.int .i64 ((k : Int) - 1)) := RB.cell 0
      have cb2 : _ = some (Value.int .i64 1) := RC.cell 0
      have cp := ((((QP.alloc (.cells #[.int .i64 0] 3)).alloc (.cells #[.int .i64 ((k : Int) - 1)] 3)).alloc (.cells #[.int .i64 1] 3))).cell 0
      have cd := ((((QD.alloc (.cells #[.int .i64 0] 3)).alloc (.cells #[.int .i64 ((k : Int) - 1)] 3)).alloc (.cells #[.int .i64 1] 3))).cell 0
      have oi := ((hi0.alloc (.cells #[.int .i64 0] 3)).alloc (.cells #[.int .i64 ((k : Int) - 1)] 3)).alloc (.cells #[.int .i64 1] 3)
      have hb9 := after_lay (after_lay (after_lay hb (.cells #[.int .i64 0] 3)) (.cells #[.int .i64 ((k : Int) - 1)] 3)) (.cells #[.int .i64 1] 3)
      have hs9 : (((wr.alloc (.cells #[.int .i64 0] 3)).alloc (.cells #[.int .i64 ((k : Int) - 1)] 3)).alloc (.cells #[.int .i64 1] 3)).heap.size = wr.heap.size + 1 + 1 + 1 := by simp
      generalize (((wr.alloc (.cells #[.int .i64 0] 3)).alloc (.cells #[.int .i64 ((k : Int) - 1)] 3)).alloc (.cells #[.int .i64 1] 3)) = W0 at *
      have hgr : gp < wr.heap.size := hz2
      have hwr : w.heap.size ≤ wr.heap.size := hb.size
      generalize wr.heap.size = gu at *
      clear RU RB RC QP QD hi0 hown hb
      have cp' : W0.cell? ⟨gp, 0, none⟩ = some (.slice (some ⟨w.heap.size + 1, 0, none⟩) k k) := cp
      have cd' : W0.cell? ⟨w.heap.size, 0, none⟩ = some (.slice A m c) := cd
      clear cp cd
      refine (wpIn_wide (n := 5)).1 ?_
      refine' wpIn_rangeFunc_ownF rfl (by decide) (gf := 25) (lb := #[.pointer (some ⟨gu + 1, 0, none⟩), .pointer (some ⟨gu + 1 + 1, 0, none⟩)]) rfl trivial (enters_of Try.func25 (by kernel_rfl) rfl)
        (down_stops 4 k (by decide) (by omega) (gu + 1) (gu + 1 + 1) W0 (by omega) (by omega) cb1 cb2) (fun h1 h2 => h2.trans h1)
        (fun W l o o' hl h h1 h2 => (belowK_b (n₀ := gu + 1 + 1 + 1) (w := W0) (by omega) W l o o' hl h h1 h2).cell (p := ⟨gu + 1 + 1, 0, none⟩) (by simp)) (Below.refl _ _) (fun _ => rfl)
        (fun pre W => (W.cell? ⟨gp, 0, none⟩ = some (.slice (some ⟨w.heap.size + 1, 0, none⟩) k k) ∧ W.cell? ⟨w.heap.size, 0, none⟩ = some (.slice A m c) ∧ (W.cell? ⟨gu, 0, none⟩ = some (.int .i64 ((min pre.length m : Nat) : Int)) ∧ W.frozen? ⟨gu, 0, none⟩ = false) ∧ OwnI W (w.heap.size + 1) (some ⟨w.heap.size + 1, 0, none⟩) k k (shufA zs (idL k) (pre.map (·.1))).1) ∧ Below w.heap.size w W)
        (fun _ _ _ => False)
        (OwnFrom.and (Go.Own.from (fun s A B row hs hg hr => ⟨cell_kept hs.1 hg hr, cell_kept hs.2.1 hg hr, ⟨cell_kept hs.2.2.1.1 hg hr, (frozen_kept hs.2.2.1.1 hg hr).trans hs.2.2.1.2⟩, hs.2.2.2.kept' hg hr⟩) _) (ownFrom_below (Nat.le_refl _) (by omega)))
        (fun _ _ _ _ _ hs _ _ => hs)
        ⟨⟨cp', cd', ⟨by simpa using cu, fu⟩, oi.cast (by simp [shufA])⟩, hb9⟩
        _ ?assign ?body ?done ?stop
      case assign =>
        intro l x W K hK
        gi_wp2
        exact hK
      case body =>
        rintro l pre ⟨i, hi1, hi2⟩ W ⟨⟨hcp, hcd, ⟨hcu, hfu⟩, hown⟩, hbw⟩ hlen'
        have hfx := shufA_facts zs (idL k) (pre.map (·.1))
        rw [idL_len, List.length_map] at hfx
        have hst : (shufA zs (idL k) ((pre ++ [(⟨i, hi1, hi2⟩ : Idx k)]).map (·.1))).1 = swapL (shufA zs (idL k) (pre.map (·.1))).1 i (leftS (zs.getD pre.length 0) (i + 1)) := by
          rw [List.map_append, List.map_singleton, shufA_snoc, hfx.2]
        have HST := Lib.hid hst
        clear hst
        generalize (shufA zs (idL k) (pre.map (·.1))).1 = xs at *
        have hxl := hfx.1
        clear hfx
        have hii : (i : Int) < k := by omega
        have hwi : IntKind.i64.wrap ((i : Int) + 1) = (i : Int) + 1 := IntWalk.i64_in _ ⟨by omega, by omega⟩
        have hii : (i : Int) < k := by omega
        have hwi : IntKind.i64.wrap ((i : Int) + 1) = (i : Int) + 1 := IntWalk.i64_in _ ⟨by omega, by omega⟩
        have hii : (i : Int) < k := by omega
        have hwi : IntKind.i64.wrap ((i : Int) + 1) = (i : Int) + 1 := IntWalk.i64_in _ ⟨by omega, by omega⟩
        have hii : (i : Int) < k := by omega
        have hwi : IntKind.i64.wrap ((i : Int) + 1) = (i : Int) + 1 := IntWalk.i64_in _ ⟨by omega, by omega⟩
        by_cases hmm : pre.length < m
        · rw [Nat.min_eq_left (by omega)] at hcu
          obtain ⟨p, z, rfl, hpb, hcell, hzk⟩ := (h.below (hbw.mono hB)).at_ hmm
          have hzv : zs.getD pre.length 0 = z := by simp [List.getD, hzk]
          have hzr := hz z (List.mem_of_getElem? hzk)
          have L := fun w => leftOver_any w z (i + 1) hzr (by omega) (by omega)
          rw [Int.natCast_add] at L
          have hj := (leftS_val z (i + 1) (by omega)).2.1
          rw [hzv] at HST
          generalize leftS z (i + 1) = j at *
          have LH := Lib.hid L
          clear L hzv hzk
          have hmi : ((pre.length : Nat) : Int) < m := by omega
          have hjj : (j : Int) < k := by omega
          have hwu : IntKind.i64.wrap ((pre.length : Int) + 1) = (pre.length : Int) + 1 := IntWalk.i64_in _ ⟨by omega, by omega⟩
          have q1 := ((Below.refl gu W).setCell (p := ⟨gu, 0, none⟩) (Nat.le_refl _) (.int .i64 ((pre.length : Int) + 1))).cell (p := ⟨gp, 0, none⟩) hgr
          rw [hcp] at q1
          have hown1 := hown.far (p := ⟨gu, 0, none⟩) (by simp; omega) (.int .i64 ((pre.length : Int) + 1))
          have ci := hown1.cell hi2
          have cj := hown1.cell (j := j) (by omega)
          obtain ⟨xi, hxi⟩ : ∃ v, Hid (xs.getD i 0 = v) := ⟨_, Lib.hid rfl⟩
          obtain ⟨xj, hxj⟩ : ∃ v, Hid (xs.getD j 0 = v) := ⟨_, Lib.hid rfl⟩
          rw [hxi.out] at ci
          rw [hxj.out] at cj
          have fi := hown1.free i
          have fj := hown1.free j
          gi_wp2_with (refine ⟨trivial, ?_⟩; gi_at_call 23; refine (CallsIn.inRound l ((callsIn_wide).2 (LH.out _))).mono ?_; rintro e w' ⟨rfl, rfl⟩)
          refine wpIn_region_heldR (fun w' => w'.cell? ⟨gp, 0, none⟩ = some (.slice (some ⟨w.heap.size + 1, 0, none⟩) k k)) (by kernel_rfl) (by kernel_rfl) q1 (fun hS => ?_)
          refine wpAnyH_take (i := 0) (v := ?_) rfl (by kernel_rfl) (by kernel_rfl) (by kernel_rfl) (fun _ _ _ h => by cases h.1) (Or.inl ⟨by rfl, ?_⟩) (by assumption) ?_
          rotate_left
          · intro w' hS'
            go_simp
            try with_reducible rfl
          simp only [Act.put, List.setIfInBounds_toArray, List.set_cons_zero, List.set_cons_succ]
          refine wpAnyH_take (i := 1) (v := ?_) rfl (by kernel_rfl) (by kernel_rfl) (by kernel_rfl) (fun _ _ _ h => by cases h.1) (Or.inl ⟨by rfl, ?_⟩) (by assumption) ?_
          rotate_left
          · intro w' hS'
            go_simp
            try with_reducible rfl
          simp only [Act.put, List.setIfInBounds_toArray, List.set_cons_zero, List.set_cons_succ]
          refine wpAnyH_take (i := 2) (v := ?_) rfl (by kernel_rfl) (by kernel_rfl) (by kernel_rfl) (fun _ _ _ h => by cases h.1) (Or.inl ⟨by rfl, ?_⟩) (by assumption) ?_
          rotate_left
          · intro w' hS'
            go_simp
            try with_reducible rfl
          simp only [Act.put, List.setIfInBounds_toArray, List.set_cons_zero, List.set_cons_succ]
          refine wpAnyH_take (i := 3) (v := ?_) rfl (by kernel_rfl) (by kernel_rfl) (by kernel_rfl) (fun _ _ _ h => by cases h.1) (Or.inl ⟨by rfl, ?_⟩) (by assumption) ?_
          rotate_left
          · intro w' hS'
            go_simp
            try with_reducible rfl
          simp only [Act.put, List.setIfInBounds_toArray, List.set_cons_zero, List.set_cons_succ]
          refine wpAnyH_take (i := 4) (v := ?_) rfl (by kernel_rfl) (by kernel_rfl) (by kernel_rfl) (fun _ _ _ h => by cases h.1) (Or.inl ⟨by rfl, ?_⟩) (by assumption) ?_
          rotate_left
          · intro w' hS'
            go_simp
            try with_reducible rfl
          simp only [Act.put, List.setIfInBounds_toArray, List.set_cons_zero, List.set_cons_succ]
          refine wpAnyH_take (i := 5) (v := ?_) rfl (by kernel_rfl) (by kernel_rfl) (by kernel_rfl) (fun _ _ _ h => by cases h.1) (Or.inl ⟨by rfl, ?_⟩) (by assumption) ?_
          rotate_left
          · intro w' hS'
            go_simp
            try with_reducible rfl
          simp only [Act.put, List.setIfInBounds_toArray, List.set_cons_zero, List.set_cons_succ]
          refine wpAnyH_take (i := 6) (v := ?_) rfl (by kernel_rfl) (by kernel_rfl) (by kernel_rfl) (fun _ _ _ h => by cases h.1) (Or.inl ⟨by rfl, ?_⟩) (by assumption) ?_
          rotate_left
          · intro w' hS'
            go_simp
            try with_reducible rfl
          simp only [Act.put, List.setIfInBounds_toArray, List.set_cons_zero, List.set_cons_succ]
          refine wpAnyH_take (i := 8) (v := ?_) rfl (by kernel_rfl) (by kernel_rfl) (by kernel_rfl) (fun _ _ _ h => by cases h.1) (Or.inl ⟨by rfl, ?_⟩) (by assumption) ?_
          rotate_left
          · intro w' hS'
            go_simp
            try with_reducible rfl
          simp only [Act.put, List.setIfInBounds_toArray, List.set_cons_zero, List.set_cons_succ]
          refine wpAnyH_take (i := 9) (v := ?_) rfl (by kernel_rfl) (by kernel_rfl) (by kernel_rfl) (fun _ _ _ h => by cases h.1) (Or.inl ⟨by rfl, ?_⟩) (by assumption) ?_
          rotate_left
          · intro w' hS'
            go_simp
            try with_reducible rfl
          simp only [Act.put, List.setIfInBounds_toArray, List.set_cons_zero, List.set_cons_succ]
          refine wpAnyH_take (i := 10) (v := ?_) rfl (by kernel_rfl) (by kernel_rfl) (by kernel_rfl) (fun _ _ _ h => by cases h.1) (Or.inl ⟨by rfl, ?_⟩) (by assumption) ?_
          rotate_left
          · intro w' hS'
            go_simp
            try with_reducible rfl
          simp only [Act.put, List.setIfInBounds_toArray, List.set_cons_zero, List.set_cons_succ]
          refine wpAnyH_ready (rs := [7, 11]) (by kernel_rfl) (by simp) ?_
          refine AllReadyH.cons rfl (fun K hK => ?_) (AllReadyH.cons rfl (fun K hK => ?_) AllReadyH.nil)
          · go_simp
            refine hK.out _ _ hS (fun hS => ?_)
            clear hK K
            try simp only [Act.put, List.setIfInBounds_toArray, List.set_cons_zero, List.set_cons_succ]
            refine wpAnyH_ready (rs := [11]) (by kernel_rfl) (by simp) ?_
            refine AllReadyH.cons rfl (fun K hK => ?_) AllReadyH.nil
            go_simp
            refine hK.out _ _ hS (fun hS => ?_)
            clear hK K
            try simp only [Act.put, List.setIfInBounds_toArray, List.set_cons_zero, List.set_cons_succ]
            refine wpAnyH_take (i := 12) (v := ?_) rfl (by kernel_rfl) (by kernel_rfl) (by kernel_rfl) (fun _ _ _ h => by cases h.1) (Or.inl ⟨by rfl, ?_⟩) (by assumption) ?_
            rotate_left
            · intro w' hS'
              go_simp
              try with_reducible rfl
            simp only [Act.put, List.setIfInBounds_toArray, List.set_cons_zero, List.set_cons_succ]
            refine wpAnyH_ready (rs := [13]) (by kernel_rfl) (by simp) ?_
            refine AllReadyH.cons rfl (fun K hK => ?_) AllReadyH.nil
            go_simp
            have q2 := cell_far (p := ⟨w.heap.size + 1, i, none⟩) (u := .int .i64 (xj)) (q := ⟨gp, 0, none⟩) (by simp; omega) q1
            refine hK.out _ _ q2 (fun hS => ?_)
            clear hK K
            have hown2 := hown1.store i (xj)
            have cj2 := hown2.cell (j := j) (by omega)
            have fj2 := hown2.free j
            clear ci cj fi fj
            refine wpAnyH_take (i := 14) (v := ?_) rfl (by kernel_rfl) (by kernel_rfl) (by kernel_rfl) (fun _ _ _ h => by cases h.1) (Or.inl ⟨by rfl, ?_⟩) (by assumption) ?_
            rotate_left
            · intro w' hS'
              go_simp
              try with_reducible rfl
            simp only [Act.put, List.setIfInBounds_toArray, List.set_cons_zero, List.set_cons_succ]
            refine wpAnyH_ready (rs := [15]) (by kernel_rfl) (by simp) ?_
            refine AllReadyH.cons rfl (fun K hK => ?_) AllReadyH.nil
            go_simp
            have q3 := cell_far (p := ⟨w.heap.size + 1, j, none⟩) (u := .int .i64 (xi)) (q := ⟨gp, 0, none⟩) (by simp; omega) q2
            refine hK.out _ _ q3 (fun hS => ?_)
            clear hK K
            have hown3 := hown2.store j (xi)
            refine wpAnyH_done (by kernel_rfl) ?_ _
            refine ⟨rfl, ?_⟩
            gi_wp2
            refine ⟨(KeepsOthers.setCell _ _ _).trans ((KeepsOthers.setCell _ _ _).trans ((KeepsOthers.setCell _ _ _).trans (KeepsOthers.drew _))), ?_, ⟨q3, ?_, ⟨?_, ?_⟩, ?_⟩, ?_⟩
            · show ((((W.setCell ⟨gu, 0, none⟩ (.int .i64 ((pre.length : Int) + 1)))).setCell _ _).setCell _ _).cell? _ = _
              rw [cell_farE (by simp; omega), cell_farE (by simp; omega), cell_farE (by simp; omega)]
            · exact cell_far (q := ⟨w.heap.size, 0, none⟩) (by simp) (cell_far (q := ⟨w.heap.size, 0, none⟩) (by simp) (cell_far (q := ⟨w.heap.size, 0, none⟩) (by simp; omega) hcd))
            · have e : ((min (pre ++ [(⟨i, hi1, hi2⟩ : Idx k)]).length m : Nat) : Int) = (pre.length : Int) + 1 := by rw [List.length_append, List.length_singleton, Nat.min_eq_left (by omega)]; simp
              rw [e]
              exact cell_far (q := ⟨gu, 0, none⟩) (by simp; omega) (cell_far (q := ⟨gu, 0, none⟩) (by simp; omega) (World.cell?_setCell_same' _ _ _ (by rw [hcu]; rfl)))
            · exact frozen_far (q := ⟨gu, 0, none⟩) (by simp; omega) (frozen_far (q := ⟨gu, 0, none⟩) (by simp; omega) (by rw [World.frozen?_setCell]; exact hfu))
            · rw [HST.out, show swapL xs i j = (xs.set i xj).set j xi from by unfold swapL; rw [hxi.out, hxj.out]]
              exact hown3
            · exact (((hbw.setCell (p := ⟨gu, 0, none⟩) (by simp; omega) _).setCell (p := ⟨w.heap.size + 1, i, none⟩) (by simp) _).setCell (p := ⟨w.heap.size + 1, j, none⟩) (by simp) _).drew
          · go_simp
            refine hK.out _ _ hS (fun hS => ?_)
            clear hK K
            try simp only [Act.put, List.setIfInBounds_toArray, List.set_cons_zero, List.set_cons_succ]
            refine wpAnyH_ready (rs := [7]) (by kernel_rfl) (by simp) ?_
            refine AllReadyH.cons rfl (fun K hK => ?_) AllReadyH.nil
            go_simp
            refine hK.out _ _ hS (fun hS => ?_)
            clear hK K
            try simp only [Act.put, List.setIfInBounds_toArray, List.set_cons_zero, List.set_cons_succ]
            refine wpAnyH_take (i := 12) (v := ?_) rfl (by kernel_rfl) (by kernel_rfl) (by kernel_rfl) (fun _ _ _ h => by cases h.1) (Or.inl ⟨by rfl, ?_⟩) (by assumption) ?_
            rotate_left
            · intro w' hS'
              go_simp
              try with_reducible rfl
            simp only [Act.put, List.setIfInBounds_toArray, List.set_cons_zero, List.set_cons_succ]
            refine wpAnyH_ready (rs := [13]) (by kernel_rfl) (by simp) ?_
            refine AllReadyH.cons rfl (fun K hK => ?_) AllReadyH.nil
            go_simp
            have q2 := cell_far (p := ⟨w.heap.size + 1, i, none⟩) (u := .int .i64 (xj)) (q := ⟨gp, 0, none⟩) (by simp; omega) q1
            refine hK.out _ _ q2 (fun hS => ?_)
            clear hK K
            have hown2 := hown1.store i (xj)
            have cj2 := hown2.cell (j := j) (by omega)
            have fj2 := hown2.free j
            clear ci cj fi fj
            refine wpAnyH_take (i := 14) (v := ?_) rfl (by kernel_rfl) (by kernel_rfl) (by kernel_rfl) (fun _ _ _ h => by cases h.1) (Or.inl ⟨by rfl, ?_⟩) (by assumption) ?_
            rotate_left
            · intro w' hS'
              go_simp
              try with_reducible rfl
            simp only [Act.put, List.setIfInBounds_toArray, List.set_cons_zero, List.set_cons_succ]
            refine wpAnyH_ready (rs := [15]) (by kernel_rfl) (by simp) ?_
            refine AllReadyH.cons rfl (fun K hK => ?_) AllReadyH.nil
            go_simp
            have q3 := cell_far (p := ⟨w.heap.size + 1, j, none⟩) (u := .int .i64 (xi)) (q := ⟨gp, 0, none⟩) (by simp; omega) q2
            refine hK.out _ _ q3 (fun hS => ?_)
            clear hK K
            have hown3 := hown2.store j (xi)
            refine wpAnyH_done (by kernel_rfl) ?_ _
            refine ⟨rfl, ?_⟩
            gi_wp2
            refine ⟨(KeepsOthers.setCell _ _ _).trans ((KeepsOthers.setCell _ _ _).trans ((KeepsOthers.setCell _ _ _).trans (KeepsOthers.drew _))), ?_, ⟨q3, ?_, ⟨?_, ?_⟩, ?_⟩, ?_⟩
            · show ((((W.setCell ⟨gu, 0, none⟩ (.int .i64 ((pre.length : Int) + 1)))).setCell _ _).setCell _ _).cell? _ = _
              rw [cell_farE (by simp; omega), cell_farE (by simp; omega), cell_farE (by simp; omega)]
            · exact cell_far (q := ⟨w.heap.size, 0, none⟩) (by simp) (cell_far (q := ⟨w.heap.size, 0, none⟩) (by simp) (cell_far (q := ⟨w.heap.size, 0, none⟩) (by simp; omega) hcd))
            · have e : ((min (pre ++ [(⟨i, hi1, hi2⟩ : Idx k)]).length m : Nat) : Int) = (pre.length : Int) + 1 := by rw [List.length_append, List.length_singleton, Nat.min_eq_left (by omega)]; simp
              rw [e]
              exact cell_far (q := ⟨gu, 0, none⟩) (by simp; omega) (cell_far (q := ⟨gu, 0, none⟩) (by simp; omega) (World.cell?_setCell_same' _ _ _ (by rw [hcu]; rfl)))
            · exact frozen_far (q := ⟨gu, 0, none⟩) (by simp; omega) (frozen_far (q := ⟨gu, 0, none⟩) (by simp; omega) (by rw [World.frozen?_setCell]; exact hfu))
            · rw [HST.out, show swapL xs i j = (xs.set i xj).set j xi from by unfold swapL; rw [hxi.out, hxj.out]]
              exact hown3
            · exact (((hbw.setCell (p := ⟨gu, 0, none⟩) (by simp; omega) _).setCell (p := ⟨w.heap.size + 1, i, none⟩) (by simp) _).setCell (p := ⟨w.heap.size + 1, j, none⟩) (by simp) _).drew
        · rw [Nat.min_eq_right (by omega)] at hcu
          have hzv : zs.getD pre.length 0 = 0 := by simp [List.getD, List.getElem?_eq_none (show zs.length ≤ pre.length by rw [hlen.out]; omega)]
          have L := fun w => leftOver_any w 0 (i + 1) (by omega) (by omega) (by omega)
          rw [Int.natCast_add] at L
          have hj := (leftS_val 0 (i + 1) (by omega)).2.1
          rw [hzv] at HST
          generalize leftS 0 (i + 1) = j at *
          have LH := Lib.hid L
          clear L hzv
          have hjj : (j : Int) < k := by omega
          have hmm' : ¬ (m : Int) < m := by omega
          have q1 := hcp
          have hown1 := hown
          have ci := hown1.cell hi2
          have cj := hown1.cell (j := j) (by omega)
          obtain ⟨xi, hxi⟩ : ∃ v, Hid (xs.getD i 0 = v) := ⟨_, Lib.hid rfl⟩
          obtain ⟨xj, hxj⟩ : ∃ v, Hid (xs.getD j 0 = v) := ⟨_, Lib.hid rfl⟩
          rw [hxi.out] at ci
          rw [hxj.out] at cj
          have fi := hown1.free i
          have fj := hown1.free j
          gi_wp2_with (refine ⟨trivial, ?_⟩; gi_at_call 23; refine (CallsIn.inRound l ((callsIn_wide).2 (LH.out _))).mono ?_; rintro e w' ⟨rfl, rfl⟩)
          refine wpIn_region_heldR (fun w' => w'.cell? ⟨gp, 0, none⟩ = some (.slice (some ⟨w.heap.size + 1, 0, none⟩) k k)) (by kernel_rfl) (by kernel_rfl) q1 (fun hS => ?_)
          refine wpAnyH_take (i := 0) (v := ?_) rfl (by kernel_rfl) (by kernel_rfl) (by kernel_rfl) (fun _ _ _ h => by cases h.1) (Or.inl ⟨by rfl, ?_⟩) (by assumption) ?_
          rotate_left
          · intro w' hS'
            go_simp
            try with_reducible rfl
          simp only [Act.put, List.setIfInBounds_toArray, List.set_cons_zero, List.set_cons_succ]
          refine wpAnyH_take (i := 1) (v := ?_) rfl (by kernel_rfl) (by kernel_rfl) (by kernel_rfl) (fun _ _ _ h => by cases h.1) (Or.inl ⟨by rfl, ?_⟩) (by assumption) ?_
          rotate_left
          · intro w' hS'
            go_simp
            try with_reducible rfl
          simp only [Act.put, List.setIfInBounds_toArray, List.set_cons_zero, List.set_cons_succ]
          refine wpAnyH_take (i := 2) (v := ?_) rfl (by kernel_rfl) (by kernel_rfl) (by kernel_rfl) (fun _ _ _ h => by cases h.1) (Or.inl ⟨by rfl, ?_⟩) (by assumption) ?_
          rotate_left
          · intro w' hS'
            go_simp
            try with_reducible rfl
          simp only [Act.put, List.setIfInBounds_toArray, List.set_cons_zero, List.set_cons_succ]
          refine wpAnyH_take (i := 3) (v := ?_) rfl (by kernel_rfl) (by kernel_rfl) (by kernel_rfl) (fun _ _ _ h => by cases h.1) (Or.inl ⟨by rfl, ?_⟩) (by assumption) ?_
          rotate_left
          · intro w' hS'
            go_simp
            try with_reducible rfl
          simp only [Act.put, List.setIfInBounds_toArray, List.set_cons_zero, List.set_cons_succ]
          refine wpAnyH_take (i := 4) (v := ?_) rfl (by kernel_rfl) (by kernel_rfl) (by kernel_rfl) (fun _ _ _ h => by cases h.1) (Or.inl ⟨by rfl, ?_⟩) (by assumption) ?_
          rotate_left
          · intro w' hS'
            go_simp
            try with_reducible rfl
          simp only [Act.put, List.setIfInBounds_toArray, List.set_cons_zero, List.set_cons_succ]
          refine wpAnyH_take (i := 5) (v := ?_) rfl (by kernel_rfl) (by kernel_rfl) (by kernel_rfl) (fun _ _ _ h => by cases h.1) (Or.inl ⟨by rfl, ?_⟩) (by assumption) ?_
          rotate_left
          · intro w' hS'
            go_simp
            try with_reducible rfl
          simp only [Act.put, List.setIfInBounds_toArray, List.set_cons_zero, List.set_cons_succ]
          refine wpAnyH_take (i := 6) (v := ?_) rfl (by kernel_rfl) (by kernel_rfl) (by kernel_rfl) (fun _ _ _ h => by cases h.1) (Or.inl ⟨by rfl, ?_⟩) (by assumption) ?_
          rotate_left
          · intro w' hS'
            go_simp
            try with_reducible rfl
          simp only [Act.put, List.setIfInBounds_toArray, List.set_cons_zero, List.set_cons_succ]
          refine wpAnyH_take (i := 8) (v := ?_) rfl (by kernel_rfl) (by kernel_rfl) (by kernel_rfl) (fun _ _ _ h => by cases h.1) (Or.inl ⟨by rfl, ?_⟩) (by assumption) ?_
          rotate_left
          · intro w' hS'
            go_simp
            try with_reducible rfl
          simp only [Act.put, List.setIfInBounds_toArray, List.set_cons_zero, List.set_cons_succ]
          refine wpAnyH_take (i := 9) (v := ?_) rfl (by kernel_rfl) (by kernel_rfl) (by kernel_rfl) (fun _ _ _ h => by cases h.1) (Or.inl ⟨by rfl, ?_⟩) (by assumption) ?_
          rotate_left
          · intro w' hS'
            go_simp
            try with_reducible rfl
          simp only [Act.put, List.setIfInBounds_toArray, List.set_cons_zero, List.set_cons_succ]
          refine wpAnyH_take (i := 10) (v := ?_) rfl (by kernel_rfl) (by kernel_rfl) (by kernel_rfl) (fun _ _ _ h => by cases h.1) (Or.inl ⟨by rfl, ?_⟩) (by assumption) ?_
          rotate_left
          · intro w' hS'
            go_simp
            try with_reducible rfl
          simp only [Act.put, List.setIfInBounds_toArray, List.set_cons_zero, List.set_cons_succ]
          refine wpAnyH_ready (rs := [7, 11]) (by kernel_rfl) (by simp) ?_
          refine AllReadyH.cons rfl (fun K hK => ?_) (AllReadyH.cons rfl (fun K hK => ?_) AllReadyH.nil)
          · go_simp
            refine hK.out _ _ hS (fun hS => ?_)
            clear hK K
            try simp only [Act.put, List.setIfInBounds_toArray, List.set_cons_zero, List.set_cons_succ]
            refine wpAnyH_ready (rs := [11]) (by kernel_rfl) (by simp) ?_
            refine AllReadyH.cons rfl (fun K hK => ?_) AllReadyH.nil
            go_simp
            refine hK.out _ _ hS (fun hS => ?_)
            clear hK K
            try simp only [Act.put, List.setIfInBounds_toArray, List.set_cons_zero, List.set_cons_succ]
            refine wpAnyH_take (i := 12) (v := ?_) rfl (by kernel_rfl) (by kernel_rfl) (by kernel_rfl) (fun _ _ _ h => by cases h.1) (Or.inl ⟨by rfl, ?_⟩) (by assumption) ?_
            rotate_left
            · intro w' hS'
              go_simp
              try with_reducible rfl
            simp only [Act.put, List.setIfInBounds_toArray, List.set_cons_zero, List.set_cons_succ]
            refine wpAnyH_ready (rs := [13]) (by kernel_rfl) (by simp) ?_
            refine AllReadyH.cons rfl (fun K hK => ?_) AllReadyH.nil
            go_simp
            have q2 := cell_far (p := ⟨w.heap.size + 1, i, none⟩) (u := .int .i64 (xj)) (q := ⟨gp, 0, none⟩) (by simp; omega) q1
            refine hK.out _ _ q2 (fun hS => ?_)
            clear hK K
            have hown2 := hown1.store i (xj)
            have cj2 := hown2.cell (j := j) (by omega)
            have fj2 := hown2.free j
            clear ci cj fi fj
            refine wpAnyH_take (i := 14) (v := ?_) rfl (by kernel_rfl) (by kernel_rfl) (by kernel_rfl) (fun _ _ _ h => by cases h.1) (Or.inl ⟨by rfl, ?_⟩) (by assumption) ?_
            rotate_left
            · intro w' hS'
              go_simp
              try with_reducible rfl
            simp only [Act.put, List.setIfInBounds_toArray, List.set_cons_zero, List.set_cons_succ]
            refine wpAnyH_ready (rs := [15]) (by kernel_rfl) (by simp) ?_
            refine AllReadyH.cons rfl (fun K hK => ?_) AllReadyH.nil
            go_simp
            have q3 := cell_far (p := ⟨w.heap.size + 1, j, none⟩) (u := .int .i64 (xi)) (q := ⟨gp, 0, none⟩) (by simp; omega) q2
            refine hK.out _ _ q3 (fun hS => ?_)
            clear hK K
            have hown3 := hown2.store j (xi)
            refine wpAnyH_done (by kernel_rfl) ?_ _
            refine ⟨rfl, ?_⟩
            gi_wp2
            refine ⟨(KeepsOthers.setCell _ _ _).trans ((KeepsOthers.setCell _ _ _).trans (KeepsOthers.drew _)), ?_, ⟨q3, ?_, ⟨?_, ?_⟩, ?_⟩, ?_⟩
            · show ((W.setCell _ _).setCell _ _).cell? _ = _
              rw [cell_farE (by simp; omega), cell_farE (by simp; omega)]
            · exact cell_far (q := ⟨w.heap.size, 0, none⟩) (by simp) (cell_far (q := ⟨w.heap.size, 0, none⟩) (by simp) hcd)
            · have e : ((min (pre ++ [(⟨i, hi1, hi2⟩ : Idx k)]).length m : Nat) : Int) = (m : Int) := by rw [List.length_append, List.length_singleton, Nat.min_eq_right (by omega)]
              rw [e]
              exact cell_far (q := ⟨gu, 0, none⟩) (by simp; omega) (cell_far (q := ⟨gu, 0, none⟩) (by simp; omega) hcu)
            · exact frozen_far (q := ⟨gu, 0, none⟩) (by simp; omega) (frozen_far (q := ⟨gu, 0, none⟩) (by simp; omega) hfu)
            · rw [HST.out, show swapL xs i j = (xs.set i xj).set j xi from by unfold swapL; rw [hxi.out, hxj.out]]
              exact hown3
            · exact ((hbw.setCell (p := ⟨w.heap.size + 1, i, none⟩) (by simp) _).setCell (p := ⟨w.heap.size + 1, j, none⟩) (by simp) _).drew
          · go_simp
            refine hK.out _ _ hS (fun hS => ?_)
            clear hK K
            try simp only [Act.put, List.setIfInBounds_toArray, List.set_cons_zero, List.set_cons_succ]
            refine wpAnyH_ready (rs := [7]) (by kernel_rfl) (by simp) ?_
            refine AllReadyH.cons rfl (fun K hK => ?_) AllReadyH.nil
            go_simp
            refine hK.out _ _ hS (fun hS => ?_)
            clear hK K
            try simp only [Act.put, List.setIfInBounds_toArray, List.set_cons_zero, List.set_cons_succ]
            refine wpAnyH_take (i := 12) (v := ?_) rfl (by kernel_rfl) (by kernel_rfl) (by kernel_rfl) (fun _ _ _ h => by cases h.1) (Or.inl ⟨by rfl, ?_⟩) (by assumption) ?_
            rotate_left
            · intro w' hS'
              go_simp
              try with_reducible rfl
            simp only [Act.put, List.setIfInBounds_toArray, List.set_cons_zero, List.set_cons_succ]
            refine wpAnyH_ready (rs := [13]) (by kernel_rfl) (by simp) ?_
            refine AllReadyH.cons rfl (fun K hK => ?_) AllReadyH.nil
            go_simp
            have q2 := cell_far (p := ⟨w.heap.size + 1, i, none⟩) (u := .int .i64 (xj)) (q := ⟨gp, 0, none⟩) (by simp; omega) q1
            refine hK.out _ _ q2 (fun hS => ?_)
            clear hK K
            have hown2 := hown1.store i (xj)
            have cj2 := hown2.cell (j := j) (by omega)
            have fj2 := hown2.free j
            clear ci cj fi fj
            refine wpAnyH_take (i := 14) (v := ?_) rfl (by kernel_rfl) (by kernel_rfl) (by kernel_rfl) (fun _ _ _ h => by cases h.1) (Or.inl ⟨by rfl, ?_⟩) (by assumption) ?_
            rotate_left
            · intro w' hS'
              go_simp
              try with_reducible rfl
            simp only [Act.put, List.setIfInBounds_toArray, List.set_cons_zero, List.set_cons_succ]
            refine wpAnyH_ready (rs := [15]) (by kernel_rfl) (by simp) ?_
            refine AllReadyH.cons rfl (fun K hK => ?_) AllReadyH.nil
            go_simp
            have q3 := cell_far (p := ⟨w.heap.size + 1, j, none⟩) (u := .int .i64 (xi)) (q := ⟨gp, 0, none⟩) (by simp; omega) q2
            refine hK.out _ _ q3 (fun hS => ?_)
            clear hK K
            have hown3 := hown2.store j (xi)
            refine wpAnyH_done (by kernel_rfl) ?_ _
            refine ⟨rfl, ?_⟩
            gi_wp2
            refine ⟨(KeepsOthers.setCell _ _ _).trans ((KeepsOthers.setCell _ _ _).trans (KeepsOthers.drew _)), ?_, ⟨q3, ?_, ⟨?_, ?_⟩, ?_⟩, ?_⟩
            · show ((W.setCell _ _).setCell _ _).cell? _ = _
              rw [cell_farE (by simp; omega), cell_farE (by simp; omega)]
            · exact cell_far (q := ⟨w.heap.size, 0, none⟩) (by simp) (cell_far (q := ⟨w.heap.size, 0, none⟩) (by simp) hcd)
            · have e : ((min (pre ++ [(⟨i, hi1, hi2⟩ : Idx k)]).length m : Nat) : Int) = (m : Int) := by rw [List.length_append, List.length_singleton, Nat.min_eq_right (by omega)]
              rw [e]
              exact cell_far (q := ⟨gu, 0, none⟩) (by simp; omega) (cell_far (q := ⟨gu, 0, none⟩) (by simp; omega) hcu)
            · exact frozen_far (q := ⟨gu, 0, none⟩) (by simp; omega) (frozen_far (q := ⟨gu, 0, none⟩) (by simp; omega) hfu)
            · rw [HST.out, show swapL xs i j = (xs.set i xj).set j xi from by unfold swapL; rw [hxi.out, hxj.out]]
              exact hown3
            · exact ((hbw.setCell (p := ⟨w.heap.size + 1, i, none⟩) (by simp) _).setCell (p := ⟨w.heap.size + 1, j, none⟩) (by simp) _).drew
      case done =>
        rintro D xs W hD hxs ⟨⟨hcp, hcd, ⟨hcu, hfu⟩, hown⟩, hbw⟩ hK
        have hxl : xs.length = k - 1 := by
          have := congrArg List.length hxs
          rw [List.length_map, downL_len] at this
          exact this
        rw [hxl] at hcu
        rw [hxs] at hown
        have HK := Lib.hid hK
        clear hK
        go_wp2_with fail
        go_quiet (fail)
        go_wp2_with fail
        have hK' : (W.drewN nq).heap[D]? = some (.deferred (some [])) := HK.out
        refine ⟨by simp, .inl ⟨_, _, rfl, run_takeDeferred hK', ?_⟩⟩
        refine ⟨.tuple #[.slice (some ⟨w.heap.size + 1, 0, none⟩) k k, .int .i64 ((min (k - 1) m : Nat) : Int), .int .i64 0], by simp [results, Try.results11, go_sem], ?_⟩
        refine ⟨_, _, rfl, OwnI.down ((OwnI.drewN hown nq).kept' (grownBy_putObj' _ D (.deferred none)) (fun r e => by cases e; exact ⟨_, hK', rfl⟩)) (Nat.le_succ _), ?_⟩
        exact (hbw.trans (below_draws _ _ nq)).trans (belowK_b (w := w) (Nat.le_refl _) _ D _ _ (by have := hb9.size; omega) hK' rfl rfl)
      case stop =>
        rintro D c pre W _ _ h _
        exact h.elim
end Go.Proofs.Ytoahkaongmlfkaa
