/- The contracts of package word, and of the document's answers for it. -/
import Derived.Test.YtbmdmioikdbigaaBase
import Derived.Test.YtbmdmioikdbigaaStrs
namespace Go.Proofs.Ytbmdmioikdbigaa
set_option linter.unusedSimpArgs false
set_option linter.unusedVariables false
open Go.RowKit

/-- A number's last k bytes, the highest one first. -/
def beB : Nat → Nat → List UInt8
  | 0, _ => []
  | k + 1, n => beB k (n / 256) ++ [UInt8.ofNat n]

theorem beB_len (k n : Nat) : (beB k n).length = k := by
  induction k generalizing n with
  | zero => rfl
  | succ k ih => simp [beB, ih]
theorem beB_front (k n : Nat) : beB (k + 1) n = UInt8.ofNat (n / 256 ^ k) :: beB k n := by
  induction k generalizing n with
  | zero => simp [beB]
  | succ k ih =>
    rw [beB, ih, beB, List.cons_append, Nat.div_div_eq_div_mul, ← Nat.pow_succ']

theorem setAt (m : Nat) (x : UInt8) (l : List UInt8) : (List.replicate (m + 1) (0 : UInt8) ++ l).set m x = List.replicate m 0 ++ x :: l := by
  rw [List.replicate_succ', List.append_assoc, List.set_append_right _ _ (by simp)]
  simp

theorem byteAt (n j : Nat) : Value.int .u8 ((n : Int) / 2 ^ (8 * j) % 256) = bv (UInt8.ofNat (n / 256 ^ j)) := by
  rw [bv_ofNat, show (256 : Nat) ^ j = 2 ^ (8 * j) from by rw [show (256 : Nat) = 2 ^ 8 from rfl, ← Nat.pow_mul]]
  simp
theorem putStep (n k j : Nat) (h : j < k) : (List.replicate (k - j) (0 : UInt8) ++ beB j n).set (k - 1 - j) (UInt8.ofNat (n / 256 ^ j)) = List.replicate (k - (j + 1)) 0 ++ beB (j + 1) n := by
  obtain ⟨m, rfl⟩ : ∃ m, k = m + 1 + j := ⟨k - 1 - j, by omega⟩
  rw [show m + 1 + j - j = m + 1 from by omega, show m + 1 + j - 1 - j = m from by omega, show m + 1 + j - (j + 1) = m from by omega, setAt, beB_front]

set_option maxHeartbeats 400000 in
theorem wordPut_ok (w : World) (n k : Nat) (h1 : 1 ≤ k) (h8 : k ≤ 8) (hn : k < 8 → n / 256 ^ k = 0) :
    Calls Try.prog 16 #[.int .u64 (n : Int), .int .i64 (k : Int)] w fun e w' =>
      ∃ A c, e = .returned (.tuple #[.slice A k c, .int .i64 0]) ∧ OwnB w' w.heap.size A k c (beB k n) ∧ Below w.heap.size w w' := by
  have hsh : k < 8 → ((n : Int) / 2 ^ (8 * k) != 0) = false := fun h => by
    have := hn h
    have e : ((n : Int) / 2 ^ (8 * k)) = ((n / 256 ^ k : Nat) : Int) := by
      rw [show (256 : Nat) = 2 ^ 8 from rfl, ← Nat.pow_mul]
      simp
    rw [e, this]; rfl
  clear hn
  by_cases hk : k < 8
  all_goals
    try have hs := hsh hk
    clear hsh
    go_enter Try.func16, Try.ntmps16
    go_wp2_with (at_make; refine wpList_make_b rfl (.tmp 23) (.tmp 23) rfl w.heap.size k rfl rfl (by omega) (Nat.le_refl _) ?_; intro w1 hown1 hb1 hlt1)
    go_loopw [27] (fun i wr => ∃ j : Nat, j ≤ k ∧ i = .int .i64 j ∧ OwnB wr w.heap.size (some ⟨w.heap.size, 0, none⟩) k k (List.replicate (k - j) 0 ++ beB j n) ∧ Below w.heap.size w wr ∧ w.heap.size < wr.heap.size) (fun i _ => k - (intOf i).toNat)
    case atStart => exact ⟨0, Nat.zero_le _, rfl, hown1.cast (by simp [beB]), hb1, hlt1⟩
    case round =>
      obtain ⟨j, hj, rfl, hown, hb, hlt⟩ := hrel
      by_cases hjk : j < k
      · obtain ⟨x, hc, _, _⟩ := hown.cell (j := k - 1 - j) (by omega)
        have hf := hown.free (k - 1 - j)
        go_wp2
        go_roundw
        case rel => exact ⟨j + 1, by omega, by go_num, (hown.store _ (byteAt n j)).cast (putStep n k j hjk), hb.setCell (Nat.le_refl _) _, by simpa using hlt⟩
        case measure => simp [intOf]; omega
      · obtain rfl : j = k := by omega
        go_wp2
        go_ret2
        exact ⟨_, _, rfl, hown.cast (by simp), hb⟩

theorem wordPut_arg (w : World) (n : Nat) (wide : Int) (h : wide < 1 ∨ 8 < wide) :
    Calls Try.prog 16 #[.int .u64 (n : Int), .int .i64 wide] w fun e w' => e = .returned (.tuple #[.slice none 0 0, .int .i64 1]) ∧ w = w' := by
  rcases h with h | h
  all_goals
    go_enter Try.func16, Try.ntmps16
    go_wp2
    go_ret2
    exact ⟨rfl, rfl⟩

theorem wordPut_long (w : World) (n k : Nat) (h1 : 1 ≤ k) (h8 : k < 8) (hn : n / 256 ^ k ≠ 0) :
    Calls Try.prog 16 #[.int .u64 (n : Int), .int .i64 (k : Int)] w fun e w' => e = .returned (.tuple #[.slice none 0 0, .int .i64 2]) ∧ w = w' := by
  have hsh : ((n : Int) / 2 ^ (8 * k) != 0) = true := by
    have e : ((n : Int) / 2 ^ (8 * k)) = ((n / 256 ^ k : Nat) : Int) := by
      rw [show (256 : Nat) = 2 ^ 8 from rfl, ← Nat.pow_mul]
      simp
    rw [e, bne_iff_ne]
    omega
  clear hn
  go_enter Try.func16, Try.ntmps16
  go_wp2
  go_ret2
  exact ⟨rfl, rfl⟩

/-! ### What the document says of word -/

/-- P3.1, as a function on numbers. -/
def putS (n : Nat) (wide : Int) : List UInt8 × Int :=
  if wide < 1 ∨ 8 < wide then ([], 1) else if n / 256 ^ wide.toNat ≠ 0 then ([], 2) else (beB wide.toNat n, 0)

theorem putS_arg (n : Nat) (wide : Int) (h : wide < 1 ∨ 8 < wide) : putS n wide = ([], 1) := by unfold putS; rw [if_pos h]
theorem putS_long (n k : Nat) (h1 : 1 ≤ k) (h8 : k ≤ 8) (h : n / 256 ^ k ≠ 0) : putS n k = ([], 2) := by
  unfold putS; rw [if_neg (by omega), Int.toNat_natCast, if_pos h]
theorem putS_ok (n k : Nat) (h1 : 1 ≤ k) (h8 : k ≤ 8) (h : n / 256 ^ k = 0) : putS n k = (beB k n, 0) := by
  unfold putS; rw [if_neg (by omega), Int.toNat_natCast, if_neg (by simpa using h)]

/-- What a call that tells new bytes and an error's number comes to. -/
def TellsB (w : World) (r : List UInt8 × Int) (e : Ending) (w' : World) : Prop :=
  ∃ A c, e = .returned (.tuple #[.slice A r.1.length c, .int .i64 r.2]) ∧ OwnB w' w.heap.size A r.1.length c r.1 ∧ Below w.heap.size w w'

theorem TellsB.ok {w w' : World} {A : Option Addr} {n c : Nat} {bs : List UInt8} {err : Int} (h : OwnB w' w.heap.size A n c bs) (hb : Below w.heap.size w w') :
    TellsB w (bs, err) (.returned (.tuple #[.slice A n c, .int .i64 err])) w' := by
  have := h.len
  subst this
  exact ⟨A, c, rfl, h, hb⟩
theorem TellsB.pair {w w' : World} {e : Ending} {bs : List UInt8} {err : Int} (h : TellsB w (bs, err) e w') :
    ∃ A c, e = .returned (.tuple #[.slice A bs.length c, .int .i64 err]) ∧ OwnB w' w.heap.size A bs.length c bs ∧ Below w.heap.size w w' := h
theorem TellsB.none_ {w w' : World} {err : Int} (hb : Below w.heap.size w w') : TellsB w ([], err) (.returned (.tuple #[.slice none 0 0, .int .i64 err])) w' :=
  ⟨none, 0, rfl, OwnB.nil _ _, hb⟩

theorem wordPut_any (w : World) (n : Nat) (wide : Int) (hn : n < 18446744073709551616) :
    Calls Try.prog 16 #[.int .u64 (n : Int), .int .i64 wide] w (TellsB w (putS n wide)) := by
  unfold putS
  by_cases h : wide < 1 ∨ 8 < wide
  · rw [if_pos h]
    exact (wordPut_arg w n wide h).mono fun e w' ⟨he, hw⟩ => ⟨none, 0, he, hw ▸ OwnB.nil _ _, hw ▸ Below.refl _ _⟩
  · rw [if_neg h]
    obtain ⟨k, rfl⟩ := Int.eq_ofNat_of_zero_le (show 0 ≤ wide by omega)
    rw [Int.toNat_natCast]
    by_cases hl : n / 256 ^ k ≠ 0
    · rw [if_pos hl]
      have : k < 8 := by
        rcases Nat.lt_or_ge k 8 with h' | h'
        · exact h'
        · obtain rfl : k = 8 := by omega
          exact absurd (Nat.div_eq_of_lt (show n < 256 ^ 8 from hn)) hl
      exact (wordPut_long w n k (by omega) this hl).mono fun e w' ⟨he, hw⟩ => ⟨none, 0, he, hw ▸ OwnB.nil _ _, hw ▸ Below.refl _ _⟩
    · rw [if_neg hl]
      refine (wordPut_ok w n k (by omega) (by omega) (fun _ => by simpa using hl)).mono fun e w' ⟨A, c, he, ho, hb⟩ => ⟨A, c, ?_, ?_, hb⟩
      · rw [he, beB_len]
      · rw [beB_len]; exact ho

/-! ### Get -/

def getN (bs : List UInt8) : Nat := bs.foldl (fun n x => n * 256 + x.toNat) 0
theorem getN_snoc (bs : List UInt8) (x : UInt8) : getN (bs ++ [x]) = getN bs * 256 + x.toNat := by simp [getN]
theorem getN_lt (bs : List UInt8) : getN bs < 256 ^ bs.length := by
  rw [← List.reverse_reverse bs]
  induction bs.reverse with
  | nil => decide
  | cons x l ih =>
    rw [List.reverse_cons, getN_snoc, List.length_append, List.length_singleton, Nat.pow_succ]
    have := x.toNat_lt
    omega
theorem take_next {bs : List UInt8} {k : Nat} {x : UInt8} (h : bs[k]? = some x) : bs.take (k + 1) = bs.take k ++ [x] := by
  rw [List.take_add_one, h]; rfl

theorem orStep (a x : Nat) (ha : a < 72057594037927936) (hx : x < 256) : bits .or .u64 (IntKind.u64.wrap ((a : Int) * 256)) (x : Int) = ((a * 256 + x : Nat) : Int) := by
  have e : IntKind.u64.wrap ((a : Int) * 256) = ((a * 256 : Nat) : Int) := by
    rw [IntWalk.u64_in _ (by omega)]
    simp
  rw [e, u64_or_nat _ _ (by omega) (by omega), Nat.or_comm, nat_join8' _ _ (by omega) hx]

/-- P3.1. -/
def getS (bs : List UInt8) : Nat × Int := if bs.length < 1 ∨ 8 < bs.length then (0, 1) else (getN bs, 0)

set_option maxHeartbeats 400000 in
theorem wordGet_any (w : World) (B : Nat) (A : Option Addr) (n c : Nat) (bs : List UInt8) (h : SlB w B A n c bs) (hn : n ≤ 140737488355328) :
    Calls Try.prog 28 #[.slice A n c] w fun e w' => e = .returned (.tuple #[.int .u64 ((getS bs).1 : Nat), .int .i64 (getS bs).2]) ∧ w = w' := by
  have hlen := Lib.hid h.len
  unfold getS
  rw [h.len]
  by_cases hr : n < 1 ∨ 8 < n
  · rw [if_pos hr]
    rcases hr with hr | hr
    all_goals
      go_enter Try.func28, Try.ntmps28
      go_wp2
      go_ret2
      exact ⟨rfl, rfl⟩
  · rw [if_neg hr]
    have h1 : 1 ≤ n := by omega
    have h8 : n ≤ 8 := by omega
    clear hr hn
    go_enter Try.func28, Try.ntmps28
    go_wp2
    go_loop [4, 17] (fun v i => ∃ k : Nat, k ≤ n ∧ i = .int .i64 k ∧ v = .int .u64 (getN (bs.take k) : Nat)) (fun _ i => n - (intOf i).toNat)
    case atStart => exact ⟨0, Nat.zero_le _, rfl, rfl⟩
    case round =>
      obtain ⟨k, hk, rfl, rfl⟩ := hrel
      by_cases hlt : k < n
      · obtain ⟨p, x, rfl, _, hcell, hx, hx8⟩ := h.at_ hlt
        have HX := Lib.hid hx
        clear hx
        go_wp2
        go_round
        case rel =>
          refine ⟨k + 1, by omega, by go_num, ?_⟩
          have := getN_lt (bs.take k)
          have hp := Nat.pow_le_pow_right (show 0 < 256 by decide) (show (bs.take k).length ≤ 7 by rw [List.length_take]; omega)
          rw [take_next HX.out, getN_snoc, orStep _ _ (Nat.lt_of_lt_of_le this hp) hx8]
        case measure => simp [intOf]; omega
      · obtain rfl : k = n := by omega
        go_wp2
        go_ret2
        refine ⟨?_, rfl⟩
        rw [← hlen.out]
        simp

set_option maxHeartbeats 400000 in
theorem refGet_any (w : World) (B : Nat) (A : Option Addr) (n c : Nat) (bs : List UInt8) (h : SlB w B A n c bs) (hn : n ≤ 140737488355328) :
    Calls Try.prog 21 #[.slice A n c] w fun e w' => e = .returned (.tuple #[.int .u64 ((getS bs).1 : Nat), .int .i64 (getS bs).2]) ∧ w = w' := by
  have hlen := Lib.hid h.len
  unfold getS
  rw [h.len]
  by_cases hr : n < 1 ∨ 8 < n
  · rw [if_pos hr]
    rcases hr with hr | hr
    all_goals
      go_enter Try.func21, Try.ntmps21
      go_wp2
      go_ret2
      exact ⟨rfl, rfl⟩
  · rw [if_neg hr]
    have h1 : 1 ≤ n := by omega
    have h8 : n ≤ 8 := by omega
    clear hr hn
    go_enter Try.func21, Try.ntmps21
    go_wp2
    go_loop [4, 17] (fun v i => ∃ k : Nat, k ≤ n ∧ i = .int .i64 k ∧ v = .int .u64 (getN (bs.take k) : Nat)) (fun _ i => n - (intOf i).toNat)
    case atStart => exact ⟨0, Nat.zero_le _, rfl, rfl⟩
    case round =>
      obtain ⟨k, hk, rfl, rfl⟩ := hrel
      by_cases hlt : k < n
      · obtain ⟨p, x, rfl, _, hcell, hx, hx8⟩ := h.at_ hlt
        have HX := Lib.hid hx
        clear hx
        have hN := getN_lt (bs.take k)
        have hp := Nat.pow_le_pow_right (show 0 < 256 by decide) (show (bs.take k).length ≤ 7 by rw [List.length_take]; omega)
        have hN' : getN (bs.take k) < 72057594037927936 := Nat.lt_of_lt_of_le hN hp
        clear hN hp
        go_wp2
        go_round
        case rel =>
          refine ⟨k + 1, by omega, by go_num, ?_⟩
          rw [take_next HX.out, getN_snoc]
          go_num
        case measure => simp [intOf]; omega
      · obtain rfl : k = n := by omega
        go_wp2
        go_ret2
        refine ⟨?_, rfl⟩
        rw [← hlen.out]
        simp

set_option maxHeartbeats 400000 in
theorem refPut_any (w : World) (n : Nat) (wide : Int) (hn : n < 18446744073709551616) :
    Calls Try.prog 31 #[.int .u64 (n : Int), .int .i64 wide] w (TellsB w (putS n wide)) := by
  by_cases h : wide < 1 ∨ 8 < wide
  · rw [putS_arg n wide h]
    rcases h with h | h
    all_goals
      go_enter Try.func31, Try.ntmps31
      go_wp2
      go_ret2
      exact ⟨none, 0, rfl, OwnB.nil _ _, Below.refl _ _⟩
  · obtain ⟨k, rfl⟩ := Int.eq_ofNat_of_zero_le (show 0 ≤ wide by omega)
    have h1 : 1 ≤ k := by omega
    have h8 : k ≤ 8 := by omega
    clear h
    go_enter Try.func31, Try.ntmps31
    go_wp2
    go_loopw [0, 6, 14] (fun v o i wr => ∃ (j m c : Nat) (A : Option Addr), j ≤ k ∧ i = .int .i64 j ∧ Hid (m = n / 256 ^ j) ∧ v = .int .u64 (m : Nat) ∧ o = .slice A j c ∧ OwnB wr w.heap.size A j c (beB j n) ∧ Below w.heap.size w wr) (fun _ _ i _ => k - (intOf i).toNat)
    case atStart => exact ⟨0, n, 0, none, Nat.zero_le _, rfl, Lib.hid (by simp), rfl, rfl, OwnB.nil _ _, Below.refl _ _⟩
    case round =>
      obtain ⟨j, m, c, A, hj, rfl, HM, rfl, rfl, hown, hb⟩ := hrel
      by_cases hjk : j < k
      · have hz := hb.size
        go_wp2_with (at_builtin; refine wpList_append_b rfl (.tmp 19) (.tmp 20) rfl w.heap.size (some ⟨wr.heap.size, 0, none⟩) 1 1 [UInt8.ofNat m] rfl (OwnB.lit _ _ _ (by simp [bv_ofNat]) rfl (by decide) hz) wr.heap.size A j c (beB j n) rfl (hown.sl.alloc (Nat.le_refl _) _) (by omega) (by simp; omega) ?_; intro A2 c2 w2 hown2 hg2 hb2)
        go_roundw
        case rel =>
          refine ⟨j + 1, m / 256, c2, A2, by omega, by go_num, Lib.hid ?_, ?_, ?_, ?_, (hb.alloc hz _).trans hb2⟩
          · rw [HM.out, Nat.div_div_eq_div_mul, ← Nat.pow_succ]
          · rw [IntWalk.u64_in _ ⟨by omega, by have : m ≤ n := by rw [HM.out]; exact Nat.div_le_self _ _
                                               omega⟩]
            simp
          · rw [Nat.add_comm]
          · rw [Nat.add_comm]
            exact hown2.cast (by rw [Nat.add_comm, HM.out, beB_front]; rfl)
        case measure => simp [intOf]; omega
      · obtain rfl : j = k := by omega
        by_cases h0 : m = 0
        · go_wp2
          go_ret2
          refine ⟨A, c, ?_⟩
          rw [putS_ok n j h1 h8 (by rw [← HM.out]; exact h0), beB_len]
          exact ⟨rfl, hown, hb⟩
        · have h0' : 0 < m := by omega
          go_wp2
          go_ret2
          rw [putS_long n j h1 h8 (by rw [← HM.out]; exact h0)]
          exact ⟨none, 0, rfl, OwnB.nil _ _, hb⟩


/-- The same for a number that stands as an Int. -/
theorem wordPut_int (w : World) (a : Int) (wide : Int) (h0 : 0 ≤ a) (hn : a ≤ 18446744073709551615) :
    Calls Try.prog 16 #[.int .u64 a, .int .i64 wide] w (TellsB w (putS a.toNat wide)) := by
  have := wordPut_any w a.toNat wide (by omega)
  rw [Int.toNat_of_nonneg h0] at this
  exact this
end Go.Proofs.Ytbmdmioikdbigaa
