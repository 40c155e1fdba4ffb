/-
  Plain facts on the words of a float64: which word is no number, and that the order of two numbers is the order of their words read as whole numbers with a sign. No program stands here.
-/
import Derived.Laws.Cover2
import Derived.Laws.FloatBits
import Derived.Laws.Bits64b
import Derived.Laws.BitsAllLaws
import Derived.Test.YtbimfopbilcdgaaRows
import Derived.WalkKit
import Derived.WalkSpells
import Derived.WalkLawsBesides
import Derived.Laws.FloatArith
import Derived.IntWalk
import Derived.Laws.MathBits
import Derived.Lib.Tables
import Derived.Outline
import Derived.Laws.Rows
import Derived.Laws.Externs
import Derived.Deep.WholeRow
import Derived.Lib.Hide
namespace Go.Proofs.Ytbimfopbilcdgaa.Fl
open Ieee

/-- The word's magnitude: all but the sign. -/
def rung (b : Nat) : Nat := b % 9223372036854775808
/-- Is it no number? -/
def nan (b : Nat) : Bool := decide (9218868437227405312 < rung b)
/-- The one word of what is no number. -/
def canon (b : Nat) : Nat := if nan b then 9221120237041090560 else b
/-- The word as a whole number with a sign. -/
def key (b : Nat) : Int := if 9223372036854775808 ≤ b then -(rung b : Int) else (rung b : Int)
/-- The place among all. -/
def rank (b : Nat) : Nat := if 9223372036854775808 ≤ canon b then 18446744073709551615 - canon b else canon b + 9223372036854775808

def mant (r : Nat) : Nat := if r < 4503599627370496 then r else 4503599627370496 + r % 4503599627370496
def shf (r : Nat) : Nat := if r < 4503599627370496 then 0 else r / 4503599627370496 - 1
def val (r : Nat) : Nat := mant r * 2 ^ shf r

theorem signW : Format.signWeight double = 9223372036854775808 := by decide
theorem binadeW : Format.binade double = 4503599627370496 := by decide
theorem infW : Format.infRung double = 9218868437227405312 := by decide
theorem leastW : Format.leastPlace double = -1074 := by decide

theorem neg_eq (b : Nat) (hb : b < 18446744073709551616) : (b / 9223372036854775808 % 2 == 1) = decide (9223372036854775808 ≤ b) := by
  rw [Bool.eq_iff_iff, beq_iff_eq, decide_eq_true_eq]; omega

theorem read_num (b : Nat) (hb : b < 18446744073709551616) (h : rung b < 9218868437227405312) :
    double.read b = .number (decide (9223372036854775808 ≤ b)) (mant (rung b)) (-1074 + (shf (rung b) : Nat)) := by
  unfold Format.read
  simp only [signW, binadeW, infW, leastW, neg_eq b hb]
  unfold rung at h
  unfold mant shf rung
  by_cases h1 : b % 9223372036854775808 < 4503599627370496
  · simp [h1]
  · simp only [h1, h, if_true, if_false]

theorem read_inf (b : Nat) (hb : b < 18446744073709551616) (h : rung b = 9218868437227405312) :
    double.read b = .infinity (decide (9223372036854775808 ≤ b)) := by
  unfold Format.read
  simp only [signW, binadeW, infW, leastW, neg_eq b hb]
  unfold rung at h
  simp [h]

theorem read_nan (b : Nat) (h : nan b = true) : (double.read b).isNaN = true := by
  unfold Format.read
  simp only [signW, binadeW, infW, leastW]
  unfold nan rung at h
  simp only [decide_eq_true_eq] at h
  rw [if_neg (by omega), if_neg (by omega), if_neg (by omega)]
  rfl

theorem order_nan_l (a b : Nat) (h : nan a = true) : double.order a b = none := by
  have := read_nan a h
  unfold Format.order
  cases hr : double.read a <;> simp_all [Datum.isNaN, Datum.order]

theorem order_nan_r (a b : Nat) (h : nan b = true) : double.order a b = none := by
  have := read_nan b h
  unfold Format.order
  cases hr : double.read b <;> simp_all [Datum.isNaN]
  cases double.read a <;> rfl

theorem val_lt_of_lt {r q : Nat} (h : r < q) : val r < val q := by
  unfold val mant shf
  by_cases hq : q < 4503599627370496
  · have hr : r < 4503599627370496 := by omega
    simp [hr, hq, h]
  · rw [if_neg hq, if_neg hq]
    by_cases hr : r < 4503599627370496
    · rw [if_pos hr, if_pos hr]
      have : 1 ≤ 2 ^ (q / 4503599627370496 - 1) := Nat.one_le_two_pow
      calc r * 2 ^ 0 = r := by simp
        _ < 4503599627370496 * 1 := by omega
        _ ≤ (4503599627370496 + q % 4503599627370496) * 2 ^ (q / 4503599627370496 - 1) := Nat.mul_le_mul (by omega) this
    · rw [if_neg hr, if_neg hr]
      by_cases he : r / 4503599627370496 = q / 4503599627370496
      · rw [he]
        exact Nat.mul_lt_mul_of_pos_right (by omega) (Nat.two_pow_pos _)
      · have hlt : r / 4503599627370496 - 1 + 1 ≤ q / 4503599627370496 - 1 := by omega
        calc (4503599627370496 + r % 4503599627370496) * 2 ^ (r / 4503599627370496 - 1)
            < (4503599627370496 * 2) * 2 ^ (r / 4503599627370496 - 1) := Nat.mul_lt_mul_of_pos_right (by omega) (Nat.two_pow_pos _)
          _ = 4503599627370496 * 2 ^ (r / 4503599627370496 - 1 + 1) := by rw [Nat.pow_succ, Nat.mul_assoc, Nat.mul_comm 2]
          _ ≤ 4503599627370496 * 2 ^ (q / 4503599627370496 - 1) := Nat.mul_le_mul (Nat.le_refl _) (Nat.pow_le_pow_right (by decide) hlt)
          _ ≤ (4503599627370496 + q % 4503599627370496) * 2 ^ (q / 4503599627370496 - 1) := Nat.mul_le_mul (by omega) (Nat.le_refl _)

theorem val_zero : val 0 = 0 := by decide
theorem val_lt_iff (r q : Nat) : val r < val q ↔ r < q := by
  constructor
  · intro h
    by_cases hc : r < q
    · exact hc
    · exfalso
      rcases Nat.lt_or_eq_of_le (Nat.le_of_not_lt hc) with h1 | h1
      · exact absurd (val_lt_of_lt h1) (by omega)
      · subst h1; omega
  · exact val_lt_of_lt
theorem val_pos {r : Nat} (h : 0 < r) : 0 < val r := by have := val_lt_of_lt h; rw [val_zero] at this; exact this

theorem shiftLeft_mul (m a : Nat) : m <<< a = m * 2 ^ a := Nat.shiftLeft_eq m a

theorem cmp_int (a b c d : Int) (h1 : a < b ↔ c < d) (h2 : a = b ↔ c = d) : compare a b = compare c d := by
  show compareOfLessAndEq a b = compareOfLessAndEq c d
  unfold compareOfLessAndEq
  by_cases x : a < b
  · rw [if_pos x, if_pos (h1.1 x)]
  · rw [if_neg x, if_neg (fun h => x (h1.2 h))]
    by_cases y : a = b
    · rw [if_pos y, if_pos (h2.1 y)]
    · rw [if_neg y, if_neg (fun h => y (h2.2 h))]

/-- A number with its sign. -/
def sg (n : Bool) (m : Nat) : Int := if n then -(m : Int) else (m : Int)

theorem cmp_sg (n k : Bool) (a b c d : Nat) (h1 : a < b ↔ c < d) (h2 : b < a ↔ d < c) (h0 : a = 0 ↔ c = 0) (h3 : b = 0 ↔ d = 0) :
    compare (sg n a) (sg k b) = compare (sg n c) (sg k d) := by
  unfold sg
  apply cmp_int <;> cases n <;> cases k <;> simp <;> omega

theorem scaled_lt (m s n t : Nat) : (m <<< (s - min s t) < n <<< (t - min s t)) ↔ m * 2 ^ s < n * 2 ^ t := by
  rw [shiftLeft_mul, shiftLeft_mul]
  have hp : 0 < 2 ^ min s t := Nat.two_pow_pos _
  have e1 : m * 2 ^ s = m * 2 ^ (s - min s t) * 2 ^ min s t := by rw [Nat.mul_assoc, ← Nat.pow_add, Nat.sub_add_cancel (Nat.min_le_left ..)]
  have e2 : n * 2 ^ t = n * 2 ^ (t - min s t) * 2 ^ min s t := by rw [Nat.mul_assoc, ← Nat.pow_add, Nat.sub_add_cancel (Nat.min_le_right ..)]
  rw [e1, e2]
  exact (Nat.mul_lt_mul_right hp).symm

theorem shl_zero_iff (m a : Nat) : m <<< a = 0 ↔ m = 0 := by
  rw [shiftLeft_mul]
  constructor
  · intro h
    rcases Nat.mul_eq_zero.1 h with h | h
    · exact h
    · exact absurd h (Nat.pos_iff_ne_zero.1 (Nat.two_pow_pos a))
  · intro h; subst h; simp

theorem mant_zero_iff (r : Nat) : mant r = 0 ↔ r = 0 := by
  unfold mant; split <;> omega

theorem min_place (s t : Nat) : ((-1074 + (s : Int)) - min (-1074 + (s : Int)) (-1074 + (t : Int))).toNat = s - min s t := by omega
theorem min_place' (s t : Nat) : ((-1074 + (t : Int)) - min (-1074 + (s : Int)) (-1074 + (t : Int))).toNat = t - min s t := by omega

theorem cmp_lt {a b : Int} (h : a < b) : compare a b = .lt := by
  show compareOfLessAndEq a b = .lt
  unfold compareOfLessAndEq; rw [if_pos h]
theorem cmp_gt {a b : Int} (h : b < a) : compare a b = .gt := by
  show compareOfLessAndEq a b = .gt
  unfold compareOfLessAndEq; rw [if_neg (by omega), if_neg (by omega)]
theorem cmp_inf_r (s t : Bool) (r i : Nat) (h : r < i) : (if t = true then Ordering.gt else Ordering.lt) = compare (sg s r) (sg t i) := by
  cases t
  · rw [cmp_lt (by unfold sg; cases s <;> simp <;> omega)]; simp
  · rw [cmp_gt (by unfold sg; cases s <;> simp <;> omega)]; simp
theorem cmp_inf_l (s t : Bool) (r i : Nat) (h : r < i) : (if t = true then Ordering.lt else Ordering.gt) = compare (sg t i) (sg s r) := by
  cases t
  · rw [cmp_gt (by unfold sg; cases s <;> simp <;> omega)]; simp
  · rw [cmp_lt (by unfold sg; cases s <;> simp <;> omega)]; simp

/-- THE ORDER of what is no NaN is the order of the keys. -/
theorem order_key (a b : Nat) (ha : a < 18446744073709551616) (hb : b < 18446744073709551616) (na : nan a = false) (nb : nan b = false) :
    double.order a b = some (compare (key a) (key b)) := by
  have ka : key a = sg (decide (9223372036854775808 ≤ a)) (rung a) := by unfold key sg; by_cases h : 9223372036854775808 ≤ a <;> simp [h]
  have kb : key b = sg (decide (9223372036854775808 ≤ b)) (rung b) := by unfold key sg; by_cases h : 9223372036854775808 ≤ b <;> simp [h]
  rw [ka, kb]
  simp only [nan, decide_eq_false_iff_not] at na nb
  unfold Format.order
  rcases Nat.lt_or_eq_of_le (Nat.le_of_not_lt na) with h1 | h1 <;> rcases Nat.lt_or_eq_of_le (Nat.le_of_not_lt nb) with h2 | h2
  · rw [read_num a ha h1, read_num b hb h2]
    simp only [Datum.order, Ieee.signed]
    rw [min_place, min_place']
    refine congrArg some ?_
    show compare (sg _ _) (sg _ _) = _
    refine cmp_sg _ _ _ _ _ _ ?_ ?_ ?_ ?_
    · exact (scaled_lt ..).trans (val_lt_iff ..)
    · rw [Nat.min_comm]; exact (scaled_lt ..).trans (val_lt_iff ..)
    · rw [shl_zero_iff, mant_zero_iff]
    · rw [shl_zero_iff, mant_zero_iff]
  · rw [read_num a ha h1, read_inf b hb h2, h2]
    simp only [Datum.order]
    exact congrArg some (cmp_inf_r _ _ _ _ h1)
  · rw [read_inf a ha h1, read_num b hb h2, h1]
    simp only [Datum.order]
    exact congrArg some (cmp_inf_l _ _ _ _ h2)
  · rw [read_inf a ha h1, read_inf b hb h2, h1, h2]
    simp only [Datum.order]
    refine congrArg some ?_
    unfold sg
    by_cases x : 9223372036854775808 ≤ b <;> by_cases y : 9223372036854775808 ≤ a <;> simp [x, y, compare, compareOfLessAndEq]

theorem nan_lt (b : Nat) : nan b = true → rung b < 9223372036854775808 := fun _ => Nat.mod_lt _ (by decide)

/-- Go's 'x != x'. -/
theorem ne_self (b : Nat) (hb : b < 18446744073709551616) : (double.order b b != some .eq) = nan b := by
  cases h : nan b
  · rw [order_key b b hb hb h h]; simp [compare, compareOfLessAndEq]
  · rw [order_nan_l b b h]; rfl

theorem canon_lt (b : Nat) (hb : b < 18446744073709551616) : canon b < 18446744073709551616 := by unfold canon; split <;> omega
theorem canon_canon (b : Nat) : canon (canon b) = canon b := by
  unfold canon
  cases h : nan b
  · simp [h]
  · simp [nan, rung]
theorem nan_canon (b : Nat) : nan (canon b) = nan b := by
  unfold canon
  cases h : nan b
  · simp [h]
  · simp [nan, rung]
theorem rank_lt (b : Nat) (hb : b < 18446744073709551616) : rank b < 18446744073709551616 := by have := canon_lt b hb; unfold rank; split <;> omega
theorem rank_inj (a b : Nat) (ha : a < 18446744073709551616) (hb : b < 18446744073709551616) : rank a = rank b ↔ canon a = canon b := by
  have h1 := canon_lt a ha
  have h2 := canon_lt b hb
  unfold rank
  constructor
  · intro h; split at h <;> split at h <;> omega
  · intro h; rw [h]

theorem rank_cases (b : Nat) : 9223372036854775808 ≤ canon b ∧ rank b = 18446744073709551615 - canon b ∨ canon b < 9223372036854775808 ∧ rank b = canon b + 9223372036854775808 := by
  unfold rank; split <;> omega
theorem canon_cases (b : Nat) : canon b = 9221120237041090560 ∨ canon b % 9223372036854775808 ≤ 9218868437227405312 := by
  unfold canon nan rung; split
  · exact Or.inl rfl
  · rename_i h; rw [decide_eq_true_eq] at h; omega

def minv (a b : Nat) : Nat := if rank b < rank a then canon b else canon a
def maxv (a b : Nat) : Nat := if rank a < rank b then canon b else canon a

theorem canon_num (b : Nat) (h : nan b = false) : canon b = b := by unfold canon; rw [h]; rfl
theorem ord_lt (a b : Nat) (ha : a < 18446744073709551616) (hb : b < 18446744073709551616) (na : nan a = false) (nb : nan b = false) :
    (FloatKind.f64.format.order a b == some .lt) = decide (key a < key b) := by
  show (double.order a b == some .lt) = _
  rw [order_key a b ha hb na nb]
  show (some (compareOfLessAndEq (key a) (key b)) == some .lt) = _
  unfold compareOfLessAndEq
  by_cases h1 : key a < key b
  · simp [h1]
  · by_cases h2 : key a = key b <;> simp [h1, h2]
theorem ord_gt (a b : Nat) (ha : a < 18446744073709551616) (hb : b < 18446744073709551616) (na : nan a = false) (nb : nan b = false) :
    (FloatKind.f64.format.order a b == some .gt) = decide (key b < key a) := by
  show (double.order a b == some .gt) = _
  rw [order_key a b ha hb na nb]
  show (some (compareOfLessAndEq (key a) (key b)) == some .gt) = _
  unfold compareOfLessAndEq
  by_cases h1 : key a < key b
  · simp [h1]; omega
  · by_cases h2 : key a = key b
    · simp [h2]
    · simp [h1, h2]; omega
theorem ord_eq (a b : Nat) (ha : a < 18446744073709551616) (hb : b < 18446744073709551616) (na : nan a = false) (nb : nan b = false) :
    (FloatKind.f64.format.order a b == some .eq) = decide (key a = key b) := by
  show (double.order a b == some .eq) = _
  rw [order_key a b ha hb na nb]
  show (some (compareOfLessAndEq (key a) (key b)) == some .eq) = _
  unfold compareOfLessAndEq
  by_cases h1 : key a < key b
  · simp [h1]; omega
  · by_cases h2 : key a = key b <;> simp [h1, h2]
theorem key_rank (a b : Nat) (ha : a < 18446744073709551616) (hb : b < 18446744073709551616) (na : nan a = false) (nb : nan b = false) (h : key a < key b) : rank a < rank b := by
  have ca := canon_num a na
  have cb := canon_num b nb
  unfold rank; rw [ca, cb]; unfold key rung at h
  by_cases h1 : 9223372036854775808 ≤ a <;> by_cases h2 : 9223372036854775808 ≤ b <;> simp only [h1, h2, if_true, if_false] at h ⊢ <;> omega

theorem rank_canon (b : Nat) : rank (canon b) = rank b := by unfold rank; rw [canon_canon]

/-! What Go's operations on bits give. -/
theorem and_sign (c : Nat) (hc : c < 18446744073709551616) : bits .and .u64 (c : Int) 9223372036854775808 = if 9223372036854775808 ≤ c then 9223372036854775808 else 0 := by
  have h := bits_and_u64_nat c 9223372036854775808 hc (by decide)
  rw [nat_bit63] at h
  refine h.trans ?_
  split <;> omega
theorem or_sign (c : Nat) (hc : c < 9223372036854775808) : bits .or .u64 (c : Int) 9223372036854775808 = ((c + 9223372036854775808 : Nat) : Int) := by
  have h := bits_or_u64_nat c 9223372036854775808 (by omega) (by decide)
  have e : c ||| 9223372036854775808 = c + 9223372036854775808 := by
    have := Nat.two_pow_add_eq_or_of_lt (i := 63) (b := c) hc 1
    rw [Nat.or_comm, Nat.add_comm]
    simpa using this.symm
  rw [e] at h
  exact h
theorem xor_all (c : Nat) (hc : c < 18446744073709551616) : bits .xor .u64 IntKind.u64.max (c : Int) = ((18446744073709551615 - c : Nat) : Int) := by
  have h1 : (BitVec.ofInt 64 (c : Int)).toNat = c := by
    rw [BitVec.ofInt_natCast, BitVec.toNat_ofNat]; exact Nat.mod_eq_of_lt (by omega)
  have h2 : BitVec.ofInt 64 IntKind.u64.max = BitVec.allOnes 64 := by decide
  show IntKind.u64.wrap ((BitVec.ofInt 64 IntKind.u64.max ^^^ BitVec.ofInt 64 (c : Int)).toNat : Int) = _
  rw [h2, BitVec.allOnes_xor, BitVec.toNat_not, h1, IntKind.wrap_u64]
  omega
theorem and_frac (c : Nat) (hc : c < 18446744073709551616) : bits .and .u64 (c : Int) 4503599627370495 = ((c % 4503599627370496 : Nat) : Int) := by
  have h := bits_and_u64_nat c 4503599627370495 hc (by decide)
  rw [nat_mask52] at h
  exact h
theorem and_exp (c : Nat) (hc : c < 18446744073709551616) : bits .and .u64 ((c : Int) / 4503599627370496) 2047 = ((c / 4503599627370496 % 2048 : Nat) : Int) := by
  have h := bits_and_u64_nat (c / 4503599627370496) 2047 (by omega) (by decide)
  rw [nat_mask11] at h
  exact h
theorem or_hidden (c : Nat) (hc : c < 4503599627370496) : bits .or .u64 (c : Int) 4503599627370496 = ((4503599627370496 + c : Nat) : Int) := by
  have h := bits_or_u64_nat c 4503599627370496 (by omega) (by decide)
  have e : c ||| 4503599627370496 = 4503599627370496 + c := by
    have := Nat.two_pow_add_eq_or_of_lt (i := 52) (b := c) hc 1
    rw [Nat.or_comm]
    simpa using this.symm
  rw [e] at h
  exact h
end Go.Proofs.Ytbimfopbilcdgaa.Fl

namespace Go.Proofs.Ytbimfopbilcdgaa
open Go.RowKit

theorem ret_eq {v v' : Value} (h : v = v') : Ending.returned v = Ending.returned v' := by rw [h]
theorem fmt64 : FloatKind.f64.format = Ieee.double := rfl

theorem fb_run (n : Int) (w : World) : (callFunc 120 #[.int .u64 n]).run Try.prog w = .ok (.value (.float .f64 n.toNat)) w := by
  rw [run_callFunc_extern Try.func120 (by kernel_rfl) (by kernel_rfl) (by kernel_rfl) (e := Extern.MathFloatBits.float64frombits) (by kernel_rfl)]
  rfl
theorem tb_run (b : Nat) (w : World) : (callFunc 128 #[.float .f64 b]).run Try.prog w = .ok (.value (.int .u64 b)) w := by
  rw [run_callFunc_extern Try.func128 (by kernel_rfl) (by kernel_rfl) (by kernel_rfl) (e := Extern.MathFloatBits.float64bits) (by kernel_rfl)]
  rfl

set_option maxHeartbeats 400000 in
theorem isNaN_any (b : Nat) (hb : b < 18446744073709551616) (w : World) :
    Calls Try.prog 119 #[.float .f64 b] w fun e w' => e = .returned (.bool (Fl.nan b)) ∧ w = w' := by
  have xf := fb_run
  have xt := tb_run
  go_enter Try.func119, Try.ntmps119
  go_wp2
  go_ret
  exact ⟨ret_eq (congrArg Value.bool (Fl.ne_self b hb)), rfl⟩

set_option maxHeartbeats 400000 in
theorem canon_any (b : Nat) (hb : b < 18446744073709551616) (w : World) :
    Calls Try.prog 90 #[.float .f64 b] w fun e w' => e = .returned (.float .f64 (Fl.canon b)) ∧ w = w' := by
  cases h : Fl.nan b
  all_goals
    have h2 : Hid (Fl.nan b = _) := h
    have xf := fb_run
    have xt := tb_run
    go_enter Try.func90, Try.ntmps90
    go_wp2_with (go_at_call 119; refine (isNaN_any _ hb _).mono ?_; rintro e w' ⟨rfl, rfl⟩)
    go_ret
    exact ⟨ret_eq (by simp [Fl.canon, h2.out]), rfl⟩

set_option maxHeartbeats 400000 in
theorem bits_any (b : Nat) (hb : b < 18446744073709551616) (w : World) :
    Calls Try.prog 104 #[.float .f64 b] w fun e w' => e = .returned (.int .u64 (Fl.canon b : Nat)) ∧ w = w' := by
  have xt := tb_run
  go_enter Try.func104, Try.ntmps104
  go_wp2_with (go_at_call 90; refine (canon_any _ hb _).mono ?_; rintro e w' ⟨rfl, rfl⟩)
  go_ret
  exact ⟨rfl, rfl⟩

set_option maxHeartbeats 400000 in
theorem of_any (b : Nat) (hb : b < 18446744073709551616) (w : World) :
    Calls Try.prog 91 #[.int .u64 b] w fun e w' => e = .returned (.float .f64 (Fl.canon b)) ∧ w = w' := by
  have xf := fb_run
  go_enter Try.func91, Try.ntmps91
  go_wp2_with (go_at_call 90; refine (canon_any _ hb _).mono ?_; rintro e w' ⟨rfl, rfl⟩)
  go_ret
  exact ⟨rfl, rfl⟩

set_option maxHeartbeats 400000 in
theorem refBits_any (b : Nat) (hb : b < 18446744073709551616) (w : World) :
    Calls Try.prog 99 #[.float .f64 b] w fun e w' => e = .returned (.int .u64 (Fl.canon b : Nat)) ∧ w = w' := by
  have xt := tb_run
  go_enter Try.func99, Try.ntmps99
  go_wp2
  all_goals
    go_ret
    refine ⟨ret_eq ?_, rfl⟩
    unfold Fl.canon Fl.nan Fl.rung
  · rename_i h1 h2
    have h3 : (b : Int) % 4503599627370496 ≠ 0 := bne_iff_ne.1 h2
    rw [if_pos (by rw [decide_eq_true_eq]; omega)]; rfl
  · rename_i h1 h2
    have h3 : (b : Int) % 4503599627370496 = 0 := by simpa using h2
    rw [if_neg (by rw [decide_eq_true_eq]; omega)]; rfl
  · rename_i h1
    rw [if_neg (by rw [decide_eq_true_eq]; omega)]; rfl

set_option maxHeartbeats 400000 in
theorem refOf_any (b : Nat) (hb : b < 18446744073709551616) (w : World) :
    Calls Try.prog 98 #[.int .u64 b] w fun e w' => e = .returned (.float .f64 (Fl.canon b)) ∧ w = w' := by
  have xf := fb_run
  go_enter Try.func98, Try.ntmps98
  go_wp2_with (go_at_call 99; refine (refBits_any _ hb _).mono ?_; rintro e w' ⟨rfl, rfl⟩)
  go_ret
  exact ⟨rfl, rfl⟩

theorem cast_beq (x y : Nat) : ((x : Int) == (y : Int)) = decide (x = y) := by
  rw [Bool.eq_iff_iff, beq_iff_eq, decide_eq_true_eq]; omega
theorem cast_lt (x y : Nat) : decide ((x : Int) < (y : Int)) = decide (x < y) := by
  rw [Bool.eq_iff_iff, decide_eq_true_eq, decide_eq_true_eq]; omega

set_option maxHeartbeats 400000 in
theorem refSame_any (a b : Nat) (ha : a < 18446744073709551616) (hb : b < 18446744073709551616) (w : World) :
    Calls Try.prog 83 #[.float .f64 a, .float .f64 b] w fun e w' => e = .returned (.bool (decide (Fl.canon a = Fl.canon b))) ∧ w = w' := by
  go_enter Try.func83, Try.ntmps83
  go_wp2_with (go_at_call 99; refine (refBits_any _ (by assumption) _).mono ?_; rintro e w' ⟨rfl, rfl⟩)
  go_ret
  exact ⟨ret_eq (congrArg Value.bool (cast_beq _ _)), rfl⟩

set_option maxHeartbeats 400000 in
theorem rank_any (b : Nat) (hb : b < 18446744073709551616) (w : World) :
    Calls Try.prog 161 #[.float .f64 b] w fun e w' => e = .returned (.int .u64 (Fl.rank b : Nat)) ∧ w = w' := by
  have hc := Fl.canon_lt b hb
  go_enter Try.func161, Try.ntmps161
  go_wp2_with (go_at_call 104; refine (bits_any _ hb _).mono ?_; rintro e w' ⟨rfl, rfl⟩)
  all_goals
    go_ret
    refine ⟨ret_eq ?_, rfl⟩
    unfold Fl.rank
  · have h1 : (bits .and .u64 (Fl.canon b : Int) 9223372036854775808 != 0) = true := by assumption
    have h2 : 9223372036854775808 ≤ Fl.canon b := by
      by_cases h : 9223372036854775808 ≤ Fl.canon b
      · exact h
      · rw [Fl.and_sign _ hc, if_neg h] at h1; exact absurd h1 (by decide)
    rw [if_pos h2]
    exact congrArg (Value.int .u64) (Fl.xor_all _ hc)
  · have h1 : (bits .and .u64 (Fl.canon b : Int) 9223372036854775808 != 0) = false := by assumption
    have h2 : ¬ 9223372036854775808 ≤ Fl.canon b := by
      intro h
      rw [Fl.and_sign _ hc, if_pos h] at h1; exact absurd h1 (by decide)
    rw [if_neg h2]
    exact congrArg (Value.int .u64) (Fl.or_sign _ (by omega))

set_option maxHeartbeats 400000 in
theorem less_any (a b : Nat) (ha : a < 18446744073709551616) (hb : b < 18446744073709551616) (w : World) :
    Calls Try.prog 152 #[.float .f64 a, .float .f64 b] w fun e w' => e = .returned (.bool (decide (Fl.rank a < Fl.rank b))) ∧ w = w' := by
  go_enter Try.func152, Try.ntmps152
  go_wp2_with (go_at_call 161; refine (rank_any _ (by assumption) _).mono ?_; rintro e w' ⟨rfl, rfl⟩)
  go_ret
  exact ⟨rfl, rfl⟩

set_option maxHeartbeats 400000 in
theorem before_any (a b : Nat) (ha : a < 18446744073709551616) (hb : b < 18446744073709551616) (w : World) :
    Calls Try.prog 97 #[.float .f64 a, .float .f64 b] w fun e w' => e = .returned (.bool (decide (Fl.rank a < Fl.rank b))) ∧ w = w' := by
  have hca := Fl.canon_lt a ha
  have hcb := Fl.canon_lt b hb
  go_enter Try.func97, Try.ntmps97
  go_wp2_with (go_at_call 99; refine (refBits_any _ (by assumption) _).mono ?_; rintro e w' ⟨rfl, rfl⟩)
  all_goals
    go_ret
    refine ⟨ret_eq (congrArg Value.bool ?_), rfl⟩
    simp only [beq_iff_eq, bne_iff_ne, beq_eq_false_iff_ne, bne_eq_false_iff_eq, ne_eq] at *
    have ra := Fl.rank_cases a
    have rb := Fl.rank_cases b
    have ca := Fl.canon_cases a
    have cb := Fl.canon_cases b
    rw [Bool.eq_iff_iff]
    simp only [decide_eq_true_eq, beq_iff_eq, Bool.false_eq_true, false_iff, true_iff]
    omega

set_option maxHeartbeats 400000 in
theorem min_any (a b : Nat) (ha : a < 18446744073709551616) (hb : b < 18446744073709551616) (w : World) :
    Calls Try.prog 133 #[.float .f64 a, .float .f64 b] w fun e w' => e = .returned (.float .f64 (Fl.minv a b)) ∧ w = w' := by
  cases hd : decide (Fl.rank b < Fl.rank a)
  all_goals
    have h0 : Hid (decide (Fl.rank b < Fl.rank a) = _) := hd
    go_enter Try.func133, Try.ntmps133
    go_wp2_with (first | (go_at_call 152; refine (less_any _ _ hb ha _).mono ?_; rintro e w' ⟨rfl, rfl⟩) | (go_at_call 90; refine (canon_any _ (by assumption) _).mono ?_; rintro e w' ⟨rfl, rfl⟩))
    go_ret
    exact ⟨ret_eq (by have h := h0.out; simp only [decide_eq_true_eq, decide_eq_false_iff_not] at h; simp [Fl.minv, h]), rfl⟩

set_option maxHeartbeats 400000 in
theorem max_any (a b : Nat) (ha : a < 18446744073709551616) (hb : b < 18446744073709551616) (w : World) :
    Calls Try.prog 134 #[.float .f64 a, .float .f64 b] w fun e w' => e = .returned (.float .f64 (Fl.maxv a b)) ∧ w = w' := by
  cases hd : decide (Fl.rank a < Fl.rank b)
  all_goals
    have h0 : Hid (decide (Fl.rank a < Fl.rank b) = _) := hd
    go_enter Try.func134, Try.ntmps134
    go_wp2_with (first | (go_at_call 152; refine (less_any _ _ ha hb _).mono ?_; rintro e w' ⟨rfl, rfl⟩) | (go_at_call 90; refine (canon_any _ (by assumption) _).mono ?_; rintro e w' ⟨rfl, rfl⟩))
    go_ret
    exact ⟨ret_eq (by have h := h0.out; simp only [decide_eq_true_eq, decide_eq_false_iff_not] at h; simp [Fl.maxv, h]), rfl⟩

theorem sign_bool (b : Nat) (hb : b < 18446744073709551616) : (bits .and .u64 (b : Int) 9223372036854775808 != 0) = decide (9223372036854775808 ≤ b) := by
  rw [Fl.and_sign b hb]
  by_cases h : 9223372036854775808 ≤ b <;> simp [h]

set_option maxHeartbeats 400000 in
theorem split_bad (b : Nat) (hb : b < 18446744073709551616) (hr : 9218868437227405312 ≤ Fl.rung b) (w : World) :
    Calls Try.prog 154 #[.float .f64 b] w fun e w' => e = .returned (.tuple #[.bool false, .int .u64 0, .int .i64 0, .bool false]) ∧ w = w' := by
  have hc := Fl.canon_lt b hb
  have x1 := Fl.and_exp (Fl.canon b) hc
  have x2 : ((Fl.canon b : Int) / 4503599627370496 % 2048 == 2047) = true := by
    rw [beq_iff_eq]; unfold Fl.canon Fl.nan; unfold Fl.rung at *; split
    · omega
    · rename_i h; rw [decide_eq_true_eq] at h; omega
  go_enter Try.func154, Try.ntmps154
  go_wp2_with (go_at_call 104; refine (bits_any _ hb _).mono ?_; rintro e w' ⟨rfl, rfl⟩)
  exact bodyPost_ret (v := .tuple #[.bool false, .int .u64 0, .int .i64 0, .bool false]) (by simp [results, Try.results154, go_sem]) rfl ⟨rfl, rfl⟩

set_option maxHeartbeats 400000 in
theorem split_small (b : Nat) (hb : b < 18446744073709551616) (hr : Fl.rung b < 4503599627370496) (w : World) :
    Calls Try.prog 154 #[.float .f64 b] w fun e w' => e = .returned (.tuple #[.bool (decide (9223372036854775808 ≤ b)), .int .u64 (Fl.mant (Fl.rung b) : Nat), .int .i64 (Fl.shf (Fl.rung b) : Nat), .bool true]) ∧ w = w' := by
  have hcc : Fl.canon b = b := by unfold Fl.canon Fl.nan; rw [if_neg]; rw [decide_eq_true_eq]; omega
  have hC : Hid (Fl.canon b = b) := hcc
  have x1 := Fl.and_exp b hb
  have x2 : ((b : Int) / 4503599627370496 % 2048 == 2047) = false := by
    rw [beq_eq_false_iff_ne]; unfold Fl.rung at hr; omega
  have x3 : ((b : Int) / 4503599627370496 % 2048 == 0) = true := by
    rw [beq_iff_eq]; unfold Fl.rung at hr; omega
  have e1 : Hid (bits .and .u64 (b : Int) 4503599627370495 = (Fl.mant (Fl.rung b) : Nat)) := by
    show _ = _
    rw [Fl.and_frac b hb]; unfold Fl.mant; rw [if_pos hr]; unfold Fl.rung at *; omega
  have e2 : Hid ((0 : Int) = (Fl.shf (Fl.rung b) : Nat)) := by
    show _ = _
    unfold Fl.shf; rw [if_pos hr]; rfl
  go_enter Try.func154, Try.ntmps154
  go_wp2_with (go_at_call 104; refine (bits_any _ hb _).mono ?_; rintro e w' ⟨rfl, rfl⟩)
  refine bodyPost_ret (v := .tuple #[.bool (bits .and .u64 (b : Int) 9223372036854775808 != 0), .int .u64 (bits .and .u64 (b : Int) 4503599627370495), .int .i64 0, .bool true]) (by simp [results, Try.results154, go_sem]) rfl ⟨ret_eq ?_, rfl⟩
  rw [sign_bool b hb, e1.out, e2.out]

set_option maxHeartbeats 400000 in
theorem split_norm (b : Nat) (hb : b < 18446744073709551616) (hr : 4503599627370496 ≤ Fl.rung b) (hi : Fl.rung b < 9218868437227405312) (w : World) :
    Calls Try.prog 154 #[.float .f64 b] w fun e w' => e = .returned (.tuple #[.bool (decide (9223372036854775808 ≤ b)), .int .u64 (Fl.mant (Fl.rung b) : Nat), .int .i64 (Fl.shf (Fl.rung b) : Nat), .bool true]) ∧ w = w' := by
  have hcc : Fl.canon b = b := by unfold Fl.canon Fl.nan; rw [if_neg]; rw [decide_eq_true_eq]; omega
  have x1 := Fl.and_exp b hb
  have x2 : ((b : Int) / 4503599627370496 % 2048 == 2047) = false := by
    rw [beq_eq_false_iff_ne]; unfold Fl.rung at hi; omega
  have x3 : ((b : Int) / 4503599627370496 % 2048 == 0) = false := by
    rw [beq_eq_false_iff_ne]; unfold Fl.rung at hr; omega
  have x4 : (b : Int) / 4503599627370496 % 2048 ≤ 2047 := by omega
  have e1 : Hid (bits .or .u64 (bits .and .u64 (b : Int) 4503599627370495) 4503599627370496 = (Fl.mant (Fl.rung b) : Nat)) := by
    show _ = _
    rw [Fl.and_frac b hb, Fl.or_hidden _ (by omega)]; unfold Fl.mant; rw [if_neg (by omega)]; unfold Fl.rung at *; omega
  have e2 : Hid ((b : Int) / 4503599627370496 % 2048 - 1 = (Fl.shf (Fl.rung b) : Nat)) := by
    show _ = _
    unfold Fl.shf; rw [if_neg (by omega)]; unfold Fl.rung at *; omega
  go_enter Try.func154, Try.ntmps154
  go_wp2_with (go_at_call 104; refine (bits_any _ hb _).mono ?_; rintro e w' ⟨rfl, rfl⟩)
  refine bodyPost_ret (v := .tuple #[.bool (bits .and .u64 (b : Int) 9223372036854775808 != 0), .int .u64 (bits .or .u64 (bits .and .u64 (b : Int) 4503599627370495) 4503599627370496), .int .i64 ((b : Int) / 4503599627370496 % 2048 - 1), .bool true]) (by simp [results, Try.results154, go_sem]) rfl ⟨ret_eq ?_, rfl⟩
  rw [sign_bool b hb, e1.out, e2.out]

end Go.Proofs.Ytbimfopbilcdgaa

namespace Go.Proofs.Ytbimfopbilcdgaa.Fl
open Ieee

theorem shf_mant (r : Nat) : shf r * 4503599627370496 + mant r = r := by
  unfold shf mant; split <;> omega

theorem log2_shift (m k : Nat) (h : m ≠ 0) : (m * 2 ^ k).log2 = m.log2 + k := by
  have h1 := Nat.log2_self_le h
  have h2 : m < 2 ^ (m.log2 + 1) := Nat.lt_log2_self
  have hp : 0 < 2 ^ k := Nat.two_pow_pos k
  have h0 : m * 2 ^ k ≠ 0 := by
    intro e; rcases Nat.mul_eq_zero.1 e with e | e <;> omega
  refine (Nat.log2_eq_iff h0).2 ⟨?_, ?_⟩
  · rw [Nat.pow_add]; exact Nat.mul_le_mul_right _ h1
  · rw [show m.log2 + k + 1 = (m.log2 + 1) + k by omega, Nat.pow_add]; exact Nat.mul_lt_mul_of_pos_right h2 hp

/-- A whole number of units is not rounded. -/
theorem cut_exact (neg : Bool) (n k j : Nat) (h : n * 2 ^ k ≠ 0 → k ≤ j + 2) (hj : j = (n * 2 ^ k).log2) : Toward.even.cut neg (n * 2 ^ k) k = n := by
  have hp : 0 < 2 ^ k := Nat.two_pow_pos k
  by_cases h0 : n = 0
  · subst h0
    unfold Toward.cut
    dsimp only
    simp only [Nat.zero_mul, Nat.zero_div, Nat.zero_mod]
    have h1 : (0 : Nat) < 1 <<< min k (Nat.log2 0 + 2) := by rw [Nat.shiftLeft_eq, Nat.one_mul]; exact Nat.two_pow_pos _
    simp
  · have hne : n * 2 ^ k ≠ 0 := by intro e; rcases Nat.mul_eq_zero.1 e with e | e <;> omega
    have hk := h hne
    have hmin : min k ((n * 2 ^ k).log2 + 2) = k := by omega
    unfold Toward.cut
    dsimp only
    rw [hmin, Nat.shiftLeft_eq, Nat.one_mul, Nat.mul_div_cancel _ hp, Nat.mul_mod_left]
    simp

theorem log2_lt53 (m : Nat) (h : m < 9007199254740992) (h0 : m ≠ 0) : m.log2 ≤ 52 := by
  have := (Nat.log2_lt h0 (k := 53)).2 h
  omega
theorem log2_eq52 (m : Nat) (h : m < 9007199254740992) (h1 : 4503599627370496 ≤ m) : m.log2 = 52 :=
  (Nat.log2_eq_iff (by omega)).2 ⟨h1, h⟩
theorem log2_lt52 (m : Nat) (h : m < 4503599627370496) (h0 : m ≠ 0) : m.log2 ≤ 51 := by
  have := (Nat.log2_lt h0 (k := 52)).2 h
  omega

theorem mant_lt (r : Nat) : mant r < 9007199254740992 := by unfold mant; split <;> omega

/-- A number that the format has is written as it is, in whatever units it comes. -/
theorem nearest_exact (neg : Bool) (r k : Nat) (hr : r ≤ 9218868437227405312) (p : Int) (hp : p = -1074 + (shf r : Int) - (k : Int)) :
    double.nearest neg (mant r * 2 ^ k) p = double.word neg r := by
  unfold Format.nearest
  simp only [binadeW, infW, leastW]
  by_cases h0 : mant r = 0
  · have e : r = 0 := (mant_zero_iff r).1 h0
    subst e
    rw [if_pos (by rw [h0]; simp)]
  · have hk : 0 < 2 ^ k := Nat.two_pow_pos k
    have hne : mant r * 2 ^ k ≠ 0 := by intro e; rcases Nat.mul_eq_zero.1 e with e | e <;> omega
    rw [if_neg hne, log2_shift _ _ h0]
    have hl : max (p + ((mant r).log2 + k : Nat) - (double.fractionBits : Nat)) (-1074) = -1074 + (shf r : Int) := by
      have hf : (double.fractionBits : Nat) = 52 := rfl
      rw [hf]
      by_cases hb : r < 4503599627370496
      · have h1 : mant r = r := by unfold mant; rw [if_pos hb]
        have h2 : shf r = 0 := by unfold shf; rw [if_pos hb]
        have := log2_lt52 r hb (by omega)
        rw [h1, h2]; rw [h2] at hp; omega
      · have h1 : 4503599627370496 ≤ mant r := by unfold mant; rw [if_neg hb]; omega
        have := log2_eq52 (mant r) (mant_lt r) h1
        omega
    rw [hl]
    have e1 : (p - (-1074 + (shf r : Int))).toNat = 0 := by omega
    have e2 : (-1074 + (shf r : Int) - p).toNat = k := by omega
    have e3 : (-1074 + (shf r : Int) - -1074).toNat = shf r := by omega
    rw [e1, e2, e3, Nat.shiftLeft_zero, cut_exact neg (mant r) k _ (fun _ => ?_) rfl, shf_mant, Nat.min_eq_left hr]
    rw [log2_shift _ _ h0]; omega

/-- The word of a whole number. -/
def ofNat (m : Nat) : Nat := if m = 0 then 0 else (m.log2 + 1022) * 4503599627370496 + m * 2 ^ (52 - m.log2)

theorem scaled52 (m : Nat) (h : m < 9007199254740992) (h0 : m ≠ 0) : 4503599627370496 ≤ m * 2 ^ (52 - m.log2) ∧ m * 2 ^ (52 - m.log2) < 9007199254740992 := by
  have hl := log2_lt53 m h h0
  have h1 := Nat.log2_self_le h0
  have h2 : m < 2 ^ (m.log2 + 1) := Nat.lt_log2_self
  have hp : 0 < 2 ^ (52 - m.log2) := Nat.two_pow_pos _
  constructor
  · have := Nat.mul_le_mul_right (2 ^ (52 - m.log2)) h1
    rw [← Nat.pow_add, show m.log2 + (52 - m.log2) = 52 by omega] at this
    exact this
  · have := Nat.mul_lt_mul_of_pos_right h2 hp
    rw [← Nat.pow_add, show m.log2 + 1 + (52 - m.log2) = 53 by omega] at this
    exact this

theorem floatOfInt_nat (m : Nat) (h : m < 9007199254740992) : floatOfInt .f64 (m : Int) = ofNat m := by
  show double.nearest (decide ((m : Int) < 0)) (m : Int).natAbs 0 = _
  rw [show decide ((m : Int) < 0) = false from decide_eq_false (by omega), Int.natAbs_natCast]
  unfold Format.nearest
  simp only [binadeW, infW, leastW]
  by_cases h0 : m = 0
  · subst h0
    rw [if_pos rfl]
    show _ = 0
    decide
  · rw [if_neg h0]
    have hl := log2_lt53 m h h0
    have hs := scaled52 m h h0
    have e0 : max ((0 : Int) + (m.log2 : Nat) - (double.fractionBits : Nat)) (-1074) = (m.log2 : Int) - 52 := by
      have hf : (double.fractionBits : Nat) = 52 := rfl
      rw [hf]; omega
    rw [e0]
    have e1 : ((0 : Int) - ((m.log2 : Int) - 52)).toNat = 52 - m.log2 := by omega
    have e2 : ((m.log2 : Int) - 52 - 0).toNat = 0 := by omega
    have e3 : ((m.log2 : Int) - 52 - -1074).toNat = m.log2 + 1022 := by omega
    have ec := cut_exact false (m * 2 ^ (52 - m.log2)) 0 _ (fun _ => by omega) rfl
    rw [Nat.pow_zero, Nat.mul_one] at ec
    rw [e1, e2, e3, Nat.shiftLeft_eq, ec]
    unfold ofNat
    rw [if_neg h0, Nat.min_eq_left (by omega)]
    rfl

theorem ofNat_facts (m : Nat) (h : m < 9007199254740992) (h0 : m ≠ 0) :
    ofNat m = (m.log2 + 1022) * 4503599627370496 + m * 2 ^ (52 - m.log2) ∧ ofNat m / 4503599627370496 = m.log2 + 1023 ∧ ofNat m % 4503599627370496 = m * 2 ^ (52 - m.log2) - 4503599627370496 ∧ ofNat m < 9218868437227405312 ∧ 4607182418800017408 ≤ ofNat m := by
  have hl := log2_lt53 m h h0
  have hs := scaled52 m h h0
  have e : ofNat m = (m.log2 + 1022) * 4503599627370496 + m * 2 ^ (52 - m.log2) := by unfold ofNat; rw [if_neg h0]
  rw [e]
  generalize m * 2 ^ (52 - m.log2) = t at *
  refine ⟨rfl, ?_, ?_, ?_, ?_⟩ <;> omega

theorem nonneg_rung (r : Nat) (h : r < 9223372036854775808) : rung r = r := Nat.mod_eq_of_lt h

theorem read_nat (r : Nat) (h : r < 9218868437227405312) : double.read r = .number false (mant r) (-1074 + (shf r : Nat)) := by
  rw [read_num r (by omega) (by rw [nonneg_rung r (by omega)]; exact h), nonneg_rung r (by omega)]
  rw [decide_eq_false (by omega)]

theorem mul_of (a b r k : Nat) (ha : a < 9218868437227405312) (hb : b < 9218868437227405312) (hr : r ≤ 9218868437227405312)
    (hm : mant a * mant b = mant r * 2 ^ k) (hs : (shf a : Int) + shf b - 1074 = shf r - k) : floatBits .mul .f64 a b = some r := by
  show double.mul a b = some r
  unfold Format.mul
  rw [read_nat a ha, read_nat b hb]
  show some (double.nearest (false ^^ false) (mant a * mant b) _) = some r
  rw [hm, nearest_exact _ r k hr _ (by omega)]
  rfl

/-- One times a number. -/
theorem mul_one_word (r : Nat) (hr : r < 9218868437227405312) : floatBits .mul .f64 4607182418800017408 r = some r := by
  refine mul_of _ r r 52 (by decide) hr (by omega) ?_ ?_
  · rw [show mant 4607182418800017408 = 2 ^ 52 by decide +kernel, Nat.mul_comm]
  · rw [show shf 4607182418800017408 = 1022 by decide +kernel]; omega

/-- A number with no hidden bit out of its normal twin. -/
theorem mul_sub_word (m : Nat) (h : m < 4503599627370496) (h0 : m ≠ 0) :
    floatBits .mul .f64 4368491638549381120 ((m.log2 + 1) * 4503599627370496 + m * 2 ^ (52 - m.log2)) = some m := by
  have hl := log2_lt52 m h h0
  have hs := scaled52 m (by omega) h0
  have hm : mant m = m := by unfold mant; rw [if_pos h]
  have hz : shf m = 0 := by unfold shf; rw [if_pos h]
  have k1 : mant ((m.log2 + 1) * 4503599627370496 + m * 2 ^ (52 - m.log2)) = m * 2 ^ (52 - m.log2) := by
    unfold mant; rw [if_neg (by omega)]; generalize m * 2 ^ (52 - m.log2) = t at *; omega
  have k2 : shf ((m.log2 + 1) * 4503599627370496 + m * 2 ^ (52 - m.log2)) = m.log2 + 1 := by
    unfold shf; rw [if_neg (by omega)]; generalize m * 2 ^ (52 - m.log2) = t at *; omega
  refine mul_of _ _ m (104 - m.log2) (by decide) (by generalize m * 2 ^ (52 - m.log2) = t at *; omega) (by omega) ?_ ?_
  · rw [k1, hm, show mant 4368491638549381120 = 2 ^ 52 by decide +kernel, Nat.mul_comm (2 ^ 52), Nat.mul_assoc, ← Nat.pow_add, show 52 - m.log2 + 52 = 104 - m.log2 by omega]
  · rw [k2, hz, show shf 4368491638549381120 = 969 by decide +kernel]; omega

/-! The sign struck off; infinite? -/
theorem andNot_sign (b : Nat) (hb : b < 18446744073709551616) : bits .andNot .u64 (b : Int) 9223372036854775808 = (rung b : Nat) := by
  have h := u64_andNot (b : Int) 9223372036854775808 (by omega) (by omega) (by decide) (by decide)
  rw [h, Int.toNat_natCast, show (18446744073709551615 : Nat) - (9223372036854775808 : Int).toNat = 9223372036854775807 by decide, nat_mask63]
  rfl
theorem isinf (b : Nat) : (FloatKind.f64.format.order (rung b) 9218868437227405311 == some .gt) = decide (rung b = 9218868437227405312) := by
  have hr : rung b < 9223372036854775808 := Nat.mod_lt _ (by decide)
  have hrr : rung (rung b) = rung b := nonneg_rung _ hr
  by_cases h : nan b = true
  · have h2 : nan (rung b) = true := by unfold nan at *; rw [hrr]; exact h
    rw [show FloatKind.f64.format.order (rung b) 9218868437227405311 = none from order_nan_l _ _ h2]
    unfold nan at h; rw [decide_eq_true_eq] at h
    rw [decide_eq_false (by omega)]; rfl
  · have h2 : nan (rung b) = false := by
      unfold nan at *; rw [hrr]; simpa using h
    rw [ord_gt _ _ (by omega) (by decide) h2 (by decide)]
    have e1 : key (rung b) = (rung b : Int) := by unfold key; rw [if_neg (by omega), hrr]
    have e2 : key 9218868437227405311 = 9218868437227405311 := by decide +kernel
    rw [e1, e2]
    unfold nan at h; rw [decide_eq_true_eq] at h
    rw [decide_eq_decide]; omega

theorem and_exp_int (n : Nat) (h : n < 9223372036854775808) : bits .and .i64 (n : Int) 2047 = ((n % 2048 : Nat) : Int) := by
  have h1 : (BitVec.ofInt 64 (n : Int)).toNat = n := by
    rw [BitVec.ofInt_natCast, BitVec.toNat_ofNat]; exact Nat.mod_eq_of_lt (by omega)
  have h2 : (BitVec.ofInt 64 (2047 : Int)).toNat = 2047 := by decide
  show IntKind.i64.wrap ((BitVec.ofInt 64 (n : Int) &&& BitVec.ofInt 64 (2047 : Int)).toNat : Int) = _
  rw [BitVec.toNat_and, h1, h2, nat_mask11]
  exact IntWalk.i64_in _ (by omega)
theorem andNot_exp (n : Nat) (h : n < 9223372036854775808) : bits .andNot .u64 (n : Int) 9218868437227405312 = ((n % 4503599627370496 : Nat) : Int) := by
  have h1 := u64_andNot (n : Int) 9218868437227405312 (by omega) (by omega) (by decide) (by decide)
  rw [h1, Int.toNat_natCast, show (18446744073709551615 : Nat) - (9218868437227405312 : Int).toNat = 9223372036854775808 ||| 4503599627370495 by decide, Nat.and_or_distrib_left, nat_mask52, nat_bit63]
  rw [show n / 9223372036854775808 % 2 * 9223372036854775808 = 0 by omega, Nat.zero_or]
theorem or_exp (f e : Nat) (hf : f < 4503599627370496) (he : e < 2048) : bits .or .u64 (f : Int) ((e : Int) * 4503599627370496) = ((e * 4503599627370496 + f : Nat) : Int) := by
  have h := bits_or_u64_nat f (e * 4503599627370496) (by omega) (by omega)
  have e1 : f ||| e * 4503599627370496 = e * 4503599627370496 + f := by
    have := Nat.two_pow_add_eq_or_of_lt (i := 52) (b := f) hf e
    rw [Nat.or_comm, Nat.mul_comm e]
    simpa using this.symm
  rw [e1] at h
  rw [← h]
  rw [Int.natCast_mul]; rfl

end Go.Proofs.Ytbimfopbilcdgaa.Fl

namespace Go.Proofs.Ytbimfopbilcdgaa
open Go.RowKit

set_option maxHeartbeats 400000 in
theorem abs_any (b : Nat) (hb : b < 18446744073709551616) (w : World) :
    Calls Try.prog 167 #[.float .f64 b] w fun e w' => e = .returned (.float .f64 (Fl.rung b)) ∧ w = w' := by
  have xf := fb_run
  have xt := tb_run
  have h := Fl.andNot_sign b hb
  go_enter Try.func167, Try.ntmps167
  go_wp2
  go_ret
  exact ⟨ret_eq (by simp), rfl⟩

set_option maxHeartbeats 400000 in
theorem isInf_any (b : Nat) (hb : b < 18446744073709551616) (w : World) :
    Calls Try.prog 162 #[.float .f64 b, .int .i64 0] w fun e w' => e = .returned (.bool (decide (Fl.rung b = 9218868437227405312))) ∧ w = w' := by
  go_enter Try.func162, Try.ntmps162
  go_wp2_with (go_at_call 167; refine (abs_any _ (by assumption) _).mono ?_; rintro e w' ⟨rfl, rfl⟩)
  go_ret
  exact ⟨ret_eq (congrArg Value.bool (Fl.isinf b)), rfl⟩

set_option maxHeartbeats 400000 in
theorem signbit_any (b : Nat) (hb : b < 18446744073709551616) (w : World) :
    Calls Try.prog 163 #[.float .f64 b] w fun e w' => e = .returned (.bool (decide (9223372036854775808 ≤ b))) ∧ w = w' := by
  have xt := tb_run
  go_enter Try.func163, Try.ntmps163
  go_wp2
  go_ret
  refine ⟨ret_eq (congrArg Value.bool ?_), rfl⟩
  unfold wrap64
  rw [decide_eq_decide]
  omega

theorem pos_facts (F : Nat) (h : F < 9218868437227405312) (h0 : 0 < F) : Fl.nan F = false ∧ decide (Fl.rung F = 9218868437227405312) = false ∧ (FloatKind.f64.format.order F 0 == some .eq) = false := by
  have hr : Fl.rung F = F := Fl.nonneg_rung F (by omega)
  have n0 : Fl.nan F = false := by unfold Fl.nan; rw [hr]; exact decide_eq_false (by omega)
  refine ⟨n0, by rw [hr]; exact decide_eq_false (by omega), ?_⟩
  rw [Fl.ord_eq F 0 (by omega) (by decide) n0 (by decide)]
  have e1 : Fl.key F = (F : Int) := by unfold Fl.key; rw [if_neg (by omega), hr]
  have e2 : Fl.key 0 = 0 := by decide +kernel
  rw [e1, e2]; exact decide_eq_false (by omega)

theorem neg_pos (r : Nat) (hr : r < 9218868437227405312) : Op.negFloat .f64 r = r + 9223372036854775808 := by
  show r ^^^ 2 ^ 63 = _
  rw [Nat.add_comm]
  have h1 := Nat.two_pow_add_eq_or_of_lt (i := 63) (b := r) (by omega) 1
  have h2 : 9223372036854775808 + r = 9223372036854775808 ||| r := by simpa using h1
  rw [h2]
  apply Nat.eq_of_testBit_eq
  intro i
  rw [Nat.testBit_xor, Nat.testBit_or, show (9223372036854775808 : Nat) = 2 ^ 63 by decide]
  simp only [Nat.testBit_two_pow]
  by_cases hi : 63 = i
  · subst hi
    rw [Nat.testBit_lt_two_pow (show r < 2 ^ 63 by omega)]; rfl
  · simp [hi]

end Go.Proofs.Ytbimfopbilcdgaa

set_option linter.unusedSimpArgs false
set_option linter.unusedVariables false
set_option maxRecDepth 8000
namespace Go.Proofs.Ytbimfopbilcdgaa.Sm

/-- The powers of a word's reach. -/
def pw (k : Nat) : Nat := 2 ^ (64 * k)
theorem pw_pos (k : Nat) : 0 < pw k := Nat.two_pow_pos _
theorem pw_zero : pw 0 = 1 := rfl
theorem pw_dvd (i j : Nat) (h : i ≤ j) : pw i ∣ pw j := Nat.pow_dvd_pow 2 (by omega)
/-- The words of a number. -/
def wd (n i : Nat) : Nat := n / pw i % 18446744073709551616
/-- Below it lie all numbers of 35 words. -/
def top : Nat := pw 35
/-- 35 cells. -/
def A35 (f : Nat → Nat) : Array Value := Array.ofFn (n := 35) fun i => Value.int .u64 (f i)
/-- A sum's cells. -/
def S36 (n h : Nat) : Array Value := (A35 (wd n)).push (.int .u8 h)
/-- The words below k of one, the others of another. -/
def mix (k a b i : Nat) : Nat := if i < k then wd a i else wd b i

theorem A35_size (f : Nat → Nat) : (A35 f).size = 35 := by simp [A35]
theorem A35_get (f : Nat → Nat) (i : Nat) (h : i < 35) : (A35 f)[i]? = some (.int .u64 (f i)) := by
  simp [A35, h]
theorem A35_congr {f g : Nat → Nat} (h : ∀ i, i < 35 → f i = g i) : A35 f = A35 g := by
  unfold A35
  congr 1
  funext i
  rw [h i i.isLt]
theorem A35_set (f : Nat → Nat) (k x : Nat) : (A35 f).setIfInBounds k (.int .u64 (x : Int)) = A35 (fun i => if i = k then x else f i) := by
  apply Array.ext_getElem?
  intro i
  rw [Array.getElem?_setIfInBounds]
  by_cases h : i < 35
  · rw [A35_get _ i h, A35_get _ i h]
    by_cases e : k = i
    · subst e
      simp [A35_size, h]
    · rw [if_neg e, if_neg (fun h => e h.symm)]
  · have h1 : ∀ g, (A35 g)[i]? = none := fun g => Array.getElem?_eq_none (by rw [A35_size]; omega)
    rw [h1, h1]
    by_cases e : k = i
    · subst e
      simp [A35_size, h]
    · rw [if_neg e]
theorem mix_zero (a b : Nat) : mix 0 a b = wd b := by funext i; simp [mix]
theorem mix_all (a b : Nat) : A35 (mix 35 a b) = A35 (wd a) := A35_congr fun i h => by simp [mix, h]
theorem mix_set (k a b : Nat) : (A35 (mix k a b)).setIfInBounds k (.int .u64 (wd a k : Nat)) = A35 (mix (k + 1) a b) := by
  rw [A35_set]
  refine A35_congr fun i h => ?_
  unfold mix
  by_cases e : i = k
  · subst e; simp
  · rw [if_neg e]
    by_cases h2 : i < k
    · rw [if_pos h2, if_pos (by omega)]
    · rw [if_neg h2, if_neg (by omega)]
theorem mix_get (k a b : Nat) (h : k < 35) : (A35 (mix k a b))[k]? = some (.int .u64 (wd b k : Nat)) := by
  rw [A35_get _ _ h]; simp [mix]
theorem wd_lt (n i : Nat) : wd n i < 18446744073709551616 := Nat.mod_lt _ (by decide)

theorem pow_step (k : Nat) : pw (k + 1) = pw k * 18446744073709551616 := by
  unfold pw; rw [Nat.mul_add, Nat.pow_add]
theorem mod_step (n k : Nat) : n % pw (k + 1) = n % pw k + pw k * wd n k := by
  rw [pow_step, Nat.mod_mul]; rfl
theorem wd_mod (n k j : Nat) (h : k < j) : wd (n % pw j) k = wd n k := by
  unfold wd
  have e : pw j = pw k * (18446744073709551616 * 2 ^ (64 * (j - k - 1))) := by
    unfold pw
    rw [show (18446744073709551616 : Nat) = 2 ^ 64 from rfl, ← Nat.pow_add, ← Nat.pow_add]; congr 1; omega
  rw [e, Nat.mod_mul_right_div_self, Nat.mod_mul_right_mod]
theorem top_eq : top = pw 35 := rfl
theorem top_pos : 0 < top := pw_pos _

/-! Sums -/
/-- What is carried into word k. -/
def car (a b k : Nat) : Nat := (a % pw k + b % pw k) / pw k
theorem car_zero (a b : Nat) : car a b 0 = 0 := by simp [car, pw_zero, Nat.mod_one]
theorem car_le (a b k : Nat) : car a b k ≤ 1 := by
  unfold car
  have hp : 0 < pw k := pw_pos _
  have h1 := Nat.mod_lt a hp
  have h2 := Nat.mod_lt b hp
  have : (a % pw k + b % pw k) / pw k < 2 := (Nat.div_lt_iff_lt_mul hp).2 (by omega)
  omega
theorem sum_step (a b k : Nat) : a % pw (k + 1) + b % pw (k + 1) = (a % pw k + b % pw k) % pw k + pw k * (wd a k + wd b k + car a b k) := by
  have e := Nat.div_add_mod (a % pw k + b % pw k) (pw k)
  rw [mod_step, mod_step, Nat.mul_add, Nat.mul_add]
  unfold car
  omega
theorem car_succ (a b k : Nat) : car a b (k + 1) = (wd a k + wd b k + car a b k) / 18446744073709551616 := by
  have hp : 0 < pw k := pw_pos _
  have hr := Nat.mod_lt (a % pw k + b % pw k) hp
  show (a % pw (k + 1) + b % pw (k + 1)) / pw (k + 1) = _
  rw [sum_step, pow_step, ← Nat.div_div_eq_div_mul, Nat.add_mul_div_left _ _ hp, Nat.div_eq_of_lt hr, Nat.zero_add]
theorem wd_add (a b k : Nat) : wd (a + b) k = (wd a k + wd b k + car a b k) % 18446744073709551616 := by
  have hp : 0 < pw k := pw_pos _
  have hr := Nat.mod_lt (a % pw k + b % pw k) hp
  rw [← wd_mod (a + b) k (k + 1) (by omega), Nat.add_mod, sum_step]
  rw [wd_mod _ k (k + 1) (by omega)]
  unfold wd
  rw [Nat.add_mul_div_left _ _ hp, Nat.div_eq_of_lt hr, Nat.zero_add]
theorem wd_sum (a b k : Nat) (hk : k < 35) : wd ((a + b) % top) k = (wd a k + wd b k + car a b k) % 18446744073709551616 := by
  rw [top_eq, wd_mod _ _ _ hk, wd_add]

/-! The number with the other sign -/
def neg (n : Nat) : Nat := (top - n) % top
/-- What is borrowed for word k. -/
def bor (n k : Nat) : Nat := if n % pw k = 0 then 0 else 1
theorem bor_zero (n : Nat) : bor n 0 = 0 := by simp [bor, pw_zero, Nat.mod_one]
theorem bor_le (n k : Nat) : bor n k ≤ 1 := by unfold bor; split <;> omega
theorem bor_succ (n k : Nat) : bor n (k + 1) = if 0 < wd n k + bor n k then 1 else 0 := by
  unfold bor
  have hp : 0 < pw k := pw_pos _
  rw [mod_step]
  by_cases h : n % pw k = 0
  · rw [h, if_pos rfl, Nat.zero_add, Nat.add_zero]
    by_cases h2 : wd n k = 0
    · rw [h2]; simp
    · rw [if_neg (by intro e; rcases Nat.mul_eq_zero.1 e with e | e <;> omega), if_pos (by omega)]
  · rw [if_neg (by omega), if_neg h, if_pos (by omega)]
theorem sub_mod_of (M K n : Nat) (hM : K ∣ M) (hn : n ≤ M) (hK : 0 < K) : (M - n) % K = (K - n % K) % K := by
  obtain ⟨c, rfl⟩ := hM
  have e := Nat.div_add_mod n K
  have hr := Nat.mod_lt n hK
  generalize n % K = r at *
  generalize n / K = q at *
  subst e
  by_cases h0 : r = 0
  · subst h0
    rw [Nat.add_zero, Nat.sub_zero, Nat.mod_self, ← Nat.mul_sub, Nat.mul_mod_right]
  · have hq : q < c := by
      rcases Nat.lt_or_ge q c with h | h
      · exact h
      · have := Nat.mul_le_mul_left K h; omega
    have e2 : K * c - (K * q + r) = K * (c - q - 1) + (K - r) := by
      have : K * c = K * (c - q - 1) + K * q + K := by
        rw [← Nat.mul_add, ← Nat.mul_succ]; congr 1; omega
      omega
    rw [e2, Nat.mul_add_mod]
theorem wd_neg (n k : Nat) (hn : n ≤ top) (hk : k < 35) : wd (neg n) k = (0 + 18446744073709551616 - wd n k - bor n k) % 18446744073709551616 := by
  have hp : 0 < pw k := pw_pos _
  have hx := wd_lt n k
  have hr := Nat.mod_lt n hp
  unfold neg
  rw [top_eq, wd_mod _ _ _ hk, ← wd_mod _ k (k + 1) (by omega), sub_mod_of (pw 35) (pw (k + 1)) n (pw_dvd _ _ (by omega)) hn (pw_pos _)]
  rw [wd_mod _ k (k + 1) (by omega), mod_step, pow_step]
  unfold bor
  generalize n % pw k = r at *
  generalize wd n k = x at *
  unfold wd
  generalize pw k = K at *
  by_cases h : r = 0
  · subst h
    rw [if_pos rfl, Nat.zero_add, ← Nat.mul_sub, Nat.mul_div_cancel_left _ hp]; congr 1
  · rw [if_neg h]
    have e : K * 18446744073709551616 - (r + K * x) = K * (18446744073709551616 - x - 1) + (K - r) := by
      have : K * 18446744073709551616 = K * (18446744073709551616 - x - 1) + K * x + K := by
        rw [← Nat.mul_add, ← Nat.mul_succ]; congr 1; omega
      omega
    rw [e, Nat.mul_add_div hp, Nat.div_eq_of_lt (by omega), Nat.add_zero]
theorem neg_lt (n : Nat) : neg n < top := Nat.mod_lt _ top_pos

/-! A number is known by its words -/
theorem mod_of_wd {a b : Nat} : ∀ j, (∀ i, i < j → wd a i = wd b i) → a % pw j = b % pw j
  | 0, _ => by simp [pw_zero, Nat.mod_one]
  | j + 1, h => by rw [mod_step, mod_step, mod_of_wd j (fun i hi => h i (by omega)), h j (by omega)]
theorem eq_of_wd {a b : Nat} (ha : a < top) (hb : b < top) (h : ∀ i, i < 35 → wd a i = wd b i) : a = b := by
  have := mod_of_wd 35 h
  rwa [← top_eq, Nat.mod_eq_of_lt ha, Nat.mod_eq_of_lt hb] at this
theorem A35_inj {f g : Nat → Nat} (h : A35 f = A35 g) (i : Nat) (hi : i < 35) : f i = g i := by
  have h1 := A35_get f i hi
  rw [h, A35_get g i hi] at h1
  simp only [Option.some.injEq, Value.int.injEq, true_and] at h1
  omega
attribute [irreducible] A35 wd pw top mix neg bor car S36
end Go.Proofs.Ytbimfopbilcdgaa.Sm

set_option linter.unusedSimpArgs false
set_option linter.unusedVariables false
set_option maxRecDepth 8000
namespace Go.Proofs.Ytbimfopbilcdgaa.Sm

theorem or_add (x y r : Nat) (hr : r ≤ 64) (hx : x < 18446744073709551616) : x / 2 ^ r ||| (y * 2 ^ (64 - r)) % 18446744073709551616 = (x + 18446744073709551616 * y) / 2 ^ r % 18446744073709551616 := by
  have hp : 0 < 2 ^ r := Nat.two_pow_pos r
  have hq : 0 < 2 ^ (64 - r) := Nat.two_pow_pos _
  have e64 : 2 ^ r * 2 ^ (64 - r) = 18446744073709551616 := by rw [← Nat.pow_add, show r + (64 - r) = 64 by omega]
  have hlo : x / 2 ^ r < 2 ^ (64 - r) := (Nat.div_lt_iff_lt_mul hp).2 (by rw [Nat.mul_comm]; omega)
  have e1 : y * 2 ^ (64 - r) % 18446744073709551616 = 2 ^ (64 - r) * (y % 2 ^ r) := by
    rw [← e64, Nat.mul_comm y, Nat.mul_comm (2 ^ r), Nat.mul_mod_mul_left]
  have e2 : (x + 18446744073709551616 * y) / 2 ^ r = x / 2 ^ r + 2 ^ (64 - r) * y := by
    rw [← e64, Nat.mul_assoc, Nat.add_mul_div_left _ _ hp]
  have e3 : (x / 2 ^ r + 2 ^ (64 - r) * y) % 18446744073709551616 = x / 2 ^ r + 2 ^ (64 - r) * (y % 2 ^ r) := by
    rw [← e64, Nat.mul_comm (2 ^ r), Nat.mod_mul, Nat.add_mul_mod_self_left, Nat.mod_eq_of_lt hlo, Nat.add_mul_div_left _ _ hq, Nat.div_eq_of_lt hlo, Nat.zero_add]
  rw [e1, e2, e3, Nat.or_comm, ← Nat.two_pow_add_eq_or_of_lt hlo, Nat.add_comm]

theorem pw_eq (k : Nat) : pw k = 2 ^ (64 * k) := by unfold pw; rfl
/-- The word k, and the next one, out of the number's quotient. -/
theorem two_words (n k : Nat) : n / pw k % (18446744073709551616 * 18446744073709551616) = wd n k + 18446744073709551616 * wd n (k + 1) := by
  rw [Nat.mod_mul]
  unfold wd
  rw [Nat.div_div_eq_div_mul, ← pow_step]
theorem div_split (n s : Nat) : n / 2 ^ s = n / pw (s / 64) / 2 ^ (s % 64) := by
  rw [pw_eq, Nat.div_div_eq_div_mul, ← Nat.pow_add]; congr 2; omega
theorem bits_low (n s : Nat) : wd n (s / 64) / 2 ^ (s % 64) ||| (wd n (s / 64 + 1) * 2 ^ (64 - s % 64)) % 18446744073709551616 = n / 2 ^ s % 18446744073709551616 := by
  rw [or_add _ _ _ (by omega) (wd_lt _ _), ← two_words, div_split n s]
  generalize n / pw (s / 64) = q
  have hr : s % 64 < 64 := Nat.mod_lt _ (by decide)
  generalize s % 64 = r at *
  have e : (18446744073709551616 * 18446744073709551616 : Nat) = 2 ^ r * (18446744073709551616 * 2 ^ (64 - r)) := by
    rw [show (18446744073709551616 : Nat) = 2 ^ 64 from rfl, ← Nat.pow_add, ← Nat.pow_add, ← Nat.pow_add]; congr 1; omega
  rw [e, Nat.mod_mul_right_div_self, Nat.mod_mul_right_mod]
theorem bits_high (n s : Nat) (hn : n < top) (hs : 35 ≤ s / 64 + 1) (h2 : s / 64 < 35) : wd n (s / 64) / 2 ^ (s % 64) = n / 2 ^ s % 18446744073709551616 := by
  have e : s / 64 = 34 := by omega
  rw [div_split n s, e]
  have h1 : n / pw 34 < 18446744073709551616 := (Nat.div_lt_iff_lt_mul (pw_pos _)).2 (by rw [Nat.mul_comm, ← pow_step, ← top_eq]; exact hn)
  unfold wd
  rw [Nat.mod_eq_of_lt h1]
  exact (Nat.mod_eq_of_lt (Nat.lt_of_le_of_lt (Nat.div_le_self _ _) h1)).symm

/-! Below a place -/
theorem mod_split (n s : Nat) : n % 2 ^ s = n % pw (s / 64) + pw (s / 64) * (wd n (s / 64) % 2 ^ (s % 64)) := by
  have e : 2 ^ s = pw (s / 64) * 2 ^ (s % 64) := by rw [pw_eq, ← Nat.pow_add]; congr 1; omega
  rw [e, Nat.mod_mul]
  unfold wd
  have hr : s % 64 < 64 := Nat.mod_lt _ (by decide)
  have e2 : (18446744073709551616 : Nat) = 2 ^ (s % 64) * 2 ^ (64 - s % 64) := by
    rw [← Nat.pow_add, show s % 64 + (64 - s % 64) = 64 by omega]
  rw [e2, Nat.mod_mul_right_mod]
theorem below_last (n s : Nat) (h : n % pw (s / 64) = 0) : (wd n (s / 64) * 2 ^ (64 - s % 64)) % 18446744073709551616 = 0 ↔ n % 2 ^ s = 0 := by
  have hr : s % 64 < 64 := Nat.mod_lt _ (by decide)
  rw [mod_split n s, h, Nat.zero_add]
  generalize wd n (s / 64) = x
  have hp := pw_pos (s / 64)
  generalize pw (s / 64) = K at *
  generalize s % 64 = r at *
  have hq : 0 < 2 ^ (64 - r) := Nat.two_pow_pos _
  have e64 : 2 ^ r * 2 ^ (64 - r) = 18446744073709551616 := by rw [← Nat.pow_add, show r + (64 - r) = 64 by omega]
  rw [← e64, Nat.mul_comm x, Nat.mul_comm (2 ^ r), Nat.mul_mod_mul_left, Nat.mul_eq_zero, Nat.mul_eq_zero]
  omega
theorem below_word (n s k : Nat) (hk : k < s / 64) (h : wd n k ≠ 0) : n % 2 ^ s ≠ 0 := by
  intro e
  have hd : pw (k + 1) ∣ 2 ^ s := by rw [pw_eq]; exact Nat.pow_dvd_pow 2 (by omega)
  have h1 : n % pw (k + 1) = 0 := by
    rw [← Nat.mod_mod_of_dvd n hd, e, Nat.zero_mod]
  rw [mod_step] at h1
  have hp := pw_pos k
  rcases Nat.eq_zero_or_pos (wd n k) with h2 | h2
  · exact h h2
  · have := Nat.mul_pos hp h2
    omega
theorem zero_step (n k : Nat) (h : n % pw k = 0) (h2 : wd n k = 0) : n % pw (k + 1) = 0 := by rw [mod_step, h, h2]; simp

/-! How many bits -/
theorem len_zero_word (n k : Nat) (h : wd n k = 0) : bitLen (n % pw (k + 1)) = bitLen (n % pw k) := by rw [mod_step, h]; simp
theorem len_word (n k : Nat) (h : wd n k ≠ 0) : bitLen (n % pw (k + 1)) = k * 64 + bitLen (wd n k) := by
  have hp := pw_pos k
  have e : n % pw (k + 1) / 2 ^ (64 * k) = wd n k := by
    rw [← pw_eq, mod_step, Nat.add_mul_div_left _ _ hp, Nat.div_eq_of_lt (Nat.mod_lt _ hp), Nat.zero_add]
  rw [bitLen_shift _ (64 * k) (by rw [e]; exact h), e, Nat.mul_comm]
theorem len_none (n : Nat) : bitLen (n % pw 0) = 0 := by rw [pw_zero, Nat.mod_one]; rfl
theorem len_all (n : Nat) (h : n < top) : bitLen (n % pw 35) = bitLen n := by rw [← top_eq, Nat.mod_eq_of_lt h]
theorem len_le (n : Nat) (h : n < top) : bitLen n ≤ 2240 := by
  unfold bitLen
  split
  · omega
  · rename_i h0
    rw [top_eq, pw_eq] at h
    have := (Nat.log2_lt h0).2 h
    omega
theorem len_le_of (n k : Nat) (h : n < 2 ^ k) : bitLen n ≤ k := by
  unfold bitLen
  split
  · omega
  · rename_i h0
    have := (Nat.log2_lt h0).2 h
    omega
theorem wd_len (n k : Nat) : bitLen (wd n k) ≤ 64 := len_le_of _ 64 (wd_lt n k)
end Go.Proofs.Ytbimfopbilcdgaa.Sm

set_option linter.unusedSimpArgs false
set_option linter.unusedVariables false
set_option maxRecDepth 8000
namespace Go.Proofs.Ytbimfopbilcdgaa
open Go.RowKit

theorem len_byte (y : Nat) (_hy : y < 256) (p : y < Lib.len8tab.size) : ((Lib.len8tab[y]'p).toNat : Int) = (bitLen y : Nat) := by
  have h := len8tab_get y (by exact p)
  exact congrArg Int.ofNat h
theorem len_at (x y : Int) (k : Nat) (K : Int) (hK : K = (k : Nat)) (hk : k ≤ 56) (h0 : 0 ≤ y) (h1 : y < 256) (e : y.toNat = x.toNat / 2 ^ k) (hy : y ≠ 0) (p : y.toNat < Lib.len8tab.size) :
    wrap64 (K + wrap64 ((Lib.len8tab[y.toNat]'p).toNat : Int)) = (bitLen x.toNat : Nat) := by
  rw [len_byte _ (by omega) p]
  have h8 := bitLen_le8 y.toNat (by omega)
  have hs := bitLen_shift x.toNat k (by rw [← e]; omega)
  rw [← e] at hs
  unfold wrap64
  omega
theorem len_low (x : Int) (h0 : 0 ≤ x) (h1 : x < 256) (p : x.toNat < Lib.len8tab.size) : wrap64 (wrap64 ((Lib.len8tab[x.toNat]'p).toNat : Int)) = (bitLen x.toNat : Nat) := by
  rw [len_byte _ (by omega) p]
  have h8 := bitLen_le8 x.toNat (by omega)
  unfold wrap64
  omega

set_option maxHeartbeats 1000000 in
set_option maxRecDepth 100000 in
theorem len64_int (x : Int) (h0 : 0 ≤ x) (h1 : x ≤ 18446744073709551615) (w : World) :
    Calls Try.prog 158 #[.int .u64 x] w fun e w' => e = .returned (.int .i64 (bitLen x.toNat : Nat)) ∧ w = w' := by
  have hsz := Lib.len8tab_size
  go_enter Try.func158, Try.ntmps158
  go_wp2
  all_goals (go_ret; refine ⟨ret_eq (congrArg (Value.int IntKind.i64) ?_), rfl⟩)
  · exact len_at x _ 56 56 rfl (by omega) (by omega) (by omega) (by show _ = x.toNat / 72057594037927936; omega) (by omega) _
  · exact len_at x _ 48 48 rfl (by omega) (by omega) (by omega) (by show _ = x.toNat / 281474976710656; omega) (by omega) _
  · exact len_at x _ 40 40 rfl (by omega) (by omega) (by omega) (by show _ = x.toNat / 1099511627776; omega) (by omega) _
  · exact len_at x _ 32 32 rfl (by omega) (by omega) (by omega) (by show _ = x.toNat / 4294967296; omega) (by omega) _
  · exact len_at x _ 24 24 rfl (by omega) (by omega) (by omega) (by show _ = x.toNat / 16777216; omega) (by omega) _
  · exact len_at x _ 16 16 rfl (by omega) (by omega) (by omega) (by show _ = x.toNat / 65536; omega) (by omega) _
  · exact len_at x _ 8 8 rfl (by omega) (by omega) (by omega) (by show _ = x.toNat / 256; omega) (by omega) _
  · have h := len_low x (by omega) (by omega) (by rw [hsz]; omega)
    exact h
theorem len64_any (x : Nat) (hx : x < 18446744073709551616) (w : World) :
    Calls Try.prog 158 #[.int .u64 x] w fun e w' => e = .returned (.int .i64 (bitLen x : Nat)) ∧ w = w' := by
  have h := len64_int (x : Int) (by omega) (by omega) w
  rwa [Int.toNat_natCast] at h
end Go.Proofs.Ytbimfopbilcdgaa

set_option linter.unusedSimpArgs false
set_option linter.unusedVariables false
set_option maxRecDepth 8000
namespace Go.Proofs.Ytbimfopbilcdgaa
open Go.RowKit Sm

def sub64Entry : Array Value → Sem Value := fun args => do
  let (x, y, b) ← Extern.MathBitsCarry.three "Sub64" args
  pure (Extern.MathBitsCarry.pair ((x + Extern.MathBitsCarry.m64 - y - b) % Extern.MathBitsCarry.m64) (if x < y + b then 1 else 0))
theorem sub64_run (x y b : Nat) (hb : b ≤ 1) (w : World) : (callFunc 157 #[.int .u64 x, .int .u64 y, .int .u64 b]).run Try.prog w =
    .ok (.value (.tuple #[.int .u64 (((x + 18446744073709551616 - y - b) % 18446744073709551616 : Nat) : Int), .int .u64 ((if x < y + b then 1 else 0 : Nat) : Int)])) w := by
  rw [run_callFunc_extern Try.func157 (by kernel_rfl) (by kernel_rfl) (by kernel_rfl) (e := sub64Entry) (by kernel_rfl)]
  have : b = 0 ∨ b = 1 := by omega
  rcases this with rfl | rfl <;> rfl

/-! Whole rows, in and out of a block that is known -/
theorem u35 : Try.prog.underlying 85 = some (.array 35 62) := by kernel_rfl
theorem i35 : (Try.prog.info? 85).map (·.size) = some 35 := by kernel_rfl
theorem i35' (f : Nat → Nat) : (Try.prog.info? 85).map (·.size) = some (A35 f).size := by rw [i35, A35_size]
theorem one35 (f : Nat → Nat) : (A35 f).all (·.oneCell') = true := by
  unfold A35; rw [Array.all_eq_true_iff_forall_mem]; intro v hv
  simp only [Array.mem_ofFn] at hv
  obtain ⟨i, rfl⟩ := hv
  rfl
theorem zeros35 : (#[Value.int .u64 0, .int .u64 0, .int .u64 0, .int .u64 0, .int .u64 0, .int .u64 0, .int .u64 0, .int .u64 0, .int .u64 0, .int .u64 0, .int .u64 0, .int .u64 0, .int .u64 0, .int .u64 0, .int .u64 0, .int .u64 0, .int .u64 0, .int .u64 0, .int .u64 0, .int .u64 0, .int .u64 0, .int .u64 0, .int .u64 0, .int .u64 0, .int .u64 0, .int .u64 0, .int .u64 0, .int .u64 0, .int .u64 0, .int .u64 0, .int .u64 0, .int .u64 0, .int .u64 0, .int .u64 0, .int .u64 0] : Array Value) = A35 (fun _ => 0) := by
  unfold A35; rfl

/-- Where block g is known, it is read whole. -/
theorem load35 (W : World) (g : Nat) (f : Nat → Nat) (t : TypeId) (h : W.heap[g]? = some (.cells (A35 f) t (0, 0))) :
    (Instr.loadAt 85 (.pointer (some ⟨g, 0, none⟩))).run Try.prog W = .ok (.agg (A35 f)) W := by
  simp only [Instr.loadAt, Instr.sureAddr, Sem.run_bind, Sem.run_pure, Result.andThen_ok, run_loadVar_row W g t _ _ (0, 0) _ h u35 rfl (i35' f)]

/-- A result that lies in a known block. -/
theorem post_row {P : Program} {fn : Func} {R : Ending → World → Prop} {a : Act} {w : World} (p : Tmp) (ty : TypeId) (h : fn.results = #[.cell p ty]) (hd : a.defers = []) (g : Nat) (t : TypeId) (cs : Array Value) (fr : Nat × Nat) (d : TypeDesc)
    (hp : a.tmps.getD p undef = .pointer (some ⟨g, 0, none⟩)) (hg : w.heap[g]? = some (.cells cs t fr))
    (hu : P.underlying ty = some d) (hr : (match d with | .struct _ | .array _ _ => true | _ => false) = true) (hi : (P.info? ty).map (·.size) = some cs.size)
    (hR : R (.returned (.agg cs)) w) : bodyPost P fn R .ret a w := ⟨hd, _, results_cell_row h a.tmps w g t cs fr d hp hg hu hr hi, hR⟩
theorem below_setRow {B : Nat} {a w : World} (h : Below B a w) {g : Nat} (hg : B ≤ g) (cs : Array Value) : Below B a (w.setRow g cs) :=
  h.trans ⟨rfl, rfl, rfl, by simp, fun k hk => setRow_other w g k cs (by omega)⟩
theorem negStep_run (n N k : Nat) (hn : n ≤ top) (hN : N = neg n) (hk : k < 35) (w : World) : (callFunc 157 #[.int .u64 0, .int .u64 (wd n k : Nat), .int .u64 (bor n k : Nat)]).run Try.prog w =
    .ok (.value (.tuple #[.int .u64 (wd N k : Nat), .int .u64 (bor n (k + 1) : Nat)])) w := by
  have h := sub64_run 0 (wd n k) (bor n k) (bor_le n k) w
  rw [← wd_neg n k hn hk, ← bor_succ, ← hN] at h
  exact h

set_option maxHeartbeats 400000 in
theorem negated_at (n N : Nat) (HN : Hid (n ≤ top ∧ N = neg n)) (w : World) :
    Calls Try.prog 144 #[.agg (A35 (wd n))] w fun e w' => e = .returned (.agg (A35 (wd N))) ∧ Below w.heap.size w w' := by
  go_enter Try.func144, Try.ntmps144
  go_wp2
  go_loopw [3, 5] (fun c i wr => ∃ k : Nat, k ≤ 35 ∧ i = .int .i64 k ∧ c = .int .u64 (bor n k : Nat) ∧ wr = (w.alloc (.cells (A35 (mix k N n)) 85)).alloc (.cells (A35 (fun _ => 0)) 85)) (fun _ i _ => 35 - (intOf i).toNat)
  case atStart => exact ⟨0, by omega, rfl, by rw [bor_zero]; rfl, by rw [mix_zero, zeros35]⟩
  case round =>
    obtain ⟨k, hk, rfl, rfl, rfl⟩ := hrel
    by_cases hlt : k < 35
    · have hg := mix_get k N n hlt
      have hs := negStep_run n N k HN.out.1 HN.out.2 hlt
      have HS := Lib.hid (mix_set k N n)
      go_wp2
      go_roundw
      case rel => exact ⟨k + 1, by omega, by go_num, rfl, by rw [HS.out]⟩
      case measure => simp [intOf]; omega
    · obtain rfl : k = 35 := by omega
      rw [mix_all]
      have hh := heap_alloc2_old w (.cells (A35 (wd N)) 85) (.cells (A35 (fun _ => 0)) 85)
      have hq := heap_alloc2_new w (.cells (A35 (wd N)) 85) (.cells (A35 (fun _ => 0)) 85)
      have H1 := Lib.hid hh
      have H2 := Lib.hid hq
      clear hh hq
      go_wp2_with (first
        | refine wpList_load_row rfl 85 (.tmp 1) rfl w.heap.size rfl _ (A35 (wd N)) (0, 0) _ H1.out u35 rfl (i35' _) ?_
        | refine wpList_store_row rfl 85 (.tmp 2) (.tmp 19) rfl (w.heap.size + 1) (A35 (wd N)) rfl rfl _ _ H2.out (i35' _) (by rw [A35_size, A35_size]) (one35 _) ?_)
      exact post_row 2 85 Try.results144 rfl (w.heap.size + 1) 85 _ (0, 0) _ rfl (setRow_heap _ _ _ _ _ _ H2.out) u35 rfl (i35' _)
        ⟨rfl, below_setRow (((Below.refl _ _).alloc (Nat.le_refl _) _).alloc (by simp) _) (by omega) _⟩
theorem negated_any (n : Nat) (hn : n ≤ top) (w : World) :
    Calls Try.prog 144 #[.agg (A35 (wd n))] w fun e w' => e = .returned (.agg (A35 (wd (neg n)))) ∧ Below w.heap.size w w' := negated_at n (neg n) ⟨hn, rfl⟩ w

/-! bitLength, bitsFrom, anyBelow -/
theorem or_words (x y r : Nat) (hr : r ≤ 64) (hx : x < 18446744073709551616) : bits .or .u64 ((x : Int) / 2 ^ r) (IntKind.u64.wrap ((y : Int) * 2 ^ (64 - r))) = ((x / 2 ^ r ||| (y * 2 ^ (64 - r)) % 18446744073709551616 : Nat) : Int) := by
  have h := bits_or_u64_nat (x / 2 ^ r) ((y * 2 ^ (64 - r)) % 18446744073709551616) (Nat.lt_of_le_of_lt (Nat.div_le_self _ _) hx) (Nat.mod_lt _ (by decide))
  rw [← h, IntKind.wrap_u64]
  congr 1
set_option maxHeartbeats 400000 in
theorem bitsFrom_low (n s : Nat) (hs : s / 64 + 1 < 35) (w : World) :
    Calls Try.prog 146 #[.agg (A35 (wd n)), .int .i64 s] w fun e w' => e = .returned (.int .u64 (n / 2 ^ s % 18446744073709551616 : Nat)) ∧ Below w.heap.size w w' := by
  have hg := A35_get (wd n) (s / 64) (by omega)
  have hg2 := A35_get (wd n) (s / 64 + 1) hs
  have H := Lib.hid ((or_words (wd n (s / 64)) (wd n (s / 64 + 1)) (s % 64) (by omega) (wd_lt _ _)).trans (congrArg Int.ofNat (bits_low n s)))
  go_enter Try.func146, Try.ntmps146
  go_wp2
  go_ret
  exact ⟨ret_eq (congrArg (Value.int IntKind.u64) H.out), (Below.refl _ _).alloc (Nat.le_refl _) _⟩
set_option maxHeartbeats 400000 in
theorem bitsFrom_high (n s : Nat) (hs : 35 ≤ s / 64 + 1) (h2 : s / 64 < 35) (hn : Hid (n < top)) (w : World) :
    Calls Try.prog 146 #[.agg (A35 (wd n)), .int .i64 s] w fun e w' => e = .returned (.int .u64 (n / 2 ^ s % 18446744073709551616 : Nat)) ∧ Below w.heap.size w w' := by
  have hg := A35_get (wd n) (s / 64) h2
  have H := Lib.hid (congrArg Int.ofNat (bits_high n s hn.out hs h2))
  go_enter Try.func146, Try.ntmps146
  go_wp2
  go_ret
  refine ⟨ret_eq (congrArg (Value.int IntKind.u64) ?_), (Below.refl _ _).alloc (Nat.le_refl _) _⟩
  have h := H.out
  rw [show Int.ofNat (wd n (s / 64) / 2 ^ (s % 64)) = ((wd n (s / 64) : Nat) : Int) / 2 ^ (s % 64) by rw [Int.ofNat_eq_natCast, Int.natCast_ediv, Int.natCast_pow]; rfl] at h
  exact h
theorem bitsFrom_any (n s : Nat) (hs : s < 2240) (hn : n < top) (w : World) :
    Calls Try.prog 146 #[.agg (A35 (wd n)), .int .i64 s] w fun e w' => e = .returned (.int .u64 (n / 2 ^ s % 18446744073709551616 : Nat)) ∧ Below w.heap.size w w' := by
  by_cases h : s / 64 + 1 < 35
  · exact bitsFrom_low n s h w
  · exact bitsFrom_high n s (by omega) (by omega) hn w

theorem shl_word (x r : Nat) : (IntKind.u64.wrap ((x : Int) * 2 ^ r) != 0) = decide (x * 2 ^ r % 18446744073709551616 ≠ 0) := by
  rw [IntKind.wrap_u64, Bool.eq_iff_iff, bne_iff_ne, decide_eq_true_eq]
  have e : (x : Int) * 2 ^ r % 18446744073709551616 = ((x * 2 ^ r % 18446744073709551616 : Nat) : Int) := by
    rw [Int.natCast_emod, Int.natCast_mul, Int.natCast_pow]; rfl
  rw [e]; omega
theorem cast_ne (x : Nat) : ((x : Int) != 0) = decide (x ≠ 0) := by rw [Bool.eq_iff_iff, bne_iff_ne, decide_eq_true_eq]; omega

set_option maxHeartbeats 400000 in
theorem anyBelow_at (n s : Nat) (b : Bool) (hs : s < 2240) (hb : Hid (b = decide (n % 2 ^ s ≠ 0))) (w : World) :
    Calls Try.prog 159 #[.agg (A35 (wd n)), .int .i64 s] w fun e w' => e = .returned (.bool b) ∧ Below w.heap.size w w' := by
  go_enter Try.func159, Try.ntmps159
  go_wp2
  go_loop [8] (fun i => ∃ k : Nat, k ≤ s / 64 ∧ i = .int .i64 k ∧ Hid (n % pw k = 0)) (fun i => s / 64 - (intOf i).toNat)
  case atStart => exact ⟨0, by omega, rfl, by rw [pw_zero]; exact Nat.mod_one _⟩
  case round =>
    obtain ⟨k, hk, rfl, hz⟩ := hrel
    have hg := A35_get (wd n) k (by omega)
    have hg2 := A35_get (wd n) (s / 64) (by omega)
    by_cases hlt : k < s / 64
    · have H := Lib.hid (cast_ne (wd n k))
      cases hx : ((wd n k : Int) != 0)
      · go_wp2
        go_round
        case rel =>
          refine ⟨k + 1, by omega, by go_num, ?_⟩
          have h := H.out
          rw [hx] at h
          have h2 := of_decide_eq_false h.symm
          exact zero_step n k hz.out (by omega)
        case measure => simp [intOf]; omega
      · go_wp2
        go_ret
        refine ⟨ret_eq (congrArg Value.bool ?_), (Below.refl _ _).alloc (Nat.le_refl _) _⟩
        have h := H.out
        rw [hx] at h
        rw [hb.out]
        exact (decide_eq_true (below_word n s k hlt (of_decide_eq_true h.symm))).symm
    · obtain rfl : k = s / 64 := by omega
      have H := Lib.hid (shl_word (wd n (s / 64)) (64 - s % 64))
      go_wp2
      go_ret
      refine ⟨ret_eq (congrArg Value.bool ?_), (Below.refl _ _).alloc (Nat.le_refl _) _⟩
      have h := H.out
      exact h.trans ((decide_eq_decide.2 (not_congr (below_last n s hz.out))).trans hb.out.symm)
theorem anyBelow_any (n s : Nat) (hs : s < 2240) (w : World) :
    Calls Try.prog 159 #[.agg (A35 (wd n)), .int .i64 s] w fun e w' => e = .returned (.bool (decide (n % 2 ^ s ≠ 0))) ∧ Below w.heap.size w w' :=
  anyBelow_at n s _ hs rfl w

set_option maxHeartbeats 400000 in
theorem bitLength_at (n L : Nat) (HL : Hid (L = bitLen (n % pw 35))) (w : World) :
    Calls Try.prog 145 #[.agg (A35 (wd n))] w fun e w' => e = .returned (.int .i64 L) ∧ Below w.heap.size w w' := by
  go_enter Try.func145, Try.ntmps145
  go_wp2
  go_loop [3, 5] (fun c i => ∃ k : Nat, k ≤ 35 ∧ i = .int .i64 k ∧ ∃ m : Nat, Hid (m = bitLen (n % pw k)) ∧ c = .int .i64 m) (fun _ i => 35 - (intOf i).toNat)
  case atStart => exact ⟨0, by omega, rfl, 0, (len_none n).symm, rfl⟩
  case round =>
    obtain ⟨k, hk, rfl, m, hm, rfl⟩ := hrel
    by_cases hlt : k < 35
    · have hg := A35_get (wd n) k hlt
      have H := Lib.hid (cast_ne (wd n k))
      have hw := wd_lt n k
      have hl := wd_len n k
      cases hx : ((wd n k : Int) != 0)
      · go_wp2
        go_round
        case rel =>
          refine ⟨k + 1, by omega, by go_num, m, ?_, rfl⟩
          have h := H.out
          rw [hx] at h
          have h2 := of_decide_eq_false h.symm
          exact hm.out.trans (len_zero_word n k (by omega)).symm
        case measure => simp [intOf]; omega
      · go_wp2_with (go_at_call 158; refine (len64_any _ hw _).mono ?_; rintro e w' ⟨rfl, rfl⟩)
        go_round
        case rel =>
          refine ⟨k + 1, by omega, by go_num, k * 64 + bitLen (wd n k), ?_, by go_num⟩
          have h := H.out
          rw [hx] at h
          exact (len_word n k (of_decide_eq_true h.symm)).symm
        case measure => simp [intOf]; omega
    · obtain rfl : k = 35 := by omega
      go_wp2
      go_ret
      exact ⟨ret_eq (congrArg (fun z : Nat => Value.int IntKind.i64 (z : Int)) (hm.out.trans HL.out.symm)), (Below.refl _ _).alloc (Nat.le_refl _) _⟩
theorem bitLength_any (n : Nat) (hn : n < top) (w : World) :
    Calls Try.prog 145 #[.agg (A35 (wd n))] w fun e w' => e = .returned (.int .i64 (bitLen n : Nat)) ∧ Below w.heap.size w w' :=
  bitLength_at n (bitLen n) (len_all n hn).symm w

/-- Since w0 nothing old has turned, and block g is known. -/
structure Kp (w0 : World) (g : Nat) (cs : Array Value) (t : TypeId) (w : World) : Prop where
  below : Below w0.heap.size w0 w
  row : w.heap[g]? = some (.cells cs t (0, 0))
theorem lt_of_row {w : World} {g : Nat} {o : Obj} (h : w.heap[g]? = some o) : g < w.heap.size := by
  rcases Nat.lt_or_ge g w.heap.size with h1 | h1
  · exact h1
  · rw [Array.getElem?_eq_none h1] at h; cases h
theorem Kp.next {w0 : World} {g : Nat} {cs : Array Value} {t : TypeId} {w w' : World} (h : Kp w0 g cs t w) (hb : Below w.heap.size w w') : Kp w0 g cs t w' :=
  ⟨h.below.trans (hb.mono h.below.size), (hb.block g (lt_of_row h.row)).trans h.row⟩
theorem Kp.start (w : World) (cs : Array Value) (t : TypeId) : Kp w w.heap.size cs t (w.alloc (.cells cs t)) :=
  ⟨(Below.refl _ _).alloc (Nat.le_refl _) _, heap_alloc_new w _⟩

set_option maxHeartbeats 400000 in
theorem roundsUp_zero (n : Nat) (w : World) :
    Calls Try.prog 147 #[.agg (A35 (wd n)), .int .i64 0] w fun e w' => e = .returned (.bool false) ∧ Below w.heap.size w w' := by
  go_enter Try.func147, Try.ntmps147
  go_wp2
  go_ret
  exact ⟨rfl, (Below.refl _ _).alloc (Nat.le_refl _) _⟩

theorem wpList_load_row_w {P : Program} {ops : Array Oper} {rest : List Oper} {o : Oper} {a : Act} {w : World} {Q : Exit → Act → World → Prop} (hw : Region.wanted o (yielded ops a.tmps) = true) (ty : TypeId) (x : Operand) (ho : o.op = .load ty x)
    (g : Nat) (hx : a.eval x = .pointer (some ⟨g, 0, none⟩)) (t : TypeId) (cs : Array Value) (fr : Nat × Nat) (d : TypeDesc) (hg : w.heap[g]? = some (.cells cs t fr))
    (hu : P.underlying ty = some d) (hd : (match d with | .struct _ | .array _ _ => true | _ => false) = true) (hi : (P.info? ty).map (·.size) = some cs.size)
    (h : wpList P ops Q rest (a.put o.dst (.agg cs)) w) : wpList P ops Q (o :: rest) a w :=
  wpList_step fun K hK => by rw [if_pos hw]; exact wp_load_row ty x ho g hx t cs fr d hg hu hd hi (hK _ _ h)

def BfGives (n : Nat) (S : Int) (X : Int) : Prop := ∀ w, Calls Try.prog 146 #[.agg (A35 (wd n)), .int .i64 S] w fun e w' => e = .returned (.int .u64 X) ∧ Below w.heap.size w w'
def AbGives (n : Nat) (S : Int) (b : Bool) : Prop := ∀ w, Calls Try.prog 159 #[.agg (A35 (wd n)), .int .i64 S] w fun e w' => e = .returned (.bool b) ∧ Below w.heap.size w w'
theorem BfGives.at {n : Nat} {S : Int} {X : Int} (h : BfGives n S X) (w : World) : Calls Try.prog 146 #[.agg (A35 (wd n)), .int .i64 S] w fun e w' => e = .returned (.int .u64 X) ∧ Below w.heap.size w w' := h w
theorem AbGives.at {n : Nat} {S : Int} {b : Bool} (h : AbGives n S b) (w : World) : Calls Try.prog 159 #[.agg (A35 (wd n)), .int .i64 S] w fun e w' => e = .returned (.bool b) ∧ Below w.heap.size w w' := h w

set_option maxHeartbeats 400000 in
theorem roundsUp_core (n s : Nat) (X0 X1 : Int) (b0 b1 b2 : Bool) (hs : s + 1 < 2240) (h1 : BfGives n (s : Int) X0) (h2 : BfGives n ((s : Int) + 1) X1) (h3 : AbGives n (s : Int) b2)
    (e0 : (bits .and .u64 X0 1 == 0) = b0) (e1 : (bits .and .u64 X1 1 == 1) = b1) (w : World) :
    Calls Try.prog 147 #[.agg (A35 (wd n)), .int .i64 ((s : Int) + 1)] w fun e w' => e = .returned (.bool (!b0 && (b1 || b2))) ∧ Below w.heap.size w w' := by
  have h0 : ((s : Int) + 1 == 0) = false := by rw [beq_eq_false_iff_ne]; omega
  have hk := Kp.start w (A35 (wd n)) 85
  cases b0 <;> cases b1 <;> cases b2
  all_goals
    go_enter Try.func147, Try.ntmps147
    go_wp2_with (first
      | (refine wpList_load_row_w rfl 85 (.tmp 2) rfl w.heap.size rfl _ (A35 (wd n)) (0, 0) _ hk.row u35 rfl (i35' _) ?_)
      | (go_at_call 159; (with_reducible refine (h3.at _).mono ?_); rintro e w' ⟨rfl, hb⟩; replace hk := hk.next hb; clear hb)
      | (go_at_call 146; (first | (with_reducible refine (h1.at _).mono ?_) | (with_reducible refine (h2.at _).mono ?_)); rintro e w' ⟨rfl, hb⟩; replace hk := hk.next hb; clear hb))
    go_ret
    exact ⟨rfl, hk.below⟩

end Go.Proofs.Ytbimfopbilcdgaa

set_option linter.unusedSimpArgs false
set_option linter.unusedVariables false
set_option maxRecDepth 8000
namespace Go.Proofs.Ytbimfopbilcdgaa.Sm
open Ieee Fl

/-- Is what lies below place s more than a half there, or a half and the rest odd? -/
def rup (m s : Nat) : Bool := decide (s ≠ 0) && (decide (m / 2 ^ (s - 1) % 2 = 1) && (decide (m / 2 ^ s % 2 = 1) || decide (m % 2 ^ (s - 1) ≠ 0)))
def drop (m : Nat) : Nat := bitLen m - 53
/-- The rung nearest to m units. -/
def rnd (m : Nat) : Nat := drop m * 4503599627370496 + m / 2 ^ drop m + (rup m (drop m)).toNat

theorem half_facts (m s : Nat) : m / 2 ^ s % 2 = m % 2 ^ (s + 1) / 2 ^ s ∧ m % 2 ^ (s + 1) = m % 2 ^ s + 2 ^ s * (m / 2 ^ s % 2) := by
  have e : m % 2 ^ (s + 1) = m % 2 ^ s + 2 ^ s * (m / 2 ^ s % 2) := by rw [Nat.pow_succ, Nat.mod_mul]
  refine ⟨?_, e⟩
  have hp : 0 < 2 ^ s := Nat.two_pow_pos s
  rw [e, Nat.add_mul_div_left _ _ hp, Nat.div_eq_of_lt (Nat.mod_lt _ hp), Nat.zero_add]

theorem cut_rup (neg : Bool) (m s : Nat) (hs : s ≤ m.log2 + 2) : Toward.even.cut neg m s = m / 2 ^ s + (rup m s).toNat := by
  have hp : 0 < 2 ^ s := Nat.two_pow_pos s
  unfold Toward.cut
  dsimp only
  rw [Nat.min_eq_left hs, Nat.shiftLeft_eq, Nat.one_mul]
  congr 2
  unfold rup
  rcases s with _ | s
  · have : m % 2 ^ 0 = 0 := by simp [Nat.mod_one]
    rw [this]; simp
  · obtain ⟨-, h2⟩ := half_facts m s
    have hq : 0 < 2 ^ s := Nat.two_pow_pos s
    have hr := Nat.mod_lt m hq
    rw [Nat.add_sub_cancel, h2]
    clear h2 hs
    have hb : m / 2 ^ s % 2 = 0 ∨ m / 2 ^ s % 2 = 1 := by omega
    have ep : 2 ^ (s + 1) = 2 * 2 ^ s := by rw [Nat.pow_succ, Nat.mul_comm]
    rw [ep]
    generalize m % 2 ^ s = r at *
    generalize m / (2 * 2 ^ s) % 2 = lo at *
    rw [Bool.eq_iff_iff]
    rcases hb with hb | hb
    · rw [hb]
      simp only [Nat.mul_zero, Nat.add_zero, Bool.or_eq_true, Bool.and_eq_true, decide_eq_true_eq, beq_iff_eq]
      generalize 2 ^ s = q at *
      constructor
      · rintro (h | ⟨h, -⟩) <;> exfalso <;> omega
      · rintro ⟨-, h, -⟩; exact absurd h (by decide)
    · rw [hb]
      simp only [Nat.mul_one, Bool.or_eq_true, Bool.and_eq_true, decide_eq_true_eq, beq_iff_eq]
      generalize 2 ^ s = q at *
      constructor
      · rintro (h | ⟨h, h2⟩)
        · exact ⟨by omega, trivial, Or.inr (by omega)⟩
        · exact ⟨by omega, trivial, Or.inl h2⟩
      · rintro ⟨-, -, h⟩
        by_cases h0 : r = 0
        · rcases h with h | h
          · exact Or.inr ⟨by omega, h⟩
          · exact absurd h0 h
        · exact Or.inl (by omega)

theorem len_log (m : Nat) (h : m ≠ 0) : bitLen m = m.log2 + 1 := by unfold bitLen; rw [if_neg h]

/-- The format's own rounding of m of the least units. -/
theorem nearest_rnd (neg : Bool) (m : Nat) : double.nearest neg m (-1074) = double.word neg (min (rnd m) 9218868437227405312) := by
  unfold Format.nearest
  simp only [binadeW, infW, leastW]
  by_cases h0 : m = 0
  · subst h0
    rw [if_pos rfl]
    have : rnd 0 = 0 := by decide
    rw [this]; rfl
  · rw [if_neg h0]
    have hf : (double.fractionBits : Nat) = 52 := rfl
    have hL := len_log m h0
    have hl : max ((-1074 : Int) + (m.log2 : Nat) - (double.fractionBits : Nat)) (-1074) = -1074 + (drop m : Nat) := by
      rw [hf]; unfold drop; omega
    rw [hl]
    have e1 : ((-1074 : Int) - (-1074 + (drop m : Nat))).toNat = 0 := by omega
    have e2 : ((-1074 : Int) + (drop m : Nat) - -1074).toNat = drop m := by omega
    rw [e1, e2, Nat.shiftLeft_zero, cut_rup neg m (drop m) (by unfold drop; omega), ← Nat.add_assoc]
    rfl

theorem word_eq (neg : Bool) (r : Nat) : double.word neg r = r + (if neg then 9223372036854775808 else 0) := by
  unfold Format.word
  rw [signW]
  cases neg
  · simp
  · simp [Nat.add_comm]

/-- Its quotient has 53 bits at most. -/
theorem quot_lt (m : Nat) : m / 2 ^ drop m < 9007199254740992 := by
  have h1 := (bitLen_spec m).1
  have : 2 ^ bitLen m ≤ 2 ^ (53 + drop m) := Nat.pow_le_pow_right (by decide) (by unfold drop; omega)
  rw [Nat.pow_add] at this
  exact (Nat.div_lt_iff_lt_mul (Nat.two_pow_pos _)).2 (by rw [show (9007199254740992 : Nat) = 2 ^ 53 from rfl]; omega)

/-! A sum's sign, and its magnitude -/
def sgn (n : Nat) : Bool := decide (top ≤ 2 * n)
def mag (n : Nat) : Nat := if sgn n then neg n else n
theorem wd_34 (n : Nat) (hn : n < top) : wd n 34 = n / pw 34 := by
  unfold wd
  exact Nat.mod_eq_of_lt ((Nat.div_lt_iff_lt_mul (pw_pos _)).2 (by rw [Nat.mul_comm, ← pow_step, ← top_eq]; exact hn))
theorem sgn_word (n : Nat) (hn : n < top) : sgn n = decide (9223372036854775808 ≤ wd n 34) := by
  rw [wd_34 n hn]
  unfold sgn
  rw [Bool.eq_iff_iff, decide_eq_true_eq, decide_eq_true_eq, Nat.le_div_iff_mul_le (pw_pos _), top_eq, pow_step]
  generalize pw 34 = K
  omega
theorem mag_lt (n : Nat) (hn : n < top) : mag n < top := by
  unfold mag; split
  · exact neg_lt n
  · exact hn
theorem mag_half (n : Nat) (hn : n < top) : 2 * mag n ≤ top := by
  unfold mag sgn neg
  split
  · rename_i h
    rw [decide_eq_true_eq] at h
    rcases Nat.eq_zero_or_pos n with h0 | h0
    · subst h0; have := top_pos; omega
    · rw [Nat.mod_eq_of_lt (by omega)]; omega
  · rename_i h
    rw [decide_eq_true_eq] at h
    omega
end Go.Proofs.Ytbimfopbilcdgaa.Sm
