/-
  Plain facts on the words of a float64: which word is no number, and that the order of two numbers is the order of their words read as whole numbers with a sign. No program stands here.
-/
import Derived.Laws.Cover2
import Derived.Laws.FloatBits
import Derived.Laws.Bits64b
import Derived.Laws.BitsAllLaws
namespace Go.Proofs.YtifabkbdiiolfaaDoor.Fl
open Ieee
/-- The word's magnitude: all but the sign. -/
def rung (b : Nat) : Nat := b % 9223372036854775808
/-- Is it no number? -/
def nan (b : Nat) : Bool := decide (9218868437227405312 < rung b)
/-- The one word of what is no number. -/
def canon (b : Nat) : Nat := if nan b then 9221120237041090560 else b
/-- The word as a whole number with a sign. -/
def key (b : Nat) : Int := if 9223372036854775808 ≤ b then -(rung b : Int) else (rung b : Int)
def mant (r : Nat) : Nat := if r < 4503599627370496 then r else 4503599627370496 + r % 4503599627370496
def shf (r : Nat) : Nat := if r < 4503599627370496 then 0 else r / 4503599627370496 - 1
def val (r : Nat) : Nat := mant r * 2 ^ shf r
theorem signW : Format.signWeight double = 9223372036854775808 := by decide
theorem binadeW : Format.binade double = 4503599627370496 := by decide
theorem infW : Format.infRung double = 9218868437227405312 := by decide
theorem leastW : Format.leastPlace double = -1074 := by decide
theorem neg_eq (b : Nat) (hb : b < 18446744073709551616) : (b / 9223372036854775808 % 2 == 1) = decide (9223372036854775808 ≤ b) := by
 rw [Bool.eq_iff_iff, beq_iff_eq, decide_eq_true_eq]; omega
theorem read_num (b : Nat) (hb : b < 18446744073709551616) (h : rung b < 9218868437227405312) :
  double.read b = .number (decide (9223372036854775808 ≤ b)) (mant (rung b)) (-1074 + (shf (rung b) : Nat)) := by
 unfold Format.read
 simp only [signW, binadeW, infW, leastW, neg_eq b hb]
 unfold rung at h
 unfold mant shf rung
 by_cases h1 : b % 9223372036854775808 < 4503599627370496
 ·simp [h1]
 ·simp only [h1, h, if_true, if_false]
theorem read_inf (b : Nat) (hb : b < 18446744073709551616) (h : rung b = 9218868437227405312) :
  double.read b = .infinity (decide (9223372036854775808 ≤ b)) := by
 unfold Format.read
 simp only [signW, binadeW, infW, leastW, neg_eq b hb]
 unfold rung at h
 simp [h]
theorem read_nan (b : Nat) (h : nan b = true) : (double.read b).isNaN = true := by
 unfold Format.read
 simp only [signW, binadeW, infW, leastW]
 unfold nan rung at h
 simp only [decide_eq_true_eq] at h
 rw [if_neg (by omega), if_neg (by omega), if_neg (by omega)]
 rfl
theorem order_nan_l (a b : Nat) (h : nan a = true) : double.order a b = none := by
 have := read_nan a h
 unfold Format.order
 cases hr : double.read a <;> simp_all [Datum.isNaN, Datum.order]
theorem val_lt_of_lt {r q : Nat} (h : r < q) : val r < val q := by
 unfold val mant shf
 by_cases hq : q < 4503599627370496
 ·have hr : r < 4503599627370496 := by omega
  simp [hr, hq, h]
 ·rw [if_neg hq, if_neg hq]
  by_cases hr : r < 4503599627370496
  ·rw [if_pos hr, if_pos hr]
   have : 1 ≤ 2 ^ (q / 4503599627370496 - 1) := Nat.one_le_two_pow
   calc r * 2 ^ 0 = r := by simp
    _ < 4503599627370496 * 1 := by omega
    _ ≤ (4503599627370496 + q % 4503599627370496) * 2 ^ (q / 4503599627370496 - 1) := Nat.mul_le_mul (by omega) this
  ·rw [if_neg hr, if_neg hr]
   by_cases he : r / 4503599627370496 = q / 4503599627370496
   ·rw [he]
    exact Nat.mul_lt_mul_of_pos_right (by omega) (Nat.two_pow_pos _)
   ·have hlt : r / 4503599627370496 - 1 + 1 ≤ q / 4503599627370496 - 1 := by omega
    calc (4503599627370496 + r % 4503599627370496) * 2 ^ (r / 4503599627370496 - 1)
      < (4503599627370496 * 2) * 2 ^ (r / 4503599627370496 - 1) := Nat.mul_lt_mul_of_pos_right (by omega) (Nat.two_pow_pos _)
     _ = 4503599627370496 * 2 ^ (r / 4503599627370496 - 1 + 1) := by rw [Nat.pow_succ, Nat.mul_assoc, Nat.mul_comm 2]
     _ ≤ 4503599627370496 * 2 ^ (q / 4503599627370496 - 1) := Nat.mul_le_mul (Nat.le_refl _) (Nat.pow_le_pow_right (by decide) hlt)
     _ ≤ (4503599627370496 + q % 4503599627370496) * 2 ^ (q / 4503599627370496 - 1) := Nat.mul_le_mul (by omega) (Nat.le_refl _)
theorem val_lt_iff (r q : Nat) : val r < val q ↔ r < q := by
 constructor
 ·intro h
  by_cases hc : r < q
  ·exact hc
  ·exfalso
   rcases Nat.lt_or_eq_of_le (Nat.le_of_not_lt hc) with h1 | h1
   ·exact absurd (val_lt_of_lt h1) (by omega)
   ·subst h1; omega
 ·exact val_lt_of_lt
theorem shiftLeft_mul (m a : Nat) : m <<< a = m * 2 ^ a := Nat.shiftLeft_eq m a
theorem cmp_int (a b c d : Int) (h1 : a < b ↔ c < d) (h2 : a = b ↔ c = d) : compare a b = compare c d := by
 show compareOfLessAndEq a b = compareOfLessAndEq c d
 unfold compareOfLessAndEq
 by_cases x : a < b
 ·rw [if_pos x, if_pos (h1.1 x)]
 ·rw [if_neg x, if_neg (fun h => x (h1.2 h))]
  by_cases y : a = b
  ·rw [if_pos y, if_pos (h2.1 y)]
  ·rw [if_neg y, if_neg (fun h => y (h2.2 h))]
/-- A number with its sign. -/
def sg (n : Bool) (m : Nat) : Int := if n then -(m : Int) else (m : Int)
theorem cmp_sg (n k : Bool) (a b c d : Nat) (h1 : a < b ↔ c < d) (h2 : b < a ↔ d < c) (h0 : a = 0 ↔ c = 0) (h3 : b = 0 ↔ d = 0) :
  compare (sg n a) (sg k b) = compare (sg n c) (sg k d) := by
 unfold sg
 apply cmp_int <;> cases n <;> cases k <;> simp <;> omega
theorem scaled_lt (m s n t : Nat) : (m <<< (s - min s t) < n <<< (t - min s t)) ↔ m * 2 ^ s < n * 2 ^ t := by
 rw [shiftLeft_mul, shiftLeft_mul]
 have hp : 0 < 2 ^ min s t := Nat.two_pow_pos _
 have e1 : m * 2 ^ s = m * 2 ^ (s - min s t) * 2 ^ min s t := by rw [Nat.mul_assoc, ← Nat.pow_add, Nat.sub_add_cancel (Nat.min_le_left ..)]
 have e2 : n * 2 ^ t = n * 2 ^ (t - min s t) * 2 ^ min s t := by rw [Nat.mul_assoc, ← Nat.pow_add, Nat.sub_add_cancel (Nat.min_le_right ..)]
 rw [e1, e2]
 exact (Nat.mul_lt_mul_right hp).symm
theorem shl_zero_iff (m a : Nat) : m <<< a = 0 ↔ m = 0 := by
 rw [shiftLeft_mul]
 constructor
 ·intro h
  rcases Nat.mul_eq_zero.1 h with h | h
  ·exact h
  ·exact absurd h (Nat.pos_iff_ne_zero.1 (Nat.two_pow_pos a))
 ·intro h; subst h; simp
theorem mant_zero_iff (r : Nat) : mant r = 0 ↔ r = 0 := by
 unfold mant; split <;> omega
theorem min_place (s t : Nat) : ((-1074 + (s : Int)) - min (-1074 + (s : Int)) (-1074 + (t : Int))).toNat = s - min s t := by omega
theorem min_place' (s t : Nat) : ((-1074 + (t : Int)) - min (-1074 + (s : Int)) (-1074 + (t : Int))).toNat = t - min s t := by omega
theorem cmp_lt {a b : Int} (h : a < b) : compare a b = .lt := by
 show compareOfLessAndEq a b = .lt
 unfold compareOfLessAndEq; rw [if_pos h]
theorem cmp_gt {a b : Int} (h : b < a) : compare a b = .gt := by
 show compareOfLessAndEq a b = .gt
 unfold compareOfLessAndEq; rw [if_neg (by omega), if_neg (by omega)]
theorem cmp_inf_r (s t : Bool) (r i : Nat) (h : r < i) : (if t = true then Ordering.gt else Ordering.lt) = compare (sg s r) (sg t i) := by
 cases t
 ·rw [cmp_lt (by unfold sg; cases s <;> simp <;> omega)]; simp
 ·rw [cmp_gt (by unfold sg; cases s <;> simp <;> omega)]; simp
theorem cmp_inf_l (s t : Bool) (r i : Nat) (h : r < i) : (if t = true then Ordering.lt else Ordering.gt) = compare (sg t i) (sg s r) := by
 cases t
 ·rw [cmp_gt (by unfold sg; cases s <;> simp <;> omega)]; simp
 ·rw [cmp_lt (by unfold sg; cases s <;> simp <;> omega)]; simp
/-- THE ORDER of what is no NaN is the order of the keys. -/
theorem order_key (a b : Nat) (ha : a < 18446744073709551616) (hb : b < 18446744073709551616) (na : nan a = false) (nb : nan b = false) :
  double.order a b = some (compare (key a) (key b)) := by
 have ka : key a = sg (decide (9223372036854775808 ≤ a)) (rung a) := by unfold key sg; by_cases h : 9223372036854775808 ≤ a <;> simp [h]
 have kb : key b = sg (decide (9223372036854775808 ≤ b)) (rung b) := by unfold key sg; by_cases h : 9223372036854775808 ≤ b <;> simp [h]
 rw [ka, kb]
 simp only [nan, decide_eq_false_iff_not] at na nb
 unfold Format.order
 rcases Nat.lt_or_eq_of_le (Nat.le_of_not_lt na) with h1 | h1 <;> rcases Nat.lt_or_eq_of_le (Nat.le_of_not_lt nb) with h2 | h2
 ·rw [read_num a ha h1, read_num b hb h2]
  simp only [Datum.order, Ieee.signed]
  rw [min_place, min_place']
  refine congrArg some ?_
  show compare (sg _ _) (sg _ _) = _
  refine cmp_sg _ _ _ _ _ _ ?_ ?_ ?_ ?_
  ·exact (scaled_lt ..).trans (val_lt_iff ..)
  ·rw [Nat.min_comm]; exact (scaled_lt ..).trans (val_lt_iff ..)
  ·rw [shl_zero_iff, mant_zero_iff]
  ·rw [shl_zero_iff, mant_zero_iff]
 ·rw [read_num a ha h1, read_inf b hb h2, h2]
  simp only [Datum.order]
  exact congrArg some (cmp_inf_r _ _ _ _ h1)
 ·rw [read_inf a ha h1, read_num b hb h2, h1]
  simp only [Datum.order]
  exact congrArg some (cmp_inf_l _ _ _ _ h2)
 ·rw [read_inf a ha h1, read_inf b hb h2, h1, h2]
  simp only [Datum.order]
  refine congrArg some ?_
  unfold sg
  by_cases x : 9223372036854775808 ≤ b <;> by_cases y : 9223372036854775808 ≤ a <;> simp [x, y, compare, compareOfLessAndEq]
/-- Go's 'x != x'. -/
theorem ne_self (b : Nat) (hb : b < 18446744073709551616) : (double.order b b != some .eq) = nan b := by
 cases h : nan b
 ·rw [order_key b b hb hb h h]; simp [compare, compareOfLessAndEq]
 ·rw [order_nan_l b b h]; rfl
/-! What Go's operations on bits give. -/
end Go.Proofs.YtifabkbdiiolfaaDoor.Fl
