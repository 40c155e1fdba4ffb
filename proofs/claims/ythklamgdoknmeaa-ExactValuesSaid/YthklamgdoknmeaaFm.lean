/-
  Plain facts on rounding to a float64: what is exact is not rounded. No program stands here.
-/
import Derived.Test.YthklamgdoknmeaaFl
import Derived.Laws.FloatArith
import Derived.IntWalk
namespace Go.Proofs.Ythklamgdoknmeaa.Fl
open Ieee

theorem shf_mant (r : Nat) : shf r * 4503599627370496 + mant r = r := by
  unfold shf mant; split <;> omega

theorem log2_shift (m k : Nat) (h : m ≠ 0) : (m * 2 ^ k).log2 = m.log2 + k := by
  have h1 := Nat.log2_self_le h
  have h2 : m < 2 ^ (m.log2 + 1) := Nat.lt_log2_self
  have hp : 0 < 2 ^ k := Nat.two_pow_pos k
  have h0 : m * 2 ^ k ≠ 0 := by
    intro e; rcases Nat.mul_eq_zero.1 e with e | e <;> omega
  refine (Nat.log2_eq_iff h0).2 ⟨?_, ?_⟩
  · rw [Nat.pow_add]; exact Nat.mul_le_mul_right _ h1
  · rw [show m.log2 + k + 1 = (m.log2 + 1) + k by omega, Nat.pow_add]; exact Nat.mul_lt_mul_of_pos_right h2 hp

/-- A whole number of units is not rounded. -/
theorem cut_exact (neg : Bool) (n k j : Nat) (h : n * 2 ^ k ≠ 0 → k ≤ j + 2) (hj : j = (n * 2 ^ k).log2) : Toward.even.cut neg (n * 2 ^ k) k = n := by
  have hp : 0 < 2 ^ k := Nat.two_pow_pos k
  by_cases h0 : n = 0
  · subst h0
    unfold Toward.cut
    dsimp only
    simp only [Nat.zero_mul, Nat.zero_div, Nat.zero_mod]
    have h1 : (0 : Nat) < 1 <<< min k (Nat.log2 0 + 2) := by rw [Nat.shiftLeft_eq, Nat.one_mul]; exact Nat.two_pow_pos _
    simp
  · have hne : n * 2 ^ k ≠ 0 := by intro e; rcases Nat.mul_eq_zero.1 e with e | e <;> omega
    have hk := h hne
    have hmin : min k ((n * 2 ^ k).log2 + 2) = k := by omega
    unfold Toward.cut
    dsimp only
    rw [hmin, Nat.shiftLeft_eq, Nat.one_mul, Nat.mul_div_cancel _ hp, Nat.mul_mod_left]
    simp

theorem log2_lt53 (m : Nat) (h : m < 9007199254740992) (h0 : m ≠ 0) : m.log2 ≤ 52 := by
  have := (Nat.log2_lt h0 (k := 53)).2 h
  omega
theorem log2_eq52 (m : Nat) (h : m < 9007199254740992) (h1 : 4503599627370496 ≤ m) : m.log2 = 52 :=
  (Nat.log2_eq_iff (by omega)).2 ⟨h1, h⟩
theorem log2_lt52 (m : Nat) (h : m < 4503599627370496) (h0 : m ≠ 0) : m.log2 ≤ 51 := by
  have := (Nat.log2_lt h0 (k := 52)).2 h
  omega

theorem mant_lt (r : Nat) : mant r < 9007199254740992 := by unfold mant; split <;> omega

/-- A number that the format has is written as it is, in whatever units it comes. -/
theorem nearest_exact (neg : Bool) (r k : Nat) (hr : r ≤ 9218868437227405312) (p : Int) (hp : p = -1074 + (shf r : Int) - (k : Int)) :
    double.nearest neg (mant r * 2 ^ k) p = double.word neg r := by
  unfold Format.nearest
  simp only [binadeW, infW, leastW]
  by_cases h0 : mant r = 0
  · have e : r = 0 := (mant_zero_iff r).1 h0
    subst e
    rw [if_pos (by rw [h0]; simp)]
  · have hk : 0 < 2 ^ k := Nat.two_pow_pos k
    have hne : mant r * 2 ^ k ≠ 0 := by intro e; rcases Nat.mul_eq_zero.1 e with e | e <;> omega
    rw [if_neg hne, log2_shift _ _ h0]
    have hl : max (p + ((mant r).log2 + k : Nat) - (double.fractionBits : Nat)) (-1074) = -1074 + (shf r : Int) := by
      have hf : (double.fractionBits : Nat) = 52 := rfl
      rw [hf]
      by_cases hb : r < 4503599627370496
      · have h1 : mant r = r := by unfold mant; rw [if_pos hb]
        have h2 : shf r = 0 := by unfold shf; rw [if_pos hb]
        have := log2_lt52 r hb (by omega)
        rw [h1, h2]; rw [h2] at hp; omega
      · have h1 : 4503599627370496 ≤ mant r := by unfold mant; rw [if_neg hb]; omega
        have := log2_eq52 (mant r) (mant_lt r) h1
        omega
    rw [hl]
    have e1 : (p - (-1074 + (shf r : Int))).toNat = 0 := by omega
    have e2 : (-1074 + (shf r : Int) - p).toNat = k := by omega
    have e3 : (-1074 + (shf r : Int) - -1074).toNat = shf r := by omega
    rw [e1, e2, e3, Nat.shiftLeft_zero, cut_exact neg (mant r) k _ (fun _ => ?_) rfl, shf_mant, Nat.min_eq_left hr]
    rw [log2_shift _ _ h0]; omega

/-- The word of a whole number. -/
def ofNat (m : Nat) : Nat := if m = 0 then 0 else (m.log2 + 1022) * 4503599627370496 + m * 2 ^ (52 - m.log2)

theorem scaled52 (m : Nat) (h : m < 9007199254740992) (h0 : m ≠ 0) : 4503599627370496 ≤ m * 2 ^ (52 - m.log2) ∧ m * 2 ^ (52 - m.log2) < 9007199254740992 := by
  have hl := log2_lt53 m h h0
  have h1 := Nat.log2_self_le h0
  have h2 : m < 2 ^ (m.log2 + 1) := Nat.lt_log2_self
  have hp : 0 < 2 ^ (52 - m.log2) := Nat.two_pow_pos _
  constructor
  · have := Nat.mul_le_mul_right (2 ^ (52 - m.log2)) h1
    rw [← Nat.pow_add, show m.log2 + (52 - m.log2) = 52 by omega] at this
    exact this
  · have := Nat.mul_lt_mul_of_pos_right h2 hp
    rw [← Nat.pow_add, show m.log2 + 1 + (52 - m.log2) = 53 by omega] at this
    exact this

theorem floatOfInt_nat (m : Nat) (h : m < 9007199254740992) : floatOfInt .f64 (m : Int) = ofNat m := by
  show double.nearest (decide ((m : Int) < 0)) (m : Int).natAbs 0 = _
  rw [show decide ((m : Int) < 0) = false from decide_eq_false (by omega), Int.natAbs_natCast]
  unfold Format.nearest
  simp only [binadeW, infW, leastW]
  by_cases h0 : m = 0
  · subst h0
    rw [if_pos rfl]
    show _ = 0
    decide
  · rw [if_neg h0]
    have hl := log2_lt53 m h h0
    have hs := scaled52 m h h0
    have e0 : max ((0 : Int) + (m.log2 : Nat) - (double.fractionBits : Nat)) (-1074) = (m.log2 : Int) - 52 := by
      have hf : (double.fractionBits : Nat) = 52 := rfl
      rw [hf]; omega
    rw [e0]
    have e1 : ((0 : Int) - ((m.log2 : Int) - 52)).toNat = 52 - m.log2 := by omega
    have e2 : ((m.log2 : Int) - 52 - 0).toNat = 0 := by omega
    have e3 : ((m.log2 : Int) - 52 - -1074).toNat = m.log2 + 1022 := by omega
    have ec := cut_exact false (m * 2 ^ (52 - m.log2)) 0 _ (fun _ => by omega) rfl
    rw [Nat.pow_zero, Nat.mul_one] at ec
    rw [e1, e2, e3, Nat.shiftLeft_eq, ec]
    unfold ofNat
    rw [if_neg h0, Nat.min_eq_left (by omega)]
    rfl

theorem ofNat_facts (m : Nat) (h : m < 9007199254740992) (h0 : m ≠ 0) :
    ofNat m = (m.log2 + 1022) * 4503599627370496 + m * 2 ^ (52 - m.log2) ∧ ofNat m / 4503599627370496 = m.log2 + 1023 ∧ ofNat m % 4503599627370496 = m * 2 ^ (52 - m.log2) - 4503599627370496 ∧ ofNat m < 9218868437227405312 ∧ 4607182418800017408 ≤ ofNat m := by
  have hl := log2_lt53 m h h0
  have hs := scaled52 m h h0
  have e : ofNat m = (m.log2 + 1022) * 4503599627370496 + m * 2 ^ (52 - m.log2) := by unfold ofNat; rw [if_neg h0]
  rw [e]
  generalize m * 2 ^ (52 - m.log2) = t at *
  refine ⟨rfl, ?_, ?_, ?_, ?_⟩ <;> omega

theorem nonneg_rung (r : Nat) (h : r < 9223372036854775808) : rung r = r := Nat.mod_eq_of_lt h

theorem read_nat (r : Nat) (h : r < 9218868437227405312) : double.read r = .number false (mant r) (-1074 + (shf r : Nat)) := by
  rw [read_num r (by omega) (by rw [nonneg_rung r (by omega)]; exact h), nonneg_rung r (by omega)]
  rw [decide_eq_false (by omega)]

theorem mul_of (a b r k : Nat) (ha : a < 9218868437227405312) (hb : b < 9218868437227405312) (hr : r ≤ 9218868437227405312)
    (hm : mant a * mant b = mant r * 2 ^ k) (hs : (shf a : Int) + shf b - 1074 = shf r - k) : floatBits .mul .f64 a b = some r := by
  show double.mul a b = some r
  unfold Format.mul
  rw [read_nat a ha, read_nat b hb]
  show some (double.nearest (false ^^ false) (mant a * mant b) _) = some r
  rw [hm, nearest_exact _ r k hr _ (by omega)]
  rfl

/-- One times a number. -/
theorem mul_one_word (r : Nat) (hr : r < 9218868437227405312) : floatBits .mul .f64 4607182418800017408 r = some r := by
  refine mul_of _ r r 52 (by decide) hr (by omega) ?_ ?_
  · rw [show mant 4607182418800017408 = 2 ^ 52 by decide +kernel, Nat.mul_comm]
  · rw [show shf 4607182418800017408 = 1022 by decide +kernel]; omega

/-- A number with no hidden bit out of its normal twin. -/
theorem mul_sub_word (m : Nat) (h : m < 4503599627370496) (h0 : m ≠ 0) :
    floatBits .mul .f64 4368491638549381120 ((m.log2 + 1) * 4503599627370496 + m * 2 ^ (52 - m.log2)) = some m := by
  have hl := log2_lt52 m h h0
  have hs := scaled52 m (by omega) h0
  have hm : mant m = m := by unfold mant; rw [if_pos h]
  have hz : shf m = 0 := by unfold shf; rw [if_pos h]
  have k1 : mant ((m.log2 + 1) * 4503599627370496 + m * 2 ^ (52 - m.log2)) = m * 2 ^ (52 - m.log2) := by
    unfold mant; rw [if_neg (by omega)]; generalize m * 2 ^ (52 - m.log2) = t at *; omega
  have k2 : shf ((m.log2 + 1) * 4503599627370496 + m * 2 ^ (52 - m.log2)) = m.log2 + 1 := by
    unfold shf; rw [if_neg (by omega)]; generalize m * 2 ^ (52 - m.log2) = t at *; omega
  refine mul_of _ _ m (104 - m.log2) (by decide) (by generalize m * 2 ^ (52 - m.log2) = t at *; omega) (by omega) ?_ ?_
  · rw [k1, hm, show mant 4368491638549381120 = 2 ^ 52 by decide +kernel, Nat.mul_comm (2 ^ 52), Nat.mul_assoc, ← Nat.pow_add, show 52 - m.log2 + 52 = 104 - m.log2 by omega]
  · rw [k2, hz, show shf 4368491638549381120 = 969 by decide +kernel]; omega

/-! The sign struck off; infinite? -/
theorem andNot_sign (b : Nat) (hb : b < 18446744073709551616) : bits .andNot .u64 (b : Int) 9223372036854775808 = (rung b : Nat) := by
  have h := u64_andNot (b : Int) 9223372036854775808 (by omega) (by omega) (by decide) (by decide)
  rw [h, Int.toNat_natCast, show (18446744073709551615 : Nat) - (9223372036854775808 : Int).toNat = 9223372036854775807 by decide, nat_mask63]
  rfl
theorem isinf (b : Nat) : (FloatKind.f64.format.order (rung b) 9218868437227405311 == some .gt) = decide (rung b = 9218868437227405312) := by
  have hr : rung b < 9223372036854775808 := Nat.mod_lt _ (by decide)
  have hrr : rung (rung b) = rung b := nonneg_rung _ hr
  by_cases h : nan b = true
  · have h2 : nan (rung b) = true := by unfold nan at *; rw [hrr]; exact h
    rw [show FloatKind.f64.format.order (rung b) 9218868437227405311 = none from order_nan_l _ _ h2]
    unfold nan at h; rw [decide_eq_true_eq] at h
    rw [decide_eq_false (by omega)]; rfl
  · have h2 : nan (rung b) = false := by
      unfold nan at *; rw [hrr]; simpa using h
    rw [ord_gt _ _ (by omega) (by decide) h2 (by decide)]
    have e1 : key (rung b) = (rung b : Int) := by unfold key; rw [if_neg (by omega), hrr]
    have e2 : key 9218868437227405311 = 9218868437227405311 := by decide +kernel
    rw [e1, e2]
    unfold nan at h; rw [decide_eq_true_eq] at h
    rw [decide_eq_decide]; omega

theorem and_exp_int (n : Nat) (h : n < 9223372036854775808) : bits .and .i64 (n : Int) 2047 = ((n % 2048 : Nat) : Int) := by
  have h1 : (BitVec.ofInt 64 (n : Int)).toNat = n := by
    rw [BitVec.ofInt_natCast, BitVec.toNat_ofNat]; exact Nat.mod_eq_of_lt (by omega)
  have h2 : (BitVec.ofInt 64 (2047 : Int)).toNat = 2047 := by decide
  show IntKind.i64.wrap ((BitVec.ofInt 64 (n : Int) &&& BitVec.ofInt 64 (2047 : Int)).toNat : Int) = _
  rw [BitVec.toNat_and, h1, h2, nat_mask11]
  exact IntWalk.i64_in _ (by omega)
theorem andNot_exp (n : Nat) (h : n < 9223372036854775808) : bits .andNot .u64 (n : Int) 9218868437227405312 = ((n % 4503599627370496 : Nat) : Int) := by
  have h1 := u64_andNot (n : Int) 9218868437227405312 (by omega) (by omega) (by decide) (by decide)
  rw [h1, Int.toNat_natCast, show (18446744073709551615 : Nat) - (9218868437227405312 : Int).toNat = 9223372036854775808 ||| 4503599627370495 by decide, Nat.and_or_distrib_left, nat_mask52, nat_bit63]
  rw [show n / 9223372036854775808 % 2 * 9223372036854775808 = 0 by omega, Nat.zero_or]
theorem or_exp (f e : Nat) (hf : f < 4503599627370496) (he : e < 2048) : bits .or .u64 (f : Int) ((e : Int) * 4503599627370496) = ((e * 4503599627370496 + f : Nat) : Int) := by
  have h := bits_or_u64_nat f (e * 4503599627370496) (by omega) (by omega)
  have e1 : f ||| e * 4503599627370496 = e * 4503599627370496 + f := by
    have := Nat.two_pow_add_eq_or_of_lt (i := 52) (b := f) hf e
    rw [Nat.or_comm, Nat.mul_comm e]
    simpa using this.symm
  rw [e1] at h
  rw [← h]
  rw [Int.natCast_mul]; rfl

end Go.Proofs.Ythklamgdoknmeaa.Fl
