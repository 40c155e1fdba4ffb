/-
  Plain facts: sums as whole numbers with a sign; the format's own addition. No program stands here.
-/
import Derived.Test.YthklamgdoknmeaaSu
set_option linter.unusedSimpArgs false
set_option linter.unusedVariables false
set_option maxRecDepth 8000
namespace Go.Proofs.Ythklamgdoknmeaa.Sm
open Ieee Fl

/-- A word's units, with the sign; of what isn't finite 0. -/
def sval (b : Nat) : Int := if 9218868437227405312 ≤ rung b then 0 else if 9223372036854775808 ≤ b then -(val (rung b) : Int) else (val (rung b) : Int)
theorem neg_int (n : Nat) (hn : n ≤ top) : (neg n : Int) = -(n : Int) % (top : Int) := by
  unfold neg
  have hp := top_pos
  generalize top = t at *
  rw [Int.natCast_emod, Int.ofNat_sub hn]
  rw [show ((t : Int) - (n : Int)) = -(n : Int) + (t : Int) by omega, Int.add_emod_right]
theorem unit_int (b : Nat) : (unit b : Int) = sval b % (top : Int) := by
  unfold unit sval
  split
  · simp
  · rename_i h
    have hv := val_lt (rung b) (by omega)
    have ht := top_33
    have hp := pw_pos 33
    split
    · rw [neg_int _ (by omega)]
    · rw [Int.emod_eq_of_lt (by omega) (by omega)]
/-- Where the sum is short enough, its sign and its magnitude. -/
theorem short (n : Nat) (T : Int) (hn : (n : Int) = T % (top : Int)) (h1 : 2 * T < (top : Int)) (h2 : -(top : Int) < 2 * T) : sgn n = decide (T < 0) ∧ mag n = T.natAbs := by
  have hp := top_pos
  have hs : sgn n = decide (T < 0) := by
    unfold sgn
    rw [decide_eq_decide]
    generalize top = t at *
    by_cases h : T < 0
    · have e : T % (t : Int) = T + t := by
        rw [← Int.add_emod_right, Int.emod_eq_of_lt (by omega) (by omega)]
      rw [e] at hn; omega
    · rw [Int.emod_eq_of_lt (by omega) (by omega)] at hn; omega
  refine ⟨hs, ?_⟩
  unfold mag
  rw [hs]
  by_cases h : T < 0
  · rw [if_pos (decide_eq_true h)]
    unfold neg
    generalize top = t at *
    have e : T % (t : Int) = T + t := by
      rw [← Int.add_emod_right, Int.emod_eq_of_lt (by omega) (by omega)]
    rw [e] at hn
    rw [Nat.mod_eq_of_lt (by omega)]; omega
  · rw [if_neg (by rw [decide_eq_true_eq]; exact h)]
    generalize top = t at *
    rw [Int.emod_eq_of_lt (by omega) (by omega)] at hn; omega
theorem sval_short (b : Nat) : sval b < (pw 33 : Int) ∧ -(pw 33 : Int) < sval b := by
  unfold sval
  have hp := pw_pos 33
  split
  · omega
  · rename_i h
    have hv := val_lt (rung b) (by omega)
    split <;> omega

/-! Rounding in other units -/
theorem cut_scale (neg : Bool) (m t v : Nat) (h0 : m ≠ 0) (hv : t ≤ v) (hd : v ≤ m.log2 + t + 2) : Toward.even.cut neg (m * 2 ^ t) v = Toward.even.cut neg m (v - t) := by
  unfold Toward.cut
  dsimp only
  have ht : 0 < 2 ^ t := Nat.two_pow_pos t
  have hne : m * 2 ^ t ≠ 0 := by intro e; rcases Nat.mul_eq_zero.1 e with e | e <;> omega
  rw [log2_shift m t h0, Nat.min_eq_left hd, Nat.min_eq_left (show v - t ≤ m.log2 + 2 by omega)]
  simp only [Nat.shiftLeft_eq, Nat.one_mul]
  have ev : 2 ^ v = 2 ^ t * 2 ^ (v - t) := by rw [← Nat.pow_add, Nat.add_sub_cancel' hv]
  rw [ev, Nat.mul_comm m, Nat.mul_div_mul_left _ _ ht, Nat.mul_mod_mul_left]
  generalize 2 ^ (v - t) = q
  generalize m % q = r
  have e1 : (decide (2 ^ t * q < 2 * (2 ^ t * r))) = decide (q < 2 * r) := by
    rw [decide_eq_decide, show 2 * (2 ^ t * r) = 2 ^ t * (2 * r) by rw [Nat.mul_left_comm]]
    exact Nat.mul_lt_mul_left ht
  have e2 : (2 ^ t * q == 2 * (2 ^ t * r)) = (q == 2 * r) := by
    rw [show 2 * (2 ^ t * r) = 2 ^ t * (2 * r) by rw [Nat.mul_left_comm], Bool.eq_iff_iff, beq_iff_eq, beq_iff_eq]
    exact ⟨fun h => Nat.eq_of_mul_eq_mul_left ht h, fun h => by rw [h]⟩
  rw [e1, e2]
theorem nearest_scale (neg : Bool) (m t : Nat) : double.nearest neg (m * 2 ^ t) (-1074) = double.nearest neg m (-1074 + (t : Int)) := by
  unfold Format.nearest
  simp only [binadeW, infW, leastW]
  by_cases h0 : m = 0
  · subst h0; rw [Nat.zero_mul, if_pos rfl, if_pos rfl]
  · have ht : 0 < 2 ^ t := Nat.two_pow_pos t
    have hne : m * 2 ^ t ≠ 0 := by intro e; rcases Nat.mul_eq_zero.1 e with e | e <;> omega
    rw [if_neg hne, if_neg h0, log2_shift m t h0]
    have hf : (double.fractionBits : Nat) = 52 := rfl
    rw [hf]
    have el : max ((-1074 : Int) + ((m.log2 + t : Nat) : Int) - (52 : Nat)) (-1074) = max ((-1074 : Int) + (t : Int) + (m.log2 : Int) - (52 : Nat)) (-1074) := by omega
    rw [el]
    generalize hL : max ((-1074 : Int) + (t : Int) + (m.log2 : Int) - (52 : Nat)) (-1074) = L
    have e1 : ((-1074 : Int) - L).toNat = 0 := by omega
    rw [e1, Nat.shiftLeft_zero]
    by_cases hc : L ≤ -1074 + (t : Int)
    · obtain ⟨v, hv⟩ : ∃ v : Nat, (L - -1074).toNat = v := ⟨_, rfl⟩
      rw [hv, show ((-1074 : Int) + (t : Int) - L).toNat = t - v by omega, show (L - (-1074 + (t : Int))).toNat = 0 by omega, Nat.shiftLeft_eq]
      have e3 : m * 2 ^ t = m * 2 ^ (t - v) * 2 ^ v := by rw [Nat.mul_assoc, ← Nat.pow_add]; congr 2; omega
      rw [e3, cut_exact neg (m * 2 ^ (t - v)) v _ (fun _ => ?_) rfl]
      · have h1 := cut_exact neg (m * 2 ^ (t - v)) 0 _ (fun _ => by omega) rfl
        rw [Nat.pow_zero, Nat.mul_one] at h1
        rw [h1]
      · rw [← e3, log2_shift m t h0]; omega
    · rw [show ((-1074 : Int) + (t : Int) - L).toNat = 0 by omega, Nat.shiftLeft_zero]
      rw [cut_scale neg m t _ h0 (by omega) (by omega)]
      congr 5
      omega

/-! The format's addition -/
theorem signed_val (s : Bool) (m j k : Nat) (h : k ≤ j) : signed s m (j - k) * (2 ^ k : Nat) = if s then -((m * 2 ^ j : Nat) : Int) else ((m * 2 ^ j : Nat) : Int) := by
  have e : m <<< (j - k) * 2 ^ k = m * 2 ^ j := by rw [Nat.shiftLeft_eq, Nat.mul_assoc, ← Nat.pow_add]; congr 2; omega
  unfold signed
  cases s
  · simp only [Bool.false_eq_true, if_false]; rw [← e]; simp
  · simp only [if_true]; rw [← e, Int.neg_mul]; simp
theorem add_fin (x y : Nat) (hx : x < 18446744073709551616) (hy : y < 18446744073709551616) (fx : rung x < 9218868437227405312) (fy : rung y < 9218868437227405312) :
    double.add x y = some (double.nearest (if sval x + sval y = 0 then decide (9223372036854775808 ≤ x) && decide (9223372036854775808 ≤ y) else decide (sval x + sval y < 0)) (sval x + sval y).natAbs (-1074)) := by
  unfold Format.add
  rw [read_num x hx fx, read_num y hy fy]
  show some (double.nearest _ _ _) = _
  rw [min_place, min_place']
  have em : min ((-1074 : Int) + (shf (rung x) : Nat)) (-1074 + (shf (rung y) : Nat)) = -1074 + ((min (shf (rung x)) (shf (rung y)) : Nat) : Int) := by omega
  rw [em, ← nearest_scale]
  generalize hk : min (shf (rung x)) (shf (rung y)) = k
  have h1 := signed_val (decide (9223372036854775808 ≤ x)) (mant (rung x)) (shf (rung x)) k (by omega)
  have h2 := signed_val (decide (9223372036854775808 ≤ y)) (mant (rung y)) (shf (rung y)) k (by omega)
  have s1 : sval x = if decide (9223372036854775808 ≤ x) = true then -((mant (rung x) * 2 ^ shf (rung x) : Nat) : Int) else ((mant (rung x) * 2 ^ shf (rung x) : Nat) : Int) := by
    unfold sval; rw [if_neg (by omega)]; simp only [decide_eq_true_eq]; rfl
  have s2 : sval y = if decide (9223372036854775808 ≤ y) = true then -((mant (rung y) * 2 ^ shf (rung y) : Nat) : Int) else ((mant (rung y) * 2 ^ shf (rung y) : Nat) : Int) := by
    unfold sval; rw [if_neg (by omega)]; simp only [decide_eq_true_eq]; rfl
  rw [← s1] at h1
  rw [← s2] at h2
  generalize signed (decide (9223372036854775808 ≤ x)) (mant (rung x)) (shf (rung x) - k) = A at *
  generalize signed (decide (9223372036854775808 ≤ y)) (mant (rung y)) (shf (rung y) - k) = B at *
  have hS : sval x + sval y = (A + B) * (2 ^ k : Nat) := by rw [← h1, ← h2, Int.add_mul]
  have hp : 0 < 2 ^ k := Nat.two_pow_pos k
  rw [hS]
  generalize 2 ^ k = q at *
  have z : (A + B) * (q : Int) = 0 ↔ A + B = 0 := by
    constructor
    · intro h; rcases Int.mul_eq_zero.1 h with h | h
      · exact h
      · omega
    · intro h; rw [h, Int.zero_mul]
  have n : (A + B) * (q : Int) < 0 ↔ A + B < 0 := by
    constructor
    · intro h
      rcases Int.lt_or_le (A + B) 0 with h3 | h3
      · exact h3
      · have := Int.mul_nonneg h3 (show (0 : Int) ≤ q by omega); omega
    · intro h; exact Int.mul_neg_of_neg_of_pos h (by omega)
  have a : ((A + B) * (q : Int)).natAbs = (A + B).natAbs * q := by rw [Int.natAbs_mul]; rfl
  rw [a]
  congr 2
  by_cases h : A + B = 0
  · rw [if_pos h, if_pos (z.2 h)]
  · rw [if_neg h, if_neg (fun e => h (z.1 e))]
    exact decide_eq_decide.2 n.symm
end Go.Proofs.Ythklamgdoknmeaa.Sm
