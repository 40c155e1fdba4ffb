/-
  Plain facts on one number as a sum: its units, what it is. No program stands here.
-/
import Derived.Test.YthklamgdoknmeaaSr
set_option linter.unusedSimpArgs false
set_option linter.unusedVariables false
set_option maxRecDepth 8000
namespace Go.Proofs.Ythklamgdoknmeaa.Sm
open Fl

/-! One number as words -/
theorem mul_pw_wd (X a i : Nat) : wd (X * pw a) i = if i < a then 0 else wd X (i - a) := by
  unfold wd
  by_cases h : i < a
  · rw [if_pos h]
    have e : pw a = pw i * (18446744073709551616 * pw (a - i - 1)) := by
      unfold pw
      rw [show (18446744073709551616 : Nat) = 2 ^ 64 from rfl, ← Nat.pow_add, ← Nat.pow_add]; congr 1; omega
    rw [e, ← Nat.mul_assoc, Nat.mul_comm X, Nat.mul_assoc, Nat.mul_div_cancel_left _ (pw_pos i), ← Nat.mul_assoc, Nat.mul_comm X, Nat.mul_assoc, Nat.mul_mod_right]
  · rw [if_neg h]
    have e : pw i = pw a * pw (i - a) := by unfold pw; rw [← Nat.pow_add]; congr 1; omega
    rw [e, ← Nat.div_div_eq_div_mul, Nat.mul_div_cancel _ (pw_pos a)]
/-- The two words of a number of 53 bits, moved. -/
theorem one_words (m s i : Nat) (hm : m < 9007199254740992) : wd (m * 2 ^ s) i = if i = s / 64 + 1 then m / 2 ^ (64 - s % 64) else if i = s / 64 then m * 2 ^ (s % 64) % 18446744073709551616 else 0 := by
  have hr : s % 64 < 64 := Nat.mod_lt _ (by decide)
  have e : m * 2 ^ s = m * 2 ^ (s % 64) * pw (s / 64) := by
    rw [pw_eq, Nat.mul_assoc, ← Nat.pow_add]; congr 2; omega
  rw [e, mul_pw_wd]
  generalize s / 64 = a
  generalize s % 64 = r at *
  have e64 : 2 ^ r * 2 ^ (64 - r) = 18446744073709551616 := by rw [← Nat.pow_add, show r + (64 - r) = 64 by omega]
  have hX : m * 2 ^ r / 18446744073709551616 = m / 2 ^ (64 - r) := by
    rw [← e64, Nat.mul_comm m, Nat.mul_div_mul_left _ _ (Nat.two_pow_pos r)]
  have hs : m / 2 ^ (64 - r) < 18446744073709551616 := Nat.lt_of_le_of_lt (Nat.div_le_self _ _) (by omega)
  by_cases h1 : i < a
  · rw [if_pos h1, if_neg (by omega), if_neg (by omega)]
  · rw [if_neg h1]
    by_cases h2 : i = a + 1
    · rw [if_pos h2, h2, show a + 1 - a = 1 by omega]
      unfold wd
      rw [show pw 1 = 18446744073709551616 by rw [pw_eq], hX, Nat.mod_eq_of_lt hs]
    · rw [if_neg h2]
      by_cases h3 : i = a
      · rw [if_pos h3, h3, Nat.sub_self]
        unfold wd
        rw [pw_zero, Nat.div_one]
      · rw [if_neg h3]
        unfold wd
        obtain ⟨j, hj⟩ : ∃ j, i - a = j + 2 := ⟨i - a - 2, by omega⟩
        have ep : pw (j + 2) = 18446744073709551616 * (18446744073709551616 * pw j) := by
          rw [pow_step, pow_step]; rw [Nat.mul_comm (pw j), Nat.mul_comm]
        rw [hj, ep, ← Nat.div_div_eq_div_mul, hX, ← Nat.div_div_eq_div_mul, Nat.div_eq_of_lt hs, Nat.zero_div]
theorem pw_le (i j : Nat) (h : i ≤ j) : pw i ≤ pw j := by
  rw [pw_eq, pw_eq]; exact Nat.pow_le_pow_right (by decide) (by omega)
theorem pow_le_pw (e k : Nat) (h : e ≤ 64 * k) : 2 ^ e ≤ pw k := by
  rw [pw_eq]; exact Nat.pow_le_pow_right (by decide) h
/-- A finite number has fewer units than 33 words hold. -/
theorem val_lt (r : Nat) (h : r < 9218868437227405312) : val r < pw 33 := by
  unfold val
  have hm := mant_lt r
  have hs : shf r ≤ 2045 := by unfold shf; split <;> omega
  have h1 : mant r * 2 ^ shf r < 2 ^ 53 * 2 ^ shf r := Nat.mul_lt_mul_of_pos_right hm (Nat.two_pow_pos _)
  have h2 : 2 ^ 53 * 2 ^ shf r ≤ pw 33 := by rw [← Nat.pow_add]; exact pow_le_pw _ _ (by omega)
  exact Nat.lt_of_lt_of_le h1 h2
theorem top_33 : top = pw 33 * 340282366920938463463374607431768211456 := by
  rw [top_eq, pow_step, pow_step, Nat.mul_assoc]

/-- The units of a word, with its sign, as a number of 35 words; of what isn't finite 0. -/
def unit (b : Nat) : Nat := if 9218868437227405312 ≤ rung b then 0 else if 9223372036854775808 ≤ b then neg (val (rung b)) else val (rung b)
/-- What a sum of one number has. -/
def kindB (b : Nat) : Nat := if nan b then 25 else if rung b = 9218868437227405312 then (if 9223372036854775808 ≤ b then 28 else 26) else if b = 9223372036854775808 then 8 else 24
theorem unit_lt (b : Nat) : unit b < top := by
  unfold unit
  have ht := top_33
  have hp := pw_pos 33
  split
  · exact top_pos
  · rename_i h
    split
    · exact neg_lt _
    · have := val_lt (rung b) (by omega); omega
theorem kindB_lt (b : Nat) : kindB b < 32 := by
  unfold kindB; repeat' split
  all_goals omega
attribute [irreducible] unit kindB
end Go.Proofs.Ythklamgdoknmeaa.Sm
