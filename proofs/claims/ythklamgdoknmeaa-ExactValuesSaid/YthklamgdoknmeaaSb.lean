/-
  Plain facts on the bits of a number of 35 words: from a place on, below a place, how many. No program stands here.
-/
import Derived.Test.YthklamgdoknmeaaSm
import Derived.Laws.MathBits
set_option linter.unusedSimpArgs false
set_option linter.unusedVariables false
set_option maxRecDepth 8000
namespace Go.Proofs.Ythklamgdoknmeaa.Sm

theorem or_add (x y r : Nat) (hr : r ≤ 64) (hx : x < 18446744073709551616) : x / 2 ^ r ||| (y * 2 ^ (64 - r)) % 18446744073709551616 = (x + 18446744073709551616 * y) / 2 ^ r % 18446744073709551616 := by
  have hp : 0 < 2 ^ r := Nat.two_pow_pos r
  have hq : 0 < 2 ^ (64 - r) := Nat.two_pow_pos _
  have e64 : 2 ^ r * 2 ^ (64 - r) = 18446744073709551616 := by rw [← Nat.pow_add, show r + (64 - r) = 64 by omega]
  have hlo : x / 2 ^ r < 2 ^ (64 - r) := (Nat.div_lt_iff_lt_mul hp).2 (by rw [Nat.mul_comm]; omega)
  have e1 : y * 2 ^ (64 - r) % 18446744073709551616 = 2 ^ (64 - r) * (y % 2 ^ r) := by
    rw [← e64, Nat.mul_comm y, Nat.mul_comm (2 ^ r), Nat.mul_mod_mul_left]
  have e2 : (x + 18446744073709551616 * y) / 2 ^ r = x / 2 ^ r + 2 ^ (64 - r) * y := by
    rw [← e64, Nat.mul_assoc, Nat.add_mul_div_left _ _ hp]
  have e3 : (x / 2 ^ r + 2 ^ (64 - r) * y) % 18446744073709551616 = x / 2 ^ r + 2 ^ (64 - r) * (y % 2 ^ r) := by
    rw [← e64, Nat.mul_comm (2 ^ r), Nat.mod_mul, Nat.add_mul_mod_self_left, Nat.mod_eq_of_lt hlo, Nat.add_mul_div_left _ _ hq, Nat.div_eq_of_lt hlo, Nat.zero_add]
  rw [e1, e2, e3, Nat.or_comm, ← Nat.two_pow_add_eq_or_of_lt hlo, Nat.add_comm]

theorem pw_eq (k : Nat) : pw k = 2 ^ (64 * k) := by unfold pw; rfl
/-- The word k, and the next one, out of the number's quotient. -/
theorem two_words (n k : Nat) : n / pw k % (18446744073709551616 * 18446744073709551616) = wd n k + 18446744073709551616 * wd n (k + 1) := by
  rw [Nat.mod_mul]
  unfold wd
  rw [Nat.div_div_eq_div_mul, ← pow_step]
theorem div_split (n s : Nat) : n / 2 ^ s = n / pw (s / 64) / 2 ^ (s % 64) := by
  rw [pw_eq, Nat.div_div_eq_div_mul, ← Nat.pow_add]; congr 2; omega
theorem bits_low (n s : Nat) : wd n (s / 64) / 2 ^ (s % 64) ||| (wd n (s / 64 + 1) * 2 ^ (64 - s % 64)) % 18446744073709551616 = n / 2 ^ s % 18446744073709551616 := by
  rw [or_add _ _ _ (by omega) (wd_lt _ _), ← two_words, div_split n s]
  generalize n / pw (s / 64) = q
  have hr : s % 64 < 64 := Nat.mod_lt _ (by decide)
  generalize s % 64 = r at *
  have e : (18446744073709551616 * 18446744073709551616 : Nat) = 2 ^ r * (18446744073709551616 * 2 ^ (64 - r)) := by
    rw [show (18446744073709551616 : Nat) = 2 ^ 64 from rfl, ← Nat.pow_add, ← Nat.pow_add, ← Nat.pow_add]; congr 1; omega
  rw [e, Nat.mod_mul_right_div_self, Nat.mod_mul_right_mod]
theorem bits_high (n s : Nat) (hn : n < top) (hs : 35 ≤ s / 64 + 1) (h2 : s / 64 < 35) : wd n (s / 64) / 2 ^ (s % 64) = n / 2 ^ s % 18446744073709551616 := by
  have e : s / 64 = 34 := by omega
  rw [div_split n s, e]
  have h1 : n / pw 34 < 18446744073709551616 := (Nat.div_lt_iff_lt_mul (pw_pos _)).2 (by rw [Nat.mul_comm, ← pow_step, ← top_eq]; exact hn)
  unfold wd
  rw [Nat.mod_eq_of_lt h1]
  exact (Nat.mod_eq_of_lt (Nat.lt_of_le_of_lt (Nat.div_le_self _ _) h1)).symm

/-! Below a place -/
theorem mod_split (n s : Nat) : n % 2 ^ s = n % pw (s / 64) + pw (s / 64) * (wd n (s / 64) % 2 ^ (s % 64)) := by
  have e : 2 ^ s = pw (s / 64) * 2 ^ (s % 64) := by rw [pw_eq, ← Nat.pow_add]; congr 1; omega
  rw [e, Nat.mod_mul]
  unfold wd
  have hr : s % 64 < 64 := Nat.mod_lt _ (by decide)
  have e2 : (18446744073709551616 : Nat) = 2 ^ (s % 64) * 2 ^ (64 - s % 64) := by
    rw [← Nat.pow_add, show s % 64 + (64 - s % 64) = 64 by omega]
  rw [e2, Nat.mod_mul_right_mod]
theorem below_last (n s : Nat) (h : n % pw (s / 64) = 0) : (wd n (s / 64) * 2 ^ (64 - s % 64)) % 18446744073709551616 = 0 ↔ n % 2 ^ s = 0 := by
  have hr : s % 64 < 64 := Nat.mod_lt _ (by decide)
  rw [mod_split n s, h, Nat.zero_add]
  generalize wd n (s / 64) = x
  have hp := pw_pos (s / 64)
  generalize pw (s / 64) = K at *
  generalize s % 64 = r at *
  have hq : 0 < 2 ^ (64 - r) := Nat.two_pow_pos _
  have e64 : 2 ^ r * 2 ^ (64 - r) = 18446744073709551616 := by rw [← Nat.pow_add, show r + (64 - r) = 64 by omega]
  rw [← e64, Nat.mul_comm x, Nat.mul_comm (2 ^ r), Nat.mul_mod_mul_left, Nat.mul_eq_zero, Nat.mul_eq_zero]
  omega
theorem below_word (n s k : Nat) (hk : k < s / 64) (h : wd n k ≠ 0) : n % 2 ^ s ≠ 0 := by
  intro e
  have hd : pw (k + 1) ∣ 2 ^ s := by rw [pw_eq]; exact Nat.pow_dvd_pow 2 (by omega)
  have h1 : n % pw (k + 1) = 0 := by
    rw [← Nat.mod_mod_of_dvd n hd, e, Nat.zero_mod]
  rw [mod_step] at h1
  have hp := pw_pos k
  rcases Nat.eq_zero_or_pos (wd n k) with h2 | h2
  · exact h h2
  · have := Nat.mul_pos hp h2
    omega
theorem zero_step (n k : Nat) (h : n % pw k = 0) (h2 : wd n k = 0) : n % pw (k + 1) = 0 := by rw [mod_step, h, h2]; simp

/-! How many bits -/
theorem len_zero_word (n k : Nat) (h : wd n k = 0) : bitLen (n % pw (k + 1)) = bitLen (n % pw k) := by rw [mod_step, h]; simp
theorem len_word (n k : Nat) (h : wd n k ≠ 0) : bitLen (n % pw (k + 1)) = k * 64 + bitLen (wd n k) := by
  have hp := pw_pos k
  have e : n % pw (k + 1) / 2 ^ (64 * k) = wd n k := by
    rw [← pw_eq, mod_step, Nat.add_mul_div_left _ _ hp, Nat.div_eq_of_lt (Nat.mod_lt _ hp), Nat.zero_add]
  rw [bitLen_shift _ (64 * k) (by rw [e]; exact h), e, Nat.mul_comm]
theorem len_none (n : Nat) : bitLen (n % pw 0) = 0 := by rw [pw_zero, Nat.mod_one]; rfl
theorem len_all (n : Nat) (h : n < top) : bitLen (n % pw 35) = bitLen n := by rw [← top_eq, Nat.mod_eq_of_lt h]
theorem len_le (n : Nat) (h : n < top) : bitLen n ≤ 2240 := by
  unfold bitLen
  split
  · omega
  · rename_i h0
    rw [top_eq, pw_eq] at h
    have := (Nat.log2_lt h0).2 h
    omega
theorem len_le_of (n k : Nat) (h : n < 2 ^ k) : bitLen n ≤ k := by
  unfold bitLen
  split
  · omega
  · rename_i h0
    have := (Nat.log2_lt h0).2 h
    omega
theorem wd_len (n k : Nat) : bitLen (wd n k) ≤ 64 := len_le_of _ 64 (wd_lt n k)
end Go.Proofs.Ythklamgdoknmeaa.Sm
