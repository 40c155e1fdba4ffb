/-
  Plain facts: a sum's value is the word nearest to it, as the format rounds. No program stands here.
-/
import Derived.Test.YthklamgdoknmeaaSb
set_option linter.unusedSimpArgs false
set_option linter.unusedVariables false
set_option maxRecDepth 8000
namespace Go.Proofs.Ythklamgdoknmeaa.Sm
open Ieee Fl

/-- Is what lies below place s more than a half there, or a half and the rest odd? -/
def rup (m s : Nat) : Bool := decide (s ≠ 0) && (decide (m / 2 ^ (s - 1) % 2 = 1) && (decide (m / 2 ^ s % 2 = 1) || decide (m % 2 ^ (s - 1) ≠ 0)))
def drop (m : Nat) : Nat := bitLen m - 53
/-- The rung nearest to m units. -/
def rnd (m : Nat) : Nat := drop m * 4503599627370496 + m / 2 ^ drop m + (rup m (drop m)).toNat

theorem half_facts (m s : Nat) : m / 2 ^ s % 2 = m % 2 ^ (s + 1) / 2 ^ s ∧ m % 2 ^ (s + 1) = m % 2 ^ s + 2 ^ s * (m / 2 ^ s % 2) := by
  have e : m % 2 ^ (s + 1) = m % 2 ^ s + 2 ^ s * (m / 2 ^ s % 2) := by rw [Nat.pow_succ, Nat.mod_mul]
  refine ⟨?_, e⟩
  have hp : 0 < 2 ^ s := Nat.two_pow_pos s
  rw [e, Nat.add_mul_div_left _ _ hp, Nat.div_eq_of_lt (Nat.mod_lt _ hp), Nat.zero_add]

theorem cut_rup (neg : Bool) (m s : Nat) (hs : s ≤ m.log2 + 2) : Toward.even.cut neg m s = m / 2 ^ s + (rup m s).toNat := by
  have hp : 0 < 2 ^ s := Nat.two_pow_pos s
  unfold Toward.cut
  dsimp only
  rw [Nat.min_eq_left hs, Nat.shiftLeft_eq, Nat.one_mul]
  congr 2
  unfold rup
  rcases s with _ | s
  · have : m % 2 ^ 0 = 0 := by simp [Nat.mod_one]
    rw [this]; simp
  · obtain ⟨-, h2⟩ := half_facts m s
    have hq : 0 < 2 ^ s := Nat.two_pow_pos s
    have hr := Nat.mod_lt m hq
    rw [Nat.add_sub_cancel, h2]
    clear h2 hs
    have hb : m / 2 ^ s % 2 = 0 ∨ m / 2 ^ s % 2 = 1 := by omega
    have ep : 2 ^ (s + 1) = 2 * 2 ^ s := by rw [Nat.pow_succ, Nat.mul_comm]
    rw [ep]
    generalize m % 2 ^ s = r at *
    generalize m / (2 * 2 ^ s) % 2 = lo at *
    rw [Bool.eq_iff_iff]
    rcases hb with hb | hb
    · rw [hb]
      simp only [Nat.mul_zero, Nat.add_zero, Bool.or_eq_true, Bool.and_eq_true, decide_eq_true_eq, beq_iff_eq]
      generalize 2 ^ s = q at *
      constructor
      · rintro (h | ⟨h, -⟩) <;> exfalso <;> omega
      · rintro ⟨-, h, -⟩; exact absurd h (by decide)
    · rw [hb]
      simp only [Nat.mul_one, Bool.or_eq_true, Bool.and_eq_true, decide_eq_true_eq, beq_iff_eq]
      generalize 2 ^ s = q at *
      constructor
      · rintro (h | ⟨h, h2⟩)
        · exact ⟨by omega, trivial, Or.inr (by omega)⟩
        · exact ⟨by omega, trivial, Or.inl h2⟩
      · rintro ⟨-, -, h⟩
        by_cases h0 : r = 0
        · rcases h with h | h
          · exact Or.inr ⟨by omega, h⟩
          · exact absurd h0 h
        · exact Or.inl (by omega)

theorem len_log (m : Nat) (h : m ≠ 0) : bitLen m = m.log2 + 1 := by unfold bitLen; rw [if_neg h]

/-- The format's own rounding of m of the least units. -/
theorem nearest_rnd (neg : Bool) (m : Nat) : double.nearest neg m (-1074) = double.word neg (min (rnd m) 9218868437227405312) := by
  unfold Format.nearest
  simp only [binadeW, infW, leastW]
  by_cases h0 : m = 0
  · subst h0
    rw [if_pos rfl]
    have : rnd 0 = 0 := by decide
    rw [this]; rfl
  · rw [if_neg h0]
    have hf : (double.fractionBits : Nat) = 52 := rfl
    have hL := len_log m h0
    have hl : max ((-1074 : Int) + (m.log2 : Nat) - (double.fractionBits : Nat)) (-1074) = -1074 + (drop m : Nat) := by
      rw [hf]; unfold drop; omega
    rw [hl]
    have e1 : ((-1074 : Int) - (-1074 + (drop m : Nat))).toNat = 0 := by omega
    have e2 : ((-1074 : Int) + (drop m : Nat) - -1074).toNat = drop m := by omega
    rw [e1, e2, Nat.shiftLeft_zero, cut_rup neg m (drop m) (by unfold drop; omega), ← Nat.add_assoc]
    rfl

theorem word_eq (neg : Bool) (r : Nat) : double.word neg r = r + (if neg then 9223372036854775808 else 0) := by
  unfold Format.word
  rw [signW]
  cases neg
  · simp
  · simp [Nat.add_comm]

/-- Its quotient has 53 bits at most. -/
theorem quot_lt (m : Nat) : m / 2 ^ drop m < 9007199254740992 := by
  have h1 := (bitLen_spec m).1
  have : 2 ^ bitLen m ≤ 2 ^ (53 + drop m) := Nat.pow_le_pow_right (by decide) (by unfold drop; omega)
  rw [Nat.pow_add] at this
  exact (Nat.div_lt_iff_lt_mul (Nat.two_pow_pos _)).2 (by rw [show (9007199254740992 : Nat) = 2 ^ 53 from rfl]; omega)

/-! A sum's sign, and its magnitude -/
def sgn (n : Nat) : Bool := decide (top ≤ 2 * n)
def mag (n : Nat) : Nat := if sgn n then neg n else n
theorem wd_34 (n : Nat) (hn : n < top) : wd n 34 = n / pw 34 := by
  unfold wd
  exact Nat.mod_eq_of_lt ((Nat.div_lt_iff_lt_mul (pw_pos _)).2 (by rw [Nat.mul_comm, ← pow_step, ← top_eq]; exact hn))
theorem sgn_word (n : Nat) (hn : n < top) : sgn n = decide (9223372036854775808 ≤ wd n 34) := by
  rw [wd_34 n hn]
  unfold sgn
  rw [Bool.eq_iff_iff, decide_eq_true_eq, decide_eq_true_eq, Nat.le_div_iff_mul_le (pw_pos _), top_eq, pow_step]
  generalize pw 34 = K
  omega
theorem mag_lt (n : Nat) (hn : n < top) : mag n < top := by
  unfold mag; split
  · exact neg_lt n
  · exact hn
theorem mag_half (n : Nat) (hn : n < top) : 2 * mag n ≤ top := by
  unfold mag sgn neg
  split
  · rename_i h
    rw [decide_eq_true_eq] at h
    rcases Nat.eq_zero_or_pos n with h0 | h0
    · subst h0; have := top_pos; omega
    · rw [Nat.mod_eq_of_lt (by omega)]; omega
  · rename_i h
    rw [decide_eq_true_eq] at h
    omega
end Go.Proofs.Ythklamgdoknmeaa.Sm
