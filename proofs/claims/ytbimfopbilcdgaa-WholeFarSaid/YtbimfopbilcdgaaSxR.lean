/-
  Plain facts: the rung that rounding gives lies nearest; rounding rises. No program stands here.
-/
import Derived.Test.YtbimfopbilcdgaaZyQ
set_option linter.unusedSimpArgs false
set_option linter.unusedVariables false
set_option maxRecDepth 8000
namespace Go.Proofs.Ytbimfopbilcdgaa.Sm
open Ieee Fl

/-- The greatest rung that isn't above m units. -/
def lo (m : Nat) : Nat := drop m * 4503599627370496 + m / 2 ^ drop m
theorem val_form (s q : Nat) (hq : q < 9007199254740992) (h : s = 0 ∨ 4503599627370496 ≤ q) : val (s * 4503599627370496 + q) = q * 2 ^ s := by
  unfold val mant shf
  by_cases h1 : s * 4503599627370496 + q < 4503599627370496
  · have hs : s = 0 := by omega
    subst hs
    rw [if_pos h1, if_pos h1]; simp
  · rw [if_neg h1, if_neg h1]
    have hs : s = 0 ∨ 4503599627370496 ≤ q := h
    have e1 : (s * 4503599627370496 + q) / 4503599627370496 - 1 = s := by omega
    have e2 : 4503599627370496 + (s * 4503599627370496 + q) % 4503599627370496 = q := by omega
    rw [e1, e2]
theorem quot_ge (m : Nat) : drop m = 0 ∨ 4503599627370496 ≤ m / 2 ^ drop m := by
  by_cases h : drop m = 0
  · exact Or.inl h
  · right
    have hm : m ≠ 0 := by intro e; subst e; exact h (by decide)
    have h2 := (bitLen_spec m).2 hm
    have e : 2 ^ (bitLen m - 1) = 4503599627370496 * 2 ^ drop m := by
      rw [show (4503599627370496 : Nat) = 2 ^ 52 from rfl, ← Nat.pow_add]; congr 1; unfold drop at *; omega
    rw [e] at h2
    exact (Nat.le_div_iff_mul_le (Nat.two_pow_pos _)).2 h2
theorem val_lo (m : Nat) : val (lo m) = m / 2 ^ drop m * 2 ^ drop m := val_form _ _ (quot_lt m) (quot_ge m)
theorem val_hi (m : Nat) : val (lo m + 1) = (m / 2 ^ drop m + 1) * 2 ^ drop m := by
  have hq := quot_lt m
  have hg := quot_ge m
  unfold lo
  generalize m / 2 ^ drop m = q at *
  generalize drop m = s at *
  by_cases h : q + 1 < 9007199254740992
  · rw [Nat.add_assoc, val_form s (q + 1) h (by omega)]
  · have e : s * 4503599627370496 + q + 1 = (s + 1) * 4503599627370496 + 4503599627370496 := by omega
    rw [e, val_form (s + 1) 4503599627370496 (by decide) (Or.inr (Nat.le_refl _)), show q + 1 = 4503599627370496 * 2 by omega, Nat.pow_succ, Nat.mul_comm (2 ^ s) 2, Nat.mul_assoc]
/-- m lies from its rung on, below the next one. -/
theorem lo_le (m : Nat) : val (lo m) ≤ m ∧ m < val (lo m + 1) := by
  rw [val_lo, val_hi]
  have hp : 0 < 2 ^ drop m := Nat.two_pow_pos _
  have e := Nat.div_add_mod m (2 ^ drop m)
  have hr := Nat.mod_lt m hp
  rw [Nat.add_mul, Nat.one_mul, Nat.mul_comm (m / 2 ^ drop m)]
  omega
theorem val_le_of_le {r q : Nat} (h : r ≤ q) : val r ≤ val q := by
  rcases Nat.lt_or_ge r q with h1 | h1
  · exact Nat.le_of_lt (val_lt_of_lt h1)
  · rw [Nat.le_antisymm h h1]; exact Nat.le_refl _
theorem lo_mono {a b : Nat} (h : a ≤ b) : lo a ≤ lo b := by
  rcases Nat.lt_or_ge (lo b) (lo a) with h1 | h1
  · have h2 := val_le_of_le (show lo b + 1 ≤ lo a by omega)
    have := (lo_le a).1
    have := (lo_le b).2
    omega
  · exact h1
/-- Which of the two: the nearer one; of two alike the even one. -/
theorem up_iff (m : Nat) : rup m (drop m) = true ↔ val (lo m) + val (lo m + 1) < 2 * m ∨ val (lo m) + val (lo m + 1) = 2 * m ∧ lo m % 2 = 1 := by
  rw [val_lo, val_hi]
  have hpar : lo m % 2 = m / 2 ^ drop m % 2 := by unfold lo; omega
  rw [hpar]
  have e := Nat.div_add_mod m (2 ^ drop m)
  have hp : 0 < 2 ^ drop m := Nat.two_pow_pos _
  have hs : drop m ≤ m.log2 + 2 := by
    unfold drop
    by_cases h0 : m = 0
    · subst h0; decide
    · rw [len_log m h0]; omega
  have hc := cut_rup false m (drop m) hs
  unfold Toward.cut at hc
  dsimp only at hc
  rw [Nat.min_eq_left hs, Nat.shiftLeft_eq, Nat.one_mul] at hc
  have hc2 : rup m (drop m) = (decide (2 ^ drop m < 2 * (m % 2 ^ drop m)) || (2 ^ drop m == 2 * (m % 2 ^ drop m) && m / 2 ^ drop m % 2 == 1)) := by
    have h := Nat.add_left_cancel hc
    revert h
    cases rup m (drop m) <;> cases (decide (2 ^ drop m < 2 * (m % 2 ^ drop m)) || (2 ^ drop m == 2 * (m % 2 ^ drop m) && m / 2 ^ drop m % 2 == 1)) <;> simp
  rw [hc2]
  simp only [Bool.or_eq_true, Bool.and_eq_true, decide_eq_true_eq, beq_iff_eq]
  rw [Nat.add_mul, Nat.one_mul, Nat.mul_comm (m / 2 ^ drop m)]
  generalize 2 ^ drop m * (m / 2 ^ drop m) = L at *
  generalize 2 ^ drop m = g at *
  generalize m % g = r at *
  generalize m / g % 2 = p at *
  omega
theorem rnd_cases (m : Nat) : rup m (drop m) = true ∧ rnd m = lo m + 1 ∨ rup m (drop m) = false ∧ rnd m = lo m := by
  unfold rnd lo
  cases rup m (drop m)
  · exact Or.inr ⟨Eq.refl _, Nat.add_zero _⟩
  · exact Or.inl ⟨Eq.refl _, Eq.refl _⟩
theorem rnd_mono {a b : Nat} (h : a ≤ b) : rnd a ≤ rnd b := by
  have hl := lo_mono h
  have ua := up_iff a
  have ub := up_iff b
  rcases Nat.lt_or_ge (lo a) (lo b) with h1 | h1
  · rcases rnd_cases a with ⟨-, e⟩ | ⟨-, e⟩ <;> rcases rnd_cases b with ⟨-, f⟩ | ⟨-, f⟩ <;> omega
  · have e : lo a = lo b := Nat.le_antisymm hl h1
    rw [← e] at ub
    rcases rnd_cases a with ⟨x, p⟩ | ⟨x, p⟩ <;> rcases rnd_cases b with ⟨y, q⟩ | ⟨y, q⟩
    · omega
    · rw [x] at ua
      rw [y] at ub
      have := ua.1 rfl
      have : ¬ (val (lo a) + val (lo a + 1) < 2 * b ∨ val (lo a) + val (lo a + 1) = 2 * b ∧ lo a % 2 = 1) := fun h => by have := ub.2 h; cases this
      omega
    · omega
    · omega
/-- No rung's number lies nearer than that of the rung that rounding gives: not the next one, not the one ahead. -/
theorem rnd_near (m : Nat) : (m : Int) - val (rnd m) ≤ (val (rnd m + 1) : Int) - m ∧ (val (rnd m) : Int) - m ≤ (val (rnd m + 1) : Int) - m ∧
    (0 < rnd m → (m : Int) - val (rnd m) ≤ (m : Int) - val (rnd m - 1) ∧ (val (rnd m) : Int) - m ≤ (m : Int) - val (rnd m - 1)) := by
  have h := lo_le m
  have u := up_iff m
  rcases rnd_cases m with ⟨x, e⟩ | ⟨x, e⟩
  · rw [x] at u
    have := u.1 rfl
    have h2 := val_lt_of_lt (show lo m + 1 < lo m + 1 + 1 by omega)
    rw [e, Nat.add_sub_cancel]
    omega
  · rw [x] at u
    have u2 : ¬ (val (lo m) + val (lo m + 1) < 2 * m ∨ val (lo m) + val (lo m + 1) = 2 * m ∧ lo m % 2 = 1) := fun h => by have := u.2 h; cases this
    rw [e]
    refine ⟨by omega, by omega, fun h0 => ?_⟩
    have h2 := val_lt_of_lt (show lo m - 1 < lo m by omega)
    omega
end Go.Proofs.Ytbimfopbilcdgaa.Sm
