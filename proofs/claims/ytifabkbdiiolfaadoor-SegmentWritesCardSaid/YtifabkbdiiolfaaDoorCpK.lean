/-
  Layer column, plain facts: numbers in groups of seven bits.
-/
import Derived.Test.YtifabkbdiiolfaaDoorByK
set_option linter.unusedSimpArgs false
set_option linter.unusedVariables false
namespace Go.Proofs.YtifabkbdiiolfaaDoor
namespace Col
/-- A number as bytes. -/
def ub (n : Nat) : List Nat := if h : n < 128 then [n] else (n % 128 + 128) :: ub (n / 128)
termination_by n
decreasing_by omega
theorem ub_lt {n : Nat} (h : n < 128) : ub n = [n] := by rw [ub, dif_pos h]
theorem ub_ge {n : Nat} (h : 128 ≤ n) : ub n = (n % 128 + 128) :: ub (n / 128) := by rw [ub, dif_neg (by omega)]
theorem ub_pos (n : Nat) : 0 < (ub n).length := by
 by_cases h : n < 128
 ·rw [ub_lt h]; simp
 ·rw [ub_ge (by omega)]; simp
theorem ub_len (k : Nat) : ∀ n : Nat, n < 2 ^ (7 * (k + 1)) → (ub n).length ≤ k + 1 := by
 induction k with
 | zero => intro n h; rw [ub_lt (by simpa using h)]; simp
 | succ k ih =>
  intro n h
  by_cases h1 : n < 128
  ·rw [ub_lt h1]; simp
  ·rw [ub_ge (by omega), List.length_cons]
   have : n / 128 < 2 ^ (7 * (k + 1)) := by
    rw [Nat.div_lt_iff_lt_mul (by decide)]
    rw [show 7 * (k + 1 + 1) = 7 * (k + 1) + 7 by omega, Nat.pow_add] at h
    exact h
   have := ih _ this
   omega
/-- The next number of some bytes, from its k-th group on. -/
def grp : Nat → List Nat → Option (Nat × List Nat)
 | _, [] => none
 | k, b :: q => if 9 < k ∨ (k = 9 ∧ 1 < b) then none else if b < 128 then (if b = 0 ∧ 0 < k then none else some (b, q)) else (grp (k + 1) q).map fun p => (b % 128 + 128 * p.1, p.2)
theorem grp_big (k : Nat) (h : 9 < k) (q : List Nat) : grp k q = none := by
 cases q with
 | nil => rfl
 | cons b q => rw [grp, if_pos (.inl h)]
theorem grp_end {k b : Nat} {q : List Nat} (h : ¬ (9 < k ∨ (k = 9 ∧ 1 < b))) (hb : b < 128) (h0 : ¬ (b = 0 ∧ 0 < k)) : grp k (b :: q) = some (b, q) := by rw [grp, if_neg h, if_pos hb, if_neg h0]
theorem grp_zero {k : Nat} {q : List Nat} (h0 : 0 < k) : grp k (0 :: q) = none := by
 rw [grp]; split
 ·rfl
 ·rw [if_pos (by omega), if_pos ⟨rfl, h0⟩]
theorem grp_on {k b : Nat} {q : List Nat} (h : k ≤ 8) (hb : 128 ≤ b) : grp k (b :: q) = (grp (k + 1) q).map fun p => (b % 128 + 128 * p.1, p.2) := by rw [grp, if_neg (by omega), if_neg (by omega)]
/-- What was read of it goes ahead. -/
def plus (k acc : Nat) (o : Option (Nat × List Nat)) : Option (Nat × List Nat) := o.map fun p => (acc + 2 ^ (7 * k) * p.1, p.2)
theorem plus_zero (o : Option (Nat × List Nat)) : plus 0 0 o = o := by
 cases o with
 | none => rfl
 | some p => simp [plus]
theorem plus_on {k acc b : Nat} {q : List Nat} (h : k ≤ 8) (hb : 128 ≤ b) : plus k acc (grp k (b :: q)) = plus (k + 1) (acc + 2 ^ (7 * k) * (b % 128)) (grp (k + 1) q) := by
 rw [grp_on h hb]
 unfold plus
 rw [Option.map_map]
 congr 1
 funext p
 have : 2 ^ (7 * (k + 1)) = 2 ^ (7 * k) * 128 := by rw [show 7 * (k + 1) = 7 * k + 7 by omega, Nat.pow_add]
 show (acc + 2 ^ (7 * k) * (b % 128 + 128 * p.1), p.2) = (acc + 2 ^ (7 * k) * (b % 128) + 2 ^ (7 * (k + 1)) * p.1, p.2)
 rw [this, Nat.mul_add, Nat.mul_assoc, Nat.add_assoc]
/-- There and back. -/
theorem grp_ub (r : List Nat) (n : Nat) : ∀ k, (k ≤ 9 ∧ n < 2 ^ (64 - 7 * k)) → (0 < n ∨ k = 0) → grp k (ub n ++ r) = some (n, r) := by
 induction n using Nat.strongRecOn with
 | ind n ih =>
  intro k hk h0
  have h9 : k = 9 → n ≤ 1 := fun h => by have := hk.2; rw [h] at this; simp at this; omega
  by_cases h : n < 128
  ·rw [ub_lt h]
   exact grp_end (by omega) h (by omega)
  ·have hk8 : k ≤ 8 := by omega
   rw [ub_ge (by omega), List.cons_append, grp_on hk8 (by omega), ih (n / 128) (by omega) (k + 1) ⟨by omega, ?_⟩ (by omega)]
   ·simp; omega
   ·rw [Nat.div_lt_iff_lt_mul (by decide)]
    have := hk.2
    rw [show 64 - 7 * k = (64 - 7 * (k + 1)) + 7 by omega, Nat.pow_add] at this
    exact this
theorem grp_lt (q : List Nat) : ∀ k n r, grp k q = some (n, r) → (k ≤ 9 ∧ ((∀ x ∈ q, x < 256) → n < 2 ^ (64 - 7 * k)) ∧ ∃ m, 0 < m ∧ r = q.drop m ∧ m ≤ q.length) := by
 induction q with
 | nil => intro k n r h; cases h
 | cons b q ih =>
  intro k n r h
  rw [grp] at h
  split at h
  ·cases h
  rename_i h1
  split at h
  ·split at h
   ·cases h
   ·injection h with h; injection h with h2 h3; subst h2; subst h3
    refine ⟨by omega, fun _ => ?_, 1, by omega, rfl, by simp⟩
    by_cases h9 : k = 9
    ·subst h9; simp; omega
    ·have : 2 ^ 8 ≤ 2 ^ (64 - 7 * k) := Nat.pow_le_pow_right (by decide) (by omega)
     omega
  ·rename_i h2
   rcases hg : grp (k + 1) q with _ | ⟨n', r'⟩
   ·rw [hg] at h; cases h
   ·rw [hg] at h
    simp only [Option.map_some, Option.some.injEq, Prod.mk.injEq] at h
    obtain ⟨i1, i2, m, i3, i4, i5⟩ := ih _ _ _ hg
    refine ⟨by omega, fun hx => ?_, m + 1, by omega, by rw [← h.2, i4]; rfl, by simp; omega⟩
    have i2 := i2 fun x hx' => hx x (List.mem_cons_of_mem _ hx')
    have : 2 ^ (64 - 7 * k) = 2 ^ (64 - 7 * (k + 1)) * 128 := by rw [show 64 - 7 * k = (64 - 7 * (k + 1)) + 7 by omega, Nat.pow_add]
    omega
end Col
end Go.Proofs.YtifabkbdiiolfaaDoor
