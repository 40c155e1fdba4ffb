/-
  Plain facts for ExactMany: m / 1024, so many times. No program stands here.
-/
import Derived.Test.YtofcfjchlkmenaaSz
set_option linter.unusedSimpArgs false
set_option linter.unusedVariables false
namespace Go.Proofs.Ytofcfjchlkmenaa.Sm
open Ieee Fl

theorem nearest_scale' (neg : Bool) (m t : Nat) (P : Int) (hP : -1074 ≤ P + (t : Int)) : double.nearest neg (m * 2 ^ t) P = double.nearest neg m (P + (t : Int)) := by
  unfold Format.nearest
  simp only [binadeW, infW, leastW]
  by_cases h0 : m = 0
  · subst h0; rw [Nat.zero_mul, if_pos rfl, if_pos rfl]
  · have ht : 0 < 2 ^ t := Nat.two_pow_pos t
    have hne : m * 2 ^ t ≠ 0 := by intro e; rcases Nat.mul_eq_zero.1 e with e | e <;> omega
    rw [if_neg hne, if_neg h0, log2_shift m t h0]
    have hf : (double.fractionBits : Nat) = 52 := rfl
    rw [hf]
    have el : max (P + ((m.log2 + t : Nat) : Int) - (52 : Nat)) (-1074) = max (P + (t : Int) + (m.log2 : Int) - (52 : Nat)) (-1074) := by omega
    rw [el]
    have hL1 : P + (t : Int) + (m.log2 : Int) - (52 : Nat) ≤ max (P + (t : Int) + (m.log2 : Int) - (52 : Nat)) (-1074) := by omega
    have hL2 : max (P + (t : Int) + (m.log2 : Int) - (52 : Nat)) (-1074) = P + (t : Int) + (m.log2 : Int) - (52 : Nat) ∨ max (P + (t : Int) + (m.log2 : Int) - (52 : Nat)) (-1074) = -1074 := by omega
    generalize max (P + (t : Int) + (m.log2 : Int) - (52 : Nat)) (-1074) = L at *
    have zc : ∀ n, Toward.even.cut neg n 0 = n := fun n => by
      have h1 := cut_exact neg n 0 _ (fun _ => by omega) rfl
      rwa [Nat.pow_zero, Nat.mul_one] at h1
    by_cases hc : L ≤ P
    · obtain ⟨u, hu⟩ : ∃ u : Nat, (P - L).toNat = u := ⟨_, rfl⟩
      rw [hu, show (P + (t : Int) - L).toNat = t + u by omega, show (L - P).toNat = 0 by omega, show (L - (P + (t : Int))).toNat = 0 by omega, zc, zc, Nat.shiftLeft_eq, Nat.shiftLeft_eq, Nat.pow_add, Nat.mul_assoc]
    · rw [show (P - L).toNat = 0 by omega, Nat.shiftLeft_zero]
      by_cases hd : L ≤ P + (t : Int)
      · obtain ⟨v, hv⟩ : ∃ v : Nat, (L - P).toNat = v := ⟨_, rfl⟩
        rw [hv, show (P + (t : Int) - L).toNat = t - v by omega, show (L - (P + (t : Int))).toNat = 0 by omega, Nat.shiftLeft_eq, zc]
        have e3 : m * 2 ^ t = m * 2 ^ (t - v) * 2 ^ v := by rw [Nat.mul_assoc, ← Nat.pow_add]; congr 2; omega
        rw [e3, cut_exact neg (m * 2 ^ (t - v)) v _ (fun _ => ?_) rfl]
        rw [← e3, log2_shift m t h0]; omega
      · rw [show (P + (t : Int) - L).toNat = 0 by omega, Nat.shiftLeft_zero]
        rw [cut_scale neg m t _ h0 (by omega) (by omega)]
        congr 5
        omega

/-- The word of m / 1024. -/
def mill (m : Nat) : Nat := if m = 0 then 0 else (m.log2 + 1012) * 4503599627370496 + m * 2 ^ (52 - m.log2)
theorem ofNat_parts (m : Nat) (h : m < 9007199254740992) (h0 : m ≠ 0) : mant (ofNat m) = m * 2 ^ (52 - m.log2) ∧ shf (ofNat m) = m.log2 + 1022 ∧ ofNat m < 9218868437227405312 ∧ 4607182418800017408 ≤ ofNat m := by
  obtain ⟨-, f1, f2, f3, f4⟩ := ofNat_facts m h h0
  have hs := scaled52 m h h0
  refine ⟨?_, ?_, f3, f4⟩
  · unfold mant; rw [if_neg (by omega), f2]; omega
  · unfold shf; rw [if_neg (by omega), f1]; omega
theorem mill_parts (m : Nat) (h : m < 9007199254740992) (h0 : m ≠ 0) : mant (mill m) = m * 2 ^ (52 - m.log2) ∧ shf (mill m) = m.log2 + 1012 ∧ mill m < 9218868437227405312 := by
  have hs := scaled52 m h h0
  have hl := log2_lt53 m h h0
  have e : mill m = (m.log2 + 1012) * 4503599627370496 + m * 2 ^ (52 - m.log2) := by unfold mill; rw [if_neg h0]
  rw [e]
  generalize m * 2 ^ (52 - m.log2) = t at *
  unfold mant shf
  refine ⟨?_, ?_, by omega⟩
  · rw [if_neg (by omega)]; omega
  · rw [if_neg (by omega)]; omega
theorem div_mill (m : Nat) (h : m < 9007199254740992) : double.div (ofNat m) 4652218415073722368 = some (mill m) := by
  by_cases h0 : m = 0
  · subst h0; decide +kernel
  · obtain ⟨p1, p2, p3, -⟩ := ofNat_parts m h h0
    obtain ⟨q1, q2, q3⟩ := mill_parts m h h0
    have hs := scaled52 m h h0
    have hl := log2_lt53 m h h0
    unfold Format.div
    rw [read_nat _ p3, p1, p2, show double.read 4652218415073722368 = .number false 4503599627370496 (-42) by decide +kernel]
    have lq : (m * 2 ^ (52 - m.log2)).log2 = 52 := log2_eq52 _ hs.2 hs.1
    show some (double.nearest _ _ _) = some _
    congr 1
    have e54 : double.fractionBits + 2 + Nat.log2 4503599627370496 - (m * 2 ^ (52 - m.log2)).log2 = 54 := by rw [lq]; decide +kernel
    rw [e54, Nat.shiftLeft_eq]
    have d0 : m * 2 ^ (52 - m.log2) * 2 ^ 54 = 4503599627370496 * (m * 2 ^ (52 - m.log2) * 4) := by
      rw [show (2 : Nat) ^ 54 = 4503599627370496 * 4 by decide, Nat.mul_left_comm]
    have d1 : m * 2 ^ (52 - m.log2) * 2 ^ 54 / 4503599627370496 = m * 2 ^ (52 - m.log2) * 4 := by rw [d0, Nat.mul_div_cancel_left _ (by decide)]
    have d2 : m * 2 ^ (52 - m.log2) * 2 ^ 54 % 4503599627370496 = 0 := by rw [d0, Nat.mul_mod_right]
    rw [d1, d2]
    show double.nearest (false ^^ false) (2 * (m * 2 ^ (52 - m.log2) * 4) + ((0 : Nat) != 0).toNat) _ = _
    have e8 : 2 * (m * 2 ^ (52 - m.log2) * 4) + ((0 : Nat) != 0).toNat = mant (mill m) * 2 ^ 3 := by
      rw [q1, show ((0 : Nat) != 0).toNat = 0 by decide]
      generalize m * 2 ^ (52 - m.log2) = t
      omega
    rw [e8, nearest_exact _ (mill m) 3 (by omega) _ (by rw [q2]; omega)]
    rfl
theorem mill_zero : mill 0 = 0 := by unfold mill; rw [if_pos rfl]
theorem val_mill (m e : Nat) (he : e = 1064) (h : m < 9007199254740992) : val (mill m) = m * 2 ^ e := by
  by_cases h0 : m = 0
  · subst h0; rw [Nat.zero_mul, mill_zero]; exact val_zero
  · obtain ⟨q1, q2, -⟩ := mill_parts m h h0
    have hl := log2_lt53 m h h0
    unfold val
    rw [q1, q2, Nat.mul_assoc, ← Nat.pow_add]
    congr 2; omega
theorem mill_lt (m : Nat) (h : m < 9007199254740992) : mill m < 9218868437227405312 := by
  by_cases h0 : m = 0
  · subst h0; rw [mill_zero]; decide
  · exact (mill_parts m h h0).2.2
/-- The product, as the format has it. -/
theorem mul_mill (m n : Nat) (h : m < 9007199254740992) (hn : n < 9007199254740992) : double.mul (mill m) (ofNat n) = some (double.nearest false (n * m) (-10)) := by
  by_cases h0 : m = 0
  · subst h0
    rw [Nat.mul_zero]
    have hz : ofNat n < 9218868437227405312 := by
      by_cases k : n = 0
      · subst k; decide
      · exact (ofNat_parts n hn k).2.2.1
    unfold Format.mul
    rw [read_nat _ hz, show double.read (mill 0) = .number false 0 (-1074) by decide +kernel]
    show some (double.nearest (false ^^ false) (0 * _) _) = _
    rw [Nat.zero_mul]
    unfold Format.nearest
    rw [if_pos rfl, if_pos rfl]; rfl
  · by_cases k : n = 0
    · subst k
      rw [Nat.zero_mul]
      unfold Format.mul
      rw [read_nat _ (mill_lt m h), show double.read (ofNat 0) = .number false 0 (-1074) by decide +kernel]
      show some (double.nearest (false ^^ false) (_ * 0) _) = _
      rw [Nat.mul_zero]
      unfold Format.nearest
      rw [if_pos rfl, if_pos rfl]; rfl
    · obtain ⟨q1, q2, q3⟩ := mill_parts m h h0
      obtain ⟨p1, p2, p3, -⟩ := ofNat_parts n hn k
      have hl := log2_lt53 m h h0
      have hl2 := log2_lt53 n hn k
      unfold Format.mul
      rw [read_nat _ q3, read_nat _ p3, q1, q2, p1, p2]
      show some (double.nearest (false ^^ false) _ _) = _
      have e : m * 2 ^ (52 - m.log2) * (n * 2 ^ (52 - n.log2)) = n * m * 2 ^ ((52 - m.log2) + (52 - n.log2)) := by
        rw [Nat.pow_add, Nat.mul_comm n m, Nat.mul_mul_mul_comm]
      rw [e, nearest_scale' _ _ _ _ (by omega)]
      exact congrArg (fun z => some (double.nearest false (n * m) z)) (by omega)
end Go.Proofs.Ytofcfjchlkmenaa.Sm
