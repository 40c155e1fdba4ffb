/-
  ExactNear: put together.
-/
import Derived.Test.YtofcfjchlkmenaaLnv
set_option linter.unusedSimpArgs false
set_option linter.unusedVariables false
namespace Go.Proofs.Ytofcfjchlkmenaa
open Go.RowKit Sm

theorem kn_pos : kindB 9218868437227405312 = 26 := by decide +kernel
theorem kn_neg : kindB 18442240474082181120 = 28 := by decide +kernel
theorem val_na (n h : Nat) (c : h % 2 = 1 ∨ h / 2 % 4 = 3) : valW n h = 9221120237041090560 ∧ valO n h = false := by
  unfold valW valO
  rw [if_pos c, if_pos c]; exact ⟨rfl, rfl⟩
theorem val_po (n h : Nat) (c : ¬ (h % 2 = 1 ∨ h / 2 % 4 = 3)) (c2 : h / 2 % 2 = 1) : valW n h = 9218868437227405312 ∧ valO n h = false := by
  unfold valW valO
  rw [if_neg c, if_neg c, if_pos c2, if_pos c2]; exact ⟨rfl, rfl⟩
theorem val_ne (n h : Nat) (c : ¬ (h % 2 = 1 ∨ h / 2 % 4 = 3)) (c2 : ¬ h / 2 % 2 = 1) (c3 : h / 4 % 2 = 1) : valW n h = 18442240474082181120 ∧ valO n h = false := by
  unfold valW valO
  rw [if_neg c, if_neg c, if_neg c2, if_neg c2, if_pos c3, if_pos c3]; exact ⟨rfl, rfl⟩

/-! What the sum has, where the value is a number -/
theorem or_mod8 (a b : Nat) (h : (a ||| b) % 8 = 0) : a % 8 = 0 ∧ b % 8 = 0 := by
  have e : (a ||| b) % 2 ^ 3 = a % 2 ^ 3 ||| b % 2 ^ 3 := Nat.or_mod_two_pow
  rw [show (2 : Nat) ^ 3 = 8 from rfl, h] at e
  exact Nat.or_eq_zero_iff.1 e.symm
theorem kind_mod8 (b : Nat) (h : kindB b % 8 = 0) : Fl.rung b < 9218868437227405312 := by
  unfold kindB at h
  by_cases hn : Fl.nan b = true
  · rw [if_pos hn] at h; exact absurd h (by decide)
  · rw [if_neg hn] at h
    by_cases hi : Fl.rung b = 9218868437227405312
    · rw [if_pos hi] at h
      split at h <;> exact absurd h (by decide)
    · unfold Fl.nan at hn
      rw [decide_eq_true_eq] at hn
      omega
theorem fin_of_has (l : List Nat) : accH l % 8 = 0 → Fin l :=
  list_snoc (p := fun l => accH l % 8 = 0 → Fin l) (fun _ x hx => absurd hx (by simp)) (fun l b ih h => by
    rw [accH_snoc] at h
    obtain ⟨h1, h2⟩ := or_mod8 _ _ h
    exact fin_snoc l b (ih h1) (kind_mod8 b h2)) l
theorem fin_of_val (n h : Nat) (e1 : Fl.nan (valW n h) = false) (e2 : Fl.rung (valW n h) ≠ 9218868437227405312) : h % 8 = 0 := by
  by_cases c1 : h % 2 = 1 ∨ h / 2 % 4 = 3
  · rw [(val_na n h c1).1] at e1; exact absurd e1 (by decide)
  · by_cases c2 : h / 2 % 2 = 1
    · rw [(val_po n h c1 c2).1] at e2; exact absurd (by decide) e2
    · by_cases c3 : h / 4 % 2 = 1
      · rw [(val_ne n h c1 c2 c3).1] at e2; exact absurd (by decide) e2
      · omega
theorem val_lt64 (n h : Nat) : valW n h < 18446744073709551616 := by
  unfold valW
  repeat' split
  all_goals first | exact (nearest_word _ _).2.1 | decide

/-! The order of magnitudes -/
theorem rung_order (a b : Nat) (ha : Fl.rung a ≤ Fl.rung b) (hb : Fl.rung b ≤ 9218868437227405312) :
    (FloatKind.f64.format.order (Fl.rung a) (Fl.rung b) == some .lt || FloatKind.f64.format.order (Fl.rung a) (Fl.rung b) == some .eq) = true := by
  generalize Fl.rung a = p at *
  generalize Fl.rung b = q at *
  have np : Fl.nan p = false := nan_of p (by omega)
  have nq : Fl.nan q = false := nan_of q (by omega)
  rw [Fl.ord_lt p q (by omega) (by omega) np nq, Fl.ord_eq p q (by omega) (by omega) np nq, key_ge p (by omega), key_ge q (by omega)]
  by_cases h : p < q
  · rw [decide_eq_true (show (p : Int) < q by omega)]; rfl
  · rw [decide_eq_true (show (p : Int) = q by omega), Bool.or_true]

/-- The sum with one number more taken off it. -/
theorem less_val (l : List Nat) (hf : Fin l) (h : l.length ≤ 30) (R : Nat) (hR : R < 18446744073709551616) (hr : Fl.rung R ≤ 9218868437227405312) :
    Op.negFloat .f64 R < 18446744073709551616 ∧
    Fl.rung (valW (addN (accN l) (Op.negFloat .f64 R)) (orH (accH l) (Op.negFloat .f64 R))) = (if Fl.rung R = 9218868437227405312 then 9218868437227405312 else min (rnd (sumS l - sval R).natAbs) 9218868437227405312) := by
  by_cases hi : Fl.rung R = 9218868437227405312
  · rw [if_pos hi]
    have hc : R = 9218868437227405312 ∨ R = 18442240474082181120 := by unfold Fl.rung at hi; omega
    have hh := fin_has l hf
    rcases hc with rfl | rfl
    · have e : Op.negFloat .f64 9218868437227405312 = 18442240474082181120 := by rw [neg_word _ (by decide), if_pos (by decide)]
      rw [e]
      refine ⟨by decide, ?_⟩
      unfold orH
      rw [kn_neg]
      rcases hh with c | c | c <;> rw [c, (val_ne _ _ (by decide) (by decide) (by decide)).1] <;> decide
    · have e : Op.negFloat .f64 18442240474082181120 = 9218868437227405312 := by rw [neg_word _ (by decide), if_neg (by decide)]
      rw [e]
      refine ⟨by decide, ?_⟩
      unfold orH
      rw [kn_pos]
      rcases hh with c | c | c <;> rw [c, (val_po _ _ (by decide) (by decide)).1] <;> decide
  · rw [if_neg hi]
    obtain ⟨s1, s2, s3⟩ := sval_neg R hR (by omega)
    refine ⟨s3, ?_⟩
    have e := (rung_val (l ++ [Op.negFloat .f64 R]) (fin_snoc l _ hf s2) (by rw [List.length_append]; show l.length + 1 ≤ 31; omega)).1
    rw [sumS_snoc, s1, accN_snoc, accH_snoc] at e
    unfold addN orH
    rw [e, Int.sub_eq_add_neg]

/-- No neighbour lies nearer. -/
theorem near (T : Int) (x R : Nat) (hx : Fl.rung x = rnd T.natAbs) (hxi : Fl.rung x < 9218868437227405312) (hR : Fl.rung R < 9218868437227405312)
    (hs : 0 < rnd T.natAbs → decide (9223372036854775808 ≤ x) = decide (T < 0))
    (hn : 0 < rnd T.natAbs ∧ decide (9223372036854775808 ≤ R) = decide (T < 0) ∧ (Fl.rung R = Fl.rung x + 1 ∨ Fl.rung R + 1 = Fl.rung x) ∨ rnd T.natAbs = 0 ∧ Fl.rung R = 1) :
    (T - sval x).natAbs ≤ (T - sval R).natAbs := by
  obtain ⟨n1, n2, n3⟩ := rnd_near T.natAbs
  have v0 := Fl.val_zero
  have v1 : Fl.val 1 = 1 := by decide
  have sx : sval x = if 9223372036854775808 ≤ x then -(Fl.val (Fl.rung x) : Int) else (Fl.val (Fl.rung x) : Int) := by unfold sval; rw [if_neg (show ¬ 9218868437227405312 ≤ Fl.rung x by omega)]
  have sR : sval R = if 9223372036854775808 ≤ R then -(Fl.val (Fl.rung R) : Int) else (Fl.val (Fl.rung R) : Int) := by unfold sval; rw [if_neg (show ¬ 9218868437227405312 ≤ Fl.rung R by omega)]
  rw [sx, sR]
  clear sx sR
  rcases hn with ⟨p, s, c⟩ | ⟨z, c⟩
  · have hs' := hs p
    obtain ⟨n4, n5⟩ := n3 p
    rw [decide_eq_decide] at s hs'
    have hup := Fl.val_lt_of_lt (show rnd T.natAbs < rnd T.natAbs + 1 by omega)
    have hdn := Fl.val_lt_of_lt (show rnd T.natAbs - 1 < rnd T.natAbs by omega)
    rcases c with c | c
    · rw [hx] at c
      rw [hx, c]
      generalize Fl.val (rnd T.natAbs) = A at *
      generalize Fl.val (rnd T.natAbs + 1) = B at *
      by_cases h : T < 0
      · rw [if_pos (hs'.2 h), if_pos (s.2 h)]; omega
      · rw [if_neg (fun e => h (hs'.1 e)), if_neg (fun e => h (s.1 e))]; omega
    · have c' : Fl.rung R = rnd T.natAbs - 1 := by omega
      rw [hx, c']
      generalize Fl.val (rnd T.natAbs) = A at *
      generalize Fl.val (rnd T.natAbs - 1) = B at *
      by_cases h : T < 0
      · rw [if_pos (hs'.2 h), if_pos (s.2 h)]; omega
      · rw [if_neg (fun e => h (hs'.1 e)), if_neg (fun e => h (s.1 e))]; omega
  · rw [hx, z, c, v0, v1]
    rw [z, v0, v1] at n1
    have hT : T.natAbs = 0 := by omega
    have hT' : T = 0 := by omega
    subst hT'
    split <;> split <;> decide
end Go.Proofs.Ytofcfjchlkmenaa
