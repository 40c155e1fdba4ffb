/-
  ExactNear: the plain facts it leans on, and the number next to a nought.
-/
import Derived.Test.YtofcfjchlkmenaaLez
import Derived.Test.YtofcfjchlkmenaaSx
import Derived.Test.YtofcfjchlkmenaaLn
set_option linter.unusedSimpArgs false
set_option linter.unusedVariables false
namespace Go.Proofs.Ytofcfjchlkmenaa
open Go.RowKit Sm

/-! The number next to a nought -/
set_option maxHeartbeats 400000 in
theorem copy_one_p (w : World) : Calls Try.prog 30 #[.float .f64 1, .float .f64 9218868437227405312] w fun e w' => e = .returned (.float .f64 1) ∧ w = w' := by
  have xf := fb_run
  have xt := tb_run
  go_enter Try.func30, Try.ntmps30
  go_wp2
  go_ret
  exact ⟨rfl, rfl⟩
set_option maxHeartbeats 400000 in
theorem copy_one_n (w : World) : Calls Try.prog 30 #[.float .f64 1, .float .f64 18442240474082181120] w fun e w' => e = .returned (.float .f64 9223372036854775809) ∧ w = w' := by
  have xf := fb_run
  have xt := tb_run
  go_enter Try.func30, Try.ntmps30
  go_wp2
  go_ret
  exact ⟨rfl, rfl⟩
set_option maxHeartbeats 1000000 in
theorem next_zero_core (x y R : Nat) (hx : x < 18446744073709551616) (hy : y < 18446744073709551616) (n0 : Fl.nan x = false) (n1 : Fl.nan y = false) (e0 : (FloatKind.f64.format.order x y == some .eq) = false) (e1 : (FloatKind.f64.format.order x 0 == some .eq) = true)
    (hc : ∀ w, Calls Try.prog 30 #[.float .f64 1, .float .f64 y] w fun e w' => e = .returned (.float .f64 R) ∧ w = w') : NextGives x y R := fun w => by
  have xf := fb_run
  go_enter Try.func33, Try.ntmps33
  go_wp2_with (first
    | (go_at_call 24; refine (isNaN_any _ (by assumption) _).mono ?_; rintro e w' ⟨rfl, rfl⟩)
    | (go_at_call 30; refine (hc _).mono ?_; rintro e w' ⟨rfl, rfl⟩))
  go_ret
  exact ⟨rfl, rfl⟩
theorem next_zero (x : Nat) (h : x = 0 ∨ x = 9223372036854775808) : NextGives x 9218868437227405312 1 ∧ NextGives x 18442240474082181120 9223372036854775809 := by
  rcases h with rfl | rfl
  · exact ⟨next_zero_core _ _ _ (by decide) (by decide) (by decide) (by decide) (by decide +kernel) (by decide +kernel) copy_one_p, next_zero_core _ _ _ (by decide) (by decide) (by decide) (by decide) (by decide +kernel) (by decide +kernel) copy_one_n⟩
  · exact ⟨next_zero_core _ _ _ (by decide) (by decide) (by decide) (by decide) (by decide +kernel) (by decide +kernel) copy_one_p, next_zero_core _ _ _ (by decide) (by decide) (by decide) (by decide) (by decide +kernel) (by decide +kernel) copy_one_n⟩

/-! The sum as a whole number with a sign -/
def sumS (l : List Nat) : Int := l.foldl (fun t b => t + sval b) 0
theorem sumS_snoc (l : List Nat) (b : Nat) : sumS (l ++ [b]) = sumS l + sval b := by unfold sumS; rw [List.foldl_append]; rfl
theorem accN_int (l : List Nat) : (accN l : Int) = sumS l % (top : Int) :=
  list_snoc (p := fun l => (accN l : Int) = sumS l % (top : Int)) (by show ((0 : Nat) : Int) = 0 % _; simp) (fun l b ih => by
    rw [accN_snoc, sumS_snoc, Int.natCast_emod, Int.natCast_add, ih, unit_int, ← Int.add_emod]) l
theorem sumS_le (l : List Nat) : sumS l ≤ (l.length : Int) * (pw 33 : Int) ∧ -((l.length : Int) * (pw 33 : Int)) ≤ sumS l :=
  list_snoc (p := fun l => sumS l ≤ (l.length : Int) * (pw 33 : Int) ∧ -((l.length : Int) * (pw 33 : Int)) ≤ sumS l) (by show (0 : Int) ≤ _ ∧ _ ≤ (0 : Int); simp) (fun l b ih => by
    have hb := sval_short b
    rw [sumS_snoc, List.length_append, show ((l.length + [b].length : Nat) : Int) = (l.length : Int) + 1 by simp, Int.add_mul, Int.one_mul]
    omega) l
theorem sum_short (l : List Nat) (h : l.length ≤ 31) : sgn (accN l) = decide (sumS l < 0) ∧ mag (accN l) = (sumS l).natAbs := by
  have hs := sumS_le l
  have ht := top_33
  have hp := pw_pos 33
  have h31 : (l.length : Int) * (pw 33 : Int) ≤ 31 * (pw 33 : Int) := Int.mul_le_mul_of_nonneg_right (by omega) (by omega)
  generalize (l.length : Int) * (pw 33 : Int) = q at *
  refine short _ _ (accN_int l) ?_ ?_
  · rw [ht]; generalize pw 33 = P at *; omega
  · rw [ht]; generalize pw 33 = P at *; omega
/-- Noughts with the sign alone come to nought. -/
theorem sum_none (l : List Nat) : Fin l → accH l ≠ 24 → sumS l = 0 :=
  list_snoc (p := fun l => Fin l → accH l ≠ 24 → sumS l = 0) (fun _ _ => rfl) (fun l b ih hf hne => by
    have h1 : Fin l := fun x hx => hf x (by simp [hx])
    have hb := hf b (by simp)
    rw [accH_snoc, kind_fin b hb] at hne
    have hcase : b = 9223372036854775808 := by
      by_cases e : b = 9223372036854775808
      · exact e
      · exfalso
        rw [if_neg e] at hne
        rcases fin_has l h1 with c | c | c <;> rw [c] at hne <;> exact hne (by decide)
    have hl : accH l ≠ 24 := by
      intro c
      rw [c, hcase] at hne
      exact hne (by decide)
    rw [sumS_snoc, ih h1 hl, hcase]
    have e0 : Fl.rung 9223372036854775808 = 0 := by decide
    unfold sval
    rw [e0, if_neg (by decide), if_pos (Nat.le_refl _), Fl.val_zero]
    rfl) l
theorem val_0' (n : Nat) : valW n 0 = Ieee.double.nearest (sgn n) (mag n) (-1074) ∧ valO n 0 = decide (9218868437227405312 ≤ rnd (mag n)) := by
  unfold valW valO
  rw [if_neg (by decide), if_neg (by decide), if_neg (by decide), if_neg (by decide), if_neg (by decide), if_neg (by decide), if_neg (by decide), if_neg (by decide)]
  exact ⟨Eq.refl _, Eq.refl _⟩
/-- What Value's word has for a magnitude. -/
theorem rung_val (l : List Nat) (hf : Fin l) (h : l.length ≤ 31) :
    Fl.rung (valW (accN l) (accH l)) = min (rnd (sumS l).natAbs) 9218868437227405312 ∧ valW (accN l) (accH l) < 18446744073709551616 ∧ Fl.nan (valW (accN l) (accH l)) = false ∧ valO (accN l) (accH l) = decide (9218868437227405312 ≤ rnd (sumS l).natAbs) ∧
    (0 < rnd (sumS l).natAbs → decide (9223372036854775808 ≤ valW (accN l) (accH l)) = decide (sumS l < 0)) := by
  obtain ⟨s1, s2⟩ := sum_short l h
  have sign : ∀ m, decide (9223372036854775808 ≤ Ieee.double.nearest (decide (sumS l < 0)) m (-1074)) = decide (sumS l < 0) := fun m => by
    rw [nearest_rnd, word_eq]
    have hm : min (rnd m) 9218868437227405312 ≤ 9218868437227405312 := Nat.min_le_right _ _
    generalize min (rnd m) 9218868437227405312 = r at *
    by_cases hs : sumS l < 0
    · rw [decide_eq_true hs, if_pos rfl]; exact decide_eq_true (by omega)
    · rw [decide_eq_false hs, if_neg (by decide)]; exact decide_eq_false (by omega)
  obtain ⟨r1, r2, r3⟩ := nearest_word (decide (sumS l < 0)) (sumS l).natAbs
  have z0 : rnd (0 : Int).natAbs = 0 := by decide
  rcases fin_has l hf with c | c | c
  · rw [c, (val_0' _).1, (val_0' _).2, s1, s2]
    exact ⟨r1, r2, r3, rfl, fun _ => sign _⟩
  · have e := sum_none l hf (by rw [c]; decide)
    rw [c, (val_8 _).1, (val_8 _).2, e, z0]
    exact ⟨by decide, by decide, by decide, by decide, fun h => absurd h (by decide)⟩
  · rw [c, (val_24 _).1, (val_24 _).2, s1, s2]
    exact ⟨r1, r2, r3, rfl, fun _ => sign _⟩
end Go.Proofs.Ytofcfjchlkmenaa
