/-
  ExactTwo: the sum of two numbers is the format's own; put together.
-/
import Derived.Test.YthklamgdoknmeaaLt
set_option linter.unusedSimpArgs false
set_option linter.unusedVariables false
set_option maxRecDepth 8000
namespace Go.Proofs.Ythklamgdoknmeaa
open Go.RowKit Sm

theorem nearest_word (neg : Bool) (m : Nat) : Fl.rung (Ieee.double.nearest neg m (-1074)) = min (rnd m) 9218868437227405312 ∧ Ieee.double.nearest neg m (-1074) < 18446744073709551616 ∧ Fl.nan (Ieee.double.nearest neg m (-1074)) = false := by
  rw [nearest_rnd, word_eq]
  have h : min (rnd m) 9218868437227405312 ≤ 9218868437227405312 := Nat.min_le_right _ _
  generalize min (rnd m) 9218868437227405312 = r at *
  unfold Fl.nan Fl.rung
  rw [decide_eq_false_iff_not]
  cases neg
  · rw [if_neg (by decide)]; omega
  · rw [if_pos rfl]; omega
theorem kind_fin (b : Nat) (h : Fl.rung b < 9218868437227405312) : kindB b = if b = 9223372036854775808 then 8 else 24 := by
  unfold kindB
  rw [if_neg (by unfold Fl.nan; rw [decide_eq_true_eq]; omega), if_neg (by omega)]
theorem accN_two (x y : Nat) : (accN [x, y] : Int) = (sval x + sval y) % (top : Int) := by
  rw [(acc_two x y).1, Int.natCast_emod, Int.natCast_add, unit_int, unit_int, ← Int.add_emod]
theorem short_two (x y : Nat) : sgn (accN [x, y]) = decide (sval x + sval y < 0) ∧ mag (accN [x, y]) = (sval x + sval y).natAbs := by
  have a := sval_short x
  have b := sval_short y
  have ht := top_33
  have hp := pw_pos 33
  have hn := accN_two x y
  refine short _ _ hn ?_ ?_
  · rw [ht]; generalize pw 33 = P at *; omega
  · rw [ht]; generalize pw 33 = P at *; omega
theorem val_24 (n : Nat) : valW n 24 = Ieee.double.nearest (sgn n) (mag n) (-1074) ∧ valO n 24 = decide (9218868437227405312 ≤ rnd (mag n)) := by
  unfold valW valO
  rw [if_neg (by decide), if_neg (by decide), if_neg (by decide), if_neg (by decide), if_neg (by decide), if_neg (by decide), if_neg (by decide), if_neg (by decide)]
  exact ⟨Eq.refl _, Eq.refl _⟩
theorem val_8 (n : Nat) : valW n 8 = 9223372036854775808 ∧ valO n 8 = false := by
  unfold valW valO
  rw [if_neg (by decide), if_neg (by decide), if_neg (by decide), if_pos rfl, if_neg (by decide), if_neg (by decide), if_neg (by decide), if_pos rfl]
  exact ⟨rfl, rfl⟩
theorem fin_of (b : Nat) (h1 : Fl.nan b = false) (h2 : decide (Fl.rung b = 9218868437227405312) = false) : Fl.rung b < 9218868437227405312 := by
  unfold Fl.nan at h1
  rw [decide_eq_false_iff_not] at h1 h2
  omega
theorem val_of_two (x y : Nat) (hx : x < 18446744073709551616) (hy : y < 18446744073709551616) (fx : Fl.rung x < 9218868437227405312) (fy : Fl.rung y < 9218868437227405312) :
    Ieee.double.add x y = some (valW (accN [x, y]) (accH [x, y])) ∧ decide (Fl.rung (valW (accN [x, y]) (accH [x, y])) = 9218868437227405312) = valO (accN [x, y]) (accH [x, y]) ∧ valW (accN [x, y]) (accH [x, y]) < 18446744073709551616 := by
  obtain ⟨s1, s2⟩ := short_two x y
  rw [(acc_two x y).2, kind_fin x fx, kind_fin y fy]
  by_cases hz : x = 9223372036854775808 ∧ y = 9223372036854775808
  · obtain ⟨rfl, rfl⟩ := hz
    rw [if_pos rfl, show (8 ||| 8 : Nat) = 8 from rfl, (val_8 _).1, (val_8 _).2]
    refine ⟨by decide +kernel, by decide +kernel, by decide⟩
  · have e : (if x = 9223372036854775808 then 8 else 24) ||| (if y = 9223372036854775808 then 8 else 24) = 24 := by
      by_cases h1 : x = 9223372036854775808
      · rw [if_pos h1, if_neg (fun h2 => hz ⟨h1, h2⟩)]; rfl
      · rw [if_neg h1]; split <;> rfl
    rw [e, (val_24 _).1, (val_24 _).2, s1, s2, add_fin x y hx hy fx fy]
    obtain ⟨r1, r2, -⟩ := nearest_word (decide (sval x + sval y < 0)) (sval x + sval y).natAbs
    refine ⟨?_, ?_, r2⟩
    · congr 2
      by_cases h0 : sval x + sval y = 0
      · rw [if_pos h0, h0]
        have hneg : ¬ (9223372036854775808 ≤ x ∧ 9223372036854775808 ≤ y) := by
          rintro ⟨a, b⟩
          unfold sval at h0
          rw [if_neg (Nat.not_le.2 fx), if_neg (Nat.not_le.2 fy), if_pos a, if_pos b] at h0
          have v1 : Fl.val (Fl.rung x) = 0 := by omega
          have v2 : Fl.val (Fl.rung y) = 0 := by omega
          have z : ∀ r, Fl.val r = 0 → r = 0 := fun r h => by
            rcases Nat.eq_zero_or_pos r with h1 | h1
            · exact h1
            · have := Fl.val_pos h1; omega
          have q1 := z _ v1
          have q2 := z _ v2
          unfold Fl.rung at q1 q2
          exact hz ⟨by omega, by omega⟩
        have : (decide (9223372036854775808 ≤ x) && decide (9223372036854775808 ≤ y)) = false := by
          rw [← Bool.decide_and]; exact decide_eq_false hneg
        rw [this]; rfl
      · rw [if_neg h0]
    · rw [r1, decide_eq_decide]; omega

end Go.Proofs.Ythklamgdoknmeaa
