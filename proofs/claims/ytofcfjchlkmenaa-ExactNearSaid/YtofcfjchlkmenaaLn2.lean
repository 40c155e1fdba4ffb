/-
  ExactNear: for every input the law returns true.
-/
import Derived.Test.YtofcfjchlkmenaaLnw
import Derived.Test.YtofcfjchlkmenaaLnu
set_option linter.unusedSimpArgs false
set_option linter.unusedVariables false
namespace Go.Proofs.Ytofcfjchlkmenaa
open Go.RowKit Sm

/-- The numbers next to a number, and what they are. -/
theorem next_two (x : Nat) (hx : x < 18446744073709551616) (hr : Fl.rung x < 9218868437227405312) :
    ∃ U D, NextGives x 9218868437227405312 U ∧ NextGives x 18442240474082181120 D ∧ U < 18446744073709551616 ∧ D < 18446744073709551616 ∧ Fl.rung U ≤ 9218868437227405312 ∧ Fl.rung D ≤ 9218868437227405312 ∧
      (0 < Fl.rung x → decide (9223372036854775808 ≤ U) = decide (9223372036854775808 ≤ x) ∧ decide (9223372036854775808 ≤ D) = decide (9223372036854775808 ≤ x) ∧ (Fl.rung U = Fl.rung x + 1 ∨ Fl.rung U + 1 = Fl.rung x) ∧ (Fl.rung D = Fl.rung x + 1 ∨ Fl.rung D + 1 = Fl.rung x)) ∧
      (Fl.rung x = 0 → Fl.rung U = 1 ∧ Fl.rung D = 1) := by
  by_cases h0 : Fl.rung x = 0
  · have hc : x = 0 ∨ x = 9223372036854775808 := by unfold Fl.rung at h0; omega
    obtain ⟨a, b⟩ := next_zero x hc
    exact ⟨_, _, a, b, by decide, by decide, by decide, by decide, fun h => absurd h (by omega), fun _ => ⟨by decide, by decide⟩⟩
  · have hf : x % 9223372036854775808 < 9218868437227405312 := hr
    have hp : 0 < x % 9223372036854775808 := by unfold Fl.rung at h0; omega
    by_cases hs : x < 9223372036854775808
    · refine ⟨x + 1, x - 1, next_gives x _ _ hx hf hp (Or.inl rfl) (by rw [if_pos (by simp [hs])]), next_gives x _ _ hx hf hp (Or.inr rfl) (by rw [if_neg (by simp [hs])]), by omega, by omega, ?_, ?_, fun _ => ⟨?_, ?_, ?_, ?_⟩, fun h => absurd h h0⟩
      · unfold Fl.rung; omega
      · unfold Fl.rung; omega
      · rw [decide_eq_decide]; omega
      · rw [decide_eq_decide]; omega
      · unfold Fl.rung; omega
      · unfold Fl.rung; omega
    · refine ⟨x - 1, x + 1, next_gives x _ _ hx hf hp (Or.inl rfl) (by rw [if_neg (by simp [hs])]), next_gives x _ _ hx hf hp (Or.inr rfl) (by rw [if_pos (by simp [hs])]), by omega, by omega, ?_, ?_, fun _ => ⟨?_, ?_, ?_, ?_⟩, fun h => absurd h h0⟩
      · unfold Fl.rung; omega
      · unfold Fl.rung; omega
      · rw [decide_eq_decide]; omega
      · rw [decide_eq_decide]; omega
      · unfold Fl.rung; omega
      · unfold Fl.rung; omega

theorem va_val (n b h : Nat) (hh : h < 32) : VaGives (addN n b) (orH h b) (valW (addN n b) (orH h b)) (valO (addN n b) (orH h b)) := fun w => value_any _ _ (addN_lt _ _) (orH_lt _ _ hh) w
theorem le_val (l : List Nat) (hf : Fin l) (h : l.length ≤ 30) (x R : Nat) (hx : x < 18446744073709551616) (hR : R < 18446744073709551616) (hrx : Fl.rung x < 9218868437227405312) (hr : Fl.rung R ≤ 9218868437227405312)
    (hn : Fl.rung R < 9218868437227405312 → (sumS l - sval x).natAbs ≤ (sumS l - sval R).natAbs) :
    Fl.rung (valW (addN (accN l) (Op.negFloat .f64 x)) (orH (accH l) (Op.negFloat .f64 x))) ≤ Fl.rung (valW (addN (accN l) (Op.negFloat .f64 R)) (orH (accH l) (Op.negFloat .f64 R))) ∧
    Fl.rung (valW (addN (accN l) (Op.negFloat .f64 R)) (orH (accH l) (Op.negFloat .f64 R))) ≤ 9218868437227405312 := by
  rw [(less_val l hf h x hx (by omega)).2, (less_val l hf h R hR hr).2, if_neg (by omega)]
  by_cases hi : Fl.rung R = 9218868437227405312
  · rw [if_pos hi]; exact ⟨Nat.min_le_right _ _, Nat.le_refl _⟩
  · rw [if_neg hi]
    have hm := rnd_mono (hn (by omega))
    exact ⟨by omega, Nat.min_le_right _ _⟩

theorem exactNear_any (a : Option Addr) (l : List Nat) (len cap : Nat) (hlen : Hid (len = l.length)) (_hc : len ≤ cap) (_hm : cap ≤ maxLen) (w : World) (HA : Hid (FlAt w a l)) :
    Calls Try.prog 12 #[.slice a len cap] w fun e w' => e = .returned (.bool true) ∧ Below w.heap.size w w' := by
  cases h0 : decide ((30 : Int) < (len : Int))
  · cases h1 : ((len : Int) == 0)
    · have hl : len ≤ 30 := by rw [decide_eq_false_iff_not] at h0; omega
      have hll : l.length ≤ 30 := by rw [← hlen.out]; exact hl
      have hx := val_lt64 (accN l) (accH l)
      have hv : VaGives (accN l) (accH l) (valW (accN l) (accH l)) (valO (accN l) (accH l)) := fun w => value_any _ _ (accN_lt l) (accH_lt l) w
      by_cases hc : valO (accN l) (accH l) = true ∨ Fl.nan (valW (accN l) (accH l)) = true ∨ decide (Fl.rung (valW (accN l) (accH l)) = 9218868437227405312) = true
      · exact exactNear_exit a l len cap _ _ _ _ hlen hl h0 h1 hx hv rfl rfl hc w HA
      · simp only [not_or, Bool.not_eq_true] at hc
        obtain ⟨q0, q1, q2⟩ := hc
        have hf := fin_of_has l (fin_of_val _ _ q1 (of_decide_eq_false q2))
        obtain ⟨r1, -, -, -, r5⟩ := rung_val l hf (by omega)
        rw [q0] at hv
        generalize valW (accN l) (accH l) = x at *
        have hrx := fin_of x q1 q2
        have hr : Fl.rung x = rnd (sumS l).natAbs := by omega
        obtain ⟨U, D, nU, nD, bU, bD, rU, rD, c1, c0⟩ := next_two x hx hrx
        have k0 := accH_lt l
        have nr : ∀ R, R < 18446744073709551616 → Fl.rung R ≤ 9218868437227405312 → (0 < Fl.rung x → decide (9223372036854775808 ≤ R) = decide (9223372036854775808 ≤ x) ∧ (Fl.rung R = Fl.rung x + 1 ∨ Fl.rung R + 1 = Fl.rung x)) → (Fl.rung x = 0 → Fl.rung R = 1) →
            Fl.rung (valW (addN (accN l) (Op.negFloat .f64 x)) (orH (accH l) (Op.negFloat .f64 x))) ≤ Fl.rung (valW (addN (accN l) (Op.negFloat .f64 R)) (orH (accH l) (Op.negFloat .f64 R))) ∧
            Fl.rung (valW (addN (accN l) (Op.negFloat .f64 R)) (orH (accH l) (Op.negFloat .f64 R))) ≤ 9218868437227405312 := fun R hR hrR d1 d0 => by
          refine le_val l hf hll x R hx hR hrx hrR (fun hi => near (sumS l) x R hr hrx hi r5 ?_)
          by_cases hz : Fl.rung x = 0
          · exact Or.inr ⟨by omega, d0 hz⟩
          · obtain ⟨e1, e2⟩ := d1 (by omega)
            exact Or.inl ⟨by omega, e1.trans (r5 (by omega)), e2⟩
        obtain ⟨u1, u2⟩ := nr U bU rU (fun h => ⟨(c1 h).1, (c1 h).2.2.1⟩) (fun h => (c0 h).1)
        obtain ⟨d1, d2⟩ := nr D bD rD (fun h => ⟨(c1 h).2.1, (c1 h).2.2.2⟩) (fun h => (c0 h).2)
        exact exactNear_core a l len cap x _ U _ D _ _ _ _ _ _ _ hlen hl h0 h1 hx (less_val l hf hll x hx (by omega)).1 (less_val l hf hll U bU rU).1 (less_val l hf hll D bD rD).1
          (val_lt64 _ _) (val_lt64 _ _) (val_lt64 _ _) hv q1 q2 (Lib.hid hf) rfl nU nD rfl rfl (va_val _ _ _ k0) (va_val _ _ _ k0) (va_val _ _ _ k0)
          (Lib.hid (rung_order _ _ u1 u2)) (Lib.hid (rung_order _ _ d1 d2)) w HA
    · exact exactNear_len a len cap _ _ h0 h1 (Or.inr rfl) w
  · exact exactNear_len a len cap _ _ h0 rfl (Or.inl rfl) w
end Go.Proofs.Ytofcfjchlkmenaa
