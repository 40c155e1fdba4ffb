/-
  Layer agg: a number less itself; what a sum that is too great tells.
-/
import Derived.Test.YthklamgdoknmeaaAt
set_option linter.unusedSimpArgs false
set_option linter.unusedVariables false
set_option maxRecDepth 8000
namespace Go.Proofs.Ythklamgdoknmeaa
open Go.RowKit Go.WideShapes Col Sm Qb
/-- No number, or infinite. -/
def odd (x : Nat) : Bool := Fl.nan x || decide (Fl.rung x = 9218868437227405312)
theorem signed_off (s : Bool) (m : Nat) : Ieee.signed s m 0 + Ieee.signed (!s) m 0 = 0 := by
  unfold Ieee.signed
  cases s <;> simp <;> omega
theorem sub_num (x : Nat) (hx : x < 18446744073709551616) (h : odd x = false) : Ieee.double.sub x x = some 0 := by
  unfold odd Fl.nan at h
  simp only [Bool.or_eq_false_iff, decide_eq_false_iff_not] at h
  have hr : Fl.rung x < 9218868437227405312 := by omega
  unfold Ieee.Format.sub
  rw [Fl.read_num x hx hr]
  generalize Fl.mant (Fl.rung x) = m
  generalize (-1074 + ((Fl.shf (Fl.rung x) : Nat) : Int)) = p
  generalize decide (9223372036854775808 ≤ x) = s
  simp only [Ieee.Datum.opposite, Ieee.Datum.sum, Int.min_self, Int.sub_self, Int.toNat_zero, signed_off, Int.natAbs_zero, if_true, Option.map, Ieee.Format.write, Ieee.Format.nearest]
  cases s <;> rfl
theorem sub_odd (x : Nat) (hx : x < 18446744073709551616) (h : odd x = true) : Ieee.double.sub x x = none := by
  unfold odd at h
  rw [Bool.or_eq_true] at h
  unfold Ieee.Format.sub
  rcases h with h | h
  · have hn := Fl.read_nan x h
    cases hd : Ieee.double.read x with
    | nan s f => rfl
    | infinity s => rw [hd] at hn; exact absurd hn (by simp [Ieee.Datum.isNaN])
    | number s m p => rw [hd] at hn; exact absurd hn (by simp [Ieee.Datum.isNaN])
  · rw [Fl.read_inf x hx (of_decide_eq_true h)]
    generalize decide (9223372036854775808 ≤ x) = s
    cases s <;> rfl
/-- A number less itself, in a walk: nought, or (the world draws) no number. -/
theorem sub_run (x : Nat) (hx : x < 18446744073709551616) : ∃ (N : World → Nat) (D : World → World),
    (∀ w : World, (binOp .sub 33 (.float .f64 x) (.float .f64 x)).run Try.prog w = .ok (.float .f64 (N w)) (D w)) ∧ (∀ w, D w = w ∨ D w = w.drew) ∧ (∀ w, (FloatKind.f64.format.order (N w) 0 != some .eq) = odd x) := by
  cases h : odd x
  · exact ⟨fun _ => 0, fun w => w, fun w => run_float_arith w .sub _ .f64 x x 0 (sub_num x hx h), fun w => Or.inl rfl, fun w => by show (FloatKind.f64.format.order 0 0 != some .eq) = false; decide +kernel⟩
  · refine ⟨fun w => Question.cut (.nanBits .f64 x x) (w.tape w.drawn (.nanBits .f64 x x)), World.drew, fun w => ?_, fun w => Or.inr rfl, fun w => ?_⟩
    · have e : FloatKind.f64.format.sub x x = none := sub_odd x hx h
      simp [binOp, Op.floatArith, e, Question.forced]
    · show (FloatKind.f64.format.order (Question.cut (.nanBits .f64 x x) (w.tape w.drawn (.nanBits .f64 x x))) 0 != some .eq) = true
      generalize w.tape w.drawn _ = t
      have hn : Fl.nan (Question.cut (.nanBits .f64 x x) t) = true := by
        show Fl.nan (t % 2 * 2 ^ 63 + 0x7ff0000000000000 + 1 + t / 2 % (2 ^ 52 - 1)) = true
        unfold Fl.nan Fl.rung
        rw [decide_eq_true_eq]
        have hr : t / 2 % (2 ^ 52 - 1) < 2 ^ 52 - 1 := Nat.mod_lt _ (by decide)
        generalize t / 2 % (2 ^ 52 - 1) = r at *
        rcases Nat.mod_two_eq_zero_or_one t with h2 | h2
        · rw [h2]; omega
        · rw [h2]; omega
      show (FloatKind.f64.format.order (Question.cut (.nanBits .f64 x x) _) 0 != some .eq) = true
      rw [show FloatKind.f64.format.order (Question.cut (.nanBits .f64 x x) t) 0 = none from Fl.order_nan_l _ _ hn]
      rfl
/-- None but numbers. -/
def okH (h : Nat) : Bool := decide (h % 2 = 0 ∧ h / 2 % 2 = 0 ∧ h / 4 % 2 = 0)
theorem okH_tests : ∀ h k : _root_.Fin 32, okH (h.val ||| k.val) = (okH h.val && okH k.val) := by decide +kernel
theorem okH_or (h k : Nat) (hh : h < 32) (hk : k < 32) : okH (h ||| k) = (okH h && okH k) := okH_tests ⟨h, hh⟩ ⟨k, hk⟩
theorem okH_kind (x : Nat) (h : okH (kindB x) = true) : odd x = false := by
  unfold kindB at h
  unfold odd
  split at h
  · exact absurd h (by decide)
  · rename_i h1
    split at h
    · split at h
      · exact absurd h (by decide)
      · exact absurd h (by decide)
    · rename_i h2
      simp [h1, h2]
theorem okH_all (l : List Nat) : okH (accH l) = true → ∀ x ∈ l, odd x = false := by
  refine list_snoc (p := fun l => okH (accH l) = true → ∀ x ∈ l, odd x = false) (fun _ x hx => by simp at hx) (fun l b ih h => ?_) l
  rw [accH_snoc, okH_or _ _ (accH_lt l) (kindB_lt b), Bool.and_eq_true] at h
  intro x hx
  rcases List.mem_append.1 hx with hx | hx
  · exact ih h.1 x hx
  · have e : x = b := by simpa using hx
    subst e
    exact okH_kind x h.2
theorem over_facts (n h : Nat) (ho : valO n h = true) : okH h = true ∧ odd (Fl.canon (valW n h)) = true := by
  unfold valO at ho
  unfold valW
  split at ho
  · cases ho
  · rename_i h1
    rw [if_neg h1]
    split at ho
    · cases ho
    · rename_i h2
      rw [if_neg h2]
      split at ho
      · cases ho
      · rename_i h3
        rw [if_neg h3]
        split at ho
        · cases ho
        · rename_i h4
          rw [if_neg h4]
          obtain ⟨e1, e2, e3⟩ := nearest_word (sgn n) (mag n)
          rw [decide_eq_true_eq] at ho
          refine ⟨decide_eq_true (by omega), ?_⟩
          rw [Fl.canon_num _ e3]
          unfold odd
          rw [e3, e1, Nat.min_eq_right ho]
          rfl
end Go.Proofs.Ythklamgdoknmeaa
