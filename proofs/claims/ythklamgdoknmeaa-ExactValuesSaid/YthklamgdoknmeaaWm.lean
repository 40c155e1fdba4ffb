/-
  What the functions of package math give that the layer real's laws call, said of the words of their arguments.
-/
import Derived.Test.YthklamgdoknmeaaWa
import Derived.Test.YthklamgdoknmeaaFm
namespace Go.Proofs.Ythklamgdoknmeaa
open Go.RowKit

set_option maxHeartbeats 400000 in
theorem abs_any (b : Nat) (hb : b < 18446744073709551616) (w : World) :
    Calls Try.prog 97 #[.float .f64 b] w fun e w' => e = .returned (.float .f64 (Fl.rung b)) ∧ w = w' := by
  have xf := fb_run
  have xt := tb_run
  have h := Fl.andNot_sign b hb
  go_enter Try.func97, Try.ntmps97
  go_wp2
  go_ret
  exact ⟨ret_eq (by simp), rfl⟩

set_option maxHeartbeats 400000 in
theorem isInf_any (b : Nat) (hb : b < 18446744073709551616) (w : World) :
    Calls Try.prog 95 #[.float .f64 b, .int .i64 0] w fun e w' => e = .returned (.bool (decide (Fl.rung b = 9218868437227405312))) ∧ w = w' := by
  go_enter Try.func95, Try.ntmps95
  go_wp2_with (go_at_call 97; refine (abs_any _ (by assumption) _).mono ?_; rintro e w' ⟨rfl, rfl⟩)
  go_ret
  exact ⟨ret_eq (congrArg Value.bool (Fl.isinf b)), rfl⟩

set_option maxHeartbeats 400000 in
theorem signbit_any (b : Nat) (hb : b < 18446744073709551616) (w : World) :
    Calls Try.prog 96 #[.float .f64 b] w fun e w' => e = .returned (.bool (decide (9223372036854775808 ≤ b))) ∧ w = w' := by
  have xt := tb_run
  go_enter Try.func96, Try.ntmps96
  go_wp2
  go_ret
  refine ⟨ret_eq (congrArg Value.bool ?_), rfl⟩
  unfold wrap64
  rw [decide_eq_decide]
  omega

theorem pos_facts (F : Nat) (h : F < 9218868437227405312) (h0 : 0 < F) : Fl.nan F = false ∧ decide (Fl.rung F = 9218868437227405312) = false ∧ (FloatKind.f64.format.order F 0 == some .eq) = false := by
  have hr : Fl.rung F = F := Fl.nonneg_rung F (by omega)
  have n0 : Fl.nan F = false := by unfold Fl.nan; rw [hr]; exact decide_eq_false (by omega)
  refine ⟨n0, by rw [hr]; exact decide_eq_false (by omega), ?_⟩
  rw [Fl.ord_eq F 0 (by omega) (by decide) n0 (by decide)]
  have e1 : Fl.key F = (F : Int) := by unfold Fl.key; rw [if_neg (by omega), hr]
  have e2 : Fl.key 0 = 0 := by decide +kernel
  rw [e1, e2]; exact decide_eq_false (by omega)

theorem neg_pos (r : Nat) (hr : r < 9218868437227405312) : Op.negFloat .f64 r = r + 9223372036854775808 := by
  show r ^^^ 2 ^ 63 = _
  rw [Nat.add_comm]
  have h1 := Nat.two_pow_add_eq_or_of_lt (i := 63) (b := r) (by omega) 1
  have h2 : 9223372036854775808 + r = 9223372036854775808 ||| r := by simpa using h1
  rw [h2]
  apply Nat.eq_of_testBit_eq
  intro i
  rw [Nat.testBit_xor, Nat.testBit_or, show (9223372036854775808 : Nat) = 2 ^ 63 by decide]
  simp only [Nat.testBit_two_pow]
  by_cases hi : 63 = i
  · subst hi
    rw [Nat.testBit_lt_two_pow (show r < 2 ^ 63 by omega)]; rfl
  · simp [hi]

end Go.Proofs.Ythklamgdoknmeaa
