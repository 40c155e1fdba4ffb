/-
  What each function of the layer real, of its document's answers and of the math functions that they call gives, said of the words of its arguments.
-/
import Derived.Test.YtoeknpaogeelmaaRows
import Derived.Test.YtoeknpaogeelmaaFl
import Derived.WalkKit
import Derived.WalkSpells
import Derived.WalkLawsBesides
import Derived.Laws.Bits64b
namespace Go.Proofs.Ytoeknpaogeelmaa
open Go.RowKit

theorem ret_eq {v v' : Value} (h : v = v') : Ending.returned v = Ending.returned v' := by rw [h]
theorem fmt64 : FloatKind.f64.format = Ieee.double := rfl

theorem tb_run (b : Nat) (w : World) : (callFunc 25 #[.float .f64 b]).run Try.prog w = .ok (.value (.int .u64 b)) w := by
  rw [run_callFunc_extern Try.func25 (by kernel_rfl) (by kernel_rfl) (by kernel_rfl) (e := Extern.MathFloatBits.float64bits) (by kernel_rfl)]
  rfl

set_option maxHeartbeats 400000 in
theorem refBits_any (b : Nat) (hb : b < 18446744073709551616) (w : World) :
    Calls Try.prog 23 #[.float .f64 b] w fun e w' => e = .returned (.int .u64 (Fl.canon b : Nat)) ∧ w = w' := by
  have xt := tb_run
  go_enter Try.func23, Try.ntmps23
  go_wp2
  all_goals
    go_ret
    refine ⟨ret_eq ?_, rfl⟩
    unfold Fl.canon Fl.nan Fl.rung
  · rename_i h1 h2
    have h3 : (b : Int) % 4503599627370496 ≠ 0 := bne_iff_ne.1 h2
    rw [if_pos (by rw [decide_eq_true_eq]; omega)]; rfl
  · rename_i h1 h2
    have h3 : (b : Int) % 4503599627370496 = 0 := by simpa using h2
    rw [if_neg (by rw [decide_eq_true_eq]; omega)]; rfl
  · rename_i h1
    rw [if_neg (by rw [decide_eq_true_eq]; omega)]; rfl

theorem cast_beq (x y : Nat) : ((x : Int) == (y : Int)) = decide (x = y) := by
  rw [Bool.eq_iff_iff, beq_iff_eq, decide_eq_true_eq]; omega
theorem cast_lt (x y : Nat) : decide ((x : Int) < (y : Int)) = decide (x < y) := by
  rw [Bool.eq_iff_iff, decide_eq_true_eq, decide_eq_true_eq]; omega

set_option maxHeartbeats 400000 in
theorem refSame_any (a b : Nat) (ha : a < 18446744073709551616) (hb : b < 18446744073709551616) (w : World) :
    Calls Try.prog 20 #[.float .f64 a, .float .f64 b] w fun e w' => e = .returned (.bool (decide (Fl.canon a = Fl.canon b))) ∧ w = w' := by
  go_enter Try.func20, Try.ntmps20
  go_wp2_with (go_at_call 23; refine (refBits_any _ (by assumption) _).mono ?_; rintro e w' ⟨rfl, rfl⟩)
  go_ret
  exact ⟨ret_eq (congrArg Value.bool (cast_beq _ _)), rfl⟩

theorem sign_bool (b : Nat) (hb : b < 18446744073709551616) : (bits .and .u64 (b : Int) 9223372036854775808 != 0) = decide (9223372036854775808 ≤ b) := by
  rw [Fl.and_sign b hb]
  by_cases h : 9223372036854775808 ≤ b <;> simp [h]

end Go.Proofs.Ytoeknpaogeelmaa
