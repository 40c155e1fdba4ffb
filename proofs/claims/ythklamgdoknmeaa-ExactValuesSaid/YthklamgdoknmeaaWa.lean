/-
  What each function of the layer real, of its document's answers and of the math functions that they call gives, said of the words of its arguments.
-/
import Derived.Test.YthklamgdoknmeaaRows
import Derived.Test.YthklamgdoknmeaaFl
import Derived.WalkKit
import Derived.WalkSpells
import Derived.WalkLawsBesides
import Derived.Laws.Bits64b
namespace Go.Proofs.Ythklamgdoknmeaa
open Go.RowKit

theorem ret_eq {v v' : Value} (h : v = v') : Ending.returned v = Ending.returned v' := by rw [h]
theorem fmt64 : FloatKind.f64.format = Ieee.double := rfl

theorem fb_run (n : Int) (w : World) : (callFunc 54 #[.int .u64 n]).run Try.prog w = .ok (.value (.float .f64 n.toNat)) w := by
  rw [run_callFunc_extern Try.func54 (by kernel_rfl) (by kernel_rfl) (by kernel_rfl) (e := Extern.MathFloatBits.float64frombits) (by kernel_rfl)]
  rfl
theorem tb_run (b : Nat) (w : World) : (callFunc 74 #[.float .f64 b]).run Try.prog w = .ok (.value (.int .u64 b)) w := by
  rw [run_callFunc_extern Try.func74 (by kernel_rfl) (by kernel_rfl) (by kernel_rfl) (e := Extern.MathFloatBits.float64bits) (by kernel_rfl)]
  rfl

set_option maxHeartbeats 400000 in
theorem isNaN_any (b : Nat) (hb : b < 18446744073709551616) (w : World) :
    Calls Try.prog 73 #[.float .f64 b] w fun e w' => e = .returned (.bool (Fl.nan b)) ∧ w = w' := by
  have xf := fb_run
  have xt := tb_run
  go_enter Try.func73, Try.ntmps73
  go_wp2
  go_ret
  exact ⟨ret_eq (congrArg Value.bool (Fl.ne_self b hb)), rfl⟩

set_option maxHeartbeats 400000 in
theorem canon_any (b : Nat) (hb : b < 18446744073709551616) (w : World) :
    Calls Try.prog 44 #[.float .f64 b] w fun e w' => e = .returned (.float .f64 (Fl.canon b)) ∧ w = w' := by
  cases h : Fl.nan b
  all_goals
    have h2 : Hid (Fl.nan b = _) := h
    have xf := fb_run
    have xt := tb_run
    go_enter Try.func44, Try.ntmps44
    go_wp2_with (go_at_call 73; refine (isNaN_any _ hb _).mono ?_; rintro e w' ⟨rfl, rfl⟩)
    go_ret
    exact ⟨ret_eq (by simp [Fl.canon, h2.out]), rfl⟩

set_option maxHeartbeats 400000 in
theorem bits_any (b : Nat) (hb : b < 18446744073709551616) (w : World) :
    Calls Try.prog 59 #[.float .f64 b] w fun e w' => e = .returned (.int .u64 (Fl.canon b : Nat)) ∧ w = w' := by
  have xt := tb_run
  go_enter Try.func59, Try.ntmps59
  go_wp2_with (go_at_call 44; refine (canon_any _ hb _).mono ?_; rintro e w' ⟨rfl, rfl⟩)
  go_ret
  exact ⟨rfl, rfl⟩

set_option maxHeartbeats 400000 in
theorem of_any (b : Nat) (hb : b < 18446744073709551616) (w : World) :
    Calls Try.prog 56 #[.int .u64 b] w fun e w' => e = .returned (.float .f64 (Fl.canon b)) ∧ w = w' := by
  have xf := fb_run
  go_enter Try.func56, Try.ntmps56
  go_wp2_with (go_at_call 44; refine (canon_any _ hb _).mono ?_; rintro e w' ⟨rfl, rfl⟩)
  go_ret
  exact ⟨rfl, rfl⟩

set_option maxHeartbeats 400000 in
theorem refBits_any (b : Nat) (hb : b < 18446744073709551616) (w : World) :
    Calls Try.prog 57 #[.float .f64 b] w fun e w' => e = .returned (.int .u64 (Fl.canon b : Nat)) ∧ w = w' := by
  have xt := tb_run
  go_enter Try.func57, Try.ntmps57
  go_wp2
  all_goals
    go_ret
    refine ⟨ret_eq ?_, rfl⟩
    unfold Fl.canon Fl.nan Fl.rung
  · rename_i h1 h2
    have h3 : (b : Int) % 4503599627370496 ≠ 0 := bne_iff_ne.1 h2
    rw [if_pos (by rw [decide_eq_true_eq]; omega)]; rfl
  · rename_i h1 h2
    have h3 : (b : Int) % 4503599627370496 = 0 := by simpa using h2
    rw [if_neg (by rw [decide_eq_true_eq]; omega)]; rfl
  · rename_i h1
    rw [if_neg (by rw [decide_eq_true_eq]; omega)]; rfl

set_option maxHeartbeats 400000 in
theorem refOf_any (b : Nat) (hb : b < 18446744073709551616) (w : World) :
    Calls Try.prog 49 #[.int .u64 b] w fun e w' => e = .returned (.float .f64 (Fl.canon b)) ∧ w = w' := by
  have xf := fb_run
  go_enter Try.func49, Try.ntmps49
  go_wp2_with (go_at_call 57; refine (refBits_any _ hb _).mono ?_; rintro e w' ⟨rfl, rfl⟩)
  go_ret
  exact ⟨rfl, rfl⟩

theorem cast_beq (x y : Nat) : ((x : Int) == (y : Int)) = decide (x = y) := by
  rw [Bool.eq_iff_iff, beq_iff_eq, decide_eq_true_eq]; omega
theorem cast_lt (x y : Nat) : decide ((x : Int) < (y : Int)) = decide (x < y) := by
  rw [Bool.eq_iff_iff, decide_eq_true_eq, decide_eq_true_eq]; omega

set_option maxHeartbeats 400000 in
theorem refSame_any (a b : Nat) (ha : a < 18446744073709551616) (hb : b < 18446744073709551616) (w : World) :
    Calls Try.prog 39 #[.float .f64 a, .float .f64 b] w fun e w' => e = .returned (.bool (decide (Fl.canon a = Fl.canon b))) ∧ w = w' := by
  go_enter Try.func39, Try.ntmps39
  go_wp2_with (go_at_call 57; refine (refBits_any _ (by assumption) _).mono ?_; rintro e w' ⟨rfl, rfl⟩)
  go_ret
  exact ⟨ret_eq (congrArg Value.bool (cast_beq _ _)), rfl⟩

set_option maxHeartbeats 400000 in
theorem same_any (a b : Nat) (ha : a < 18446744073709551616) (hb : b < 18446744073709551616) (w : World) :
    Calls Try.prog 71 #[.float .f64 a, .float .f64 b] w fun e w' => e = .returned (.bool (decide (Fl.canon a = Fl.canon b))) ∧ w = w' := by
  go_enter Try.func71, Try.ntmps71
  go_wp2_with (go_at_call 59; refine (bits_any _ (by assumption) _).mono ?_; rintro e w' ⟨rfl, rfl⟩)
  go_ret
  exact ⟨ret_eq (congrArg Value.bool (cast_beq _ _)), rfl⟩

set_option maxHeartbeats 400000 in
theorem rank_any (b : Nat) (hb : b < 18446744073709551616) (w : World) :
    Calls Try.prog 91 #[.float .f64 b] w fun e w' => e = .returned (.int .u64 (Fl.rank b : Nat)) ∧ w = w' := by
  have hc := Fl.canon_lt b hb
  go_enter Try.func91, Try.ntmps91
  go_wp2_with (go_at_call 59; refine (bits_any _ hb _).mono ?_; rintro e w' ⟨rfl, rfl⟩)
  all_goals
    go_ret
    refine ⟨ret_eq ?_, rfl⟩
    unfold Fl.rank
  · have h1 : (bits .and .u64 (Fl.canon b : Int) 9223372036854775808 != 0) = true := by assumption
    have h2 : 9223372036854775808 ≤ Fl.canon b := by
      by_cases h : 9223372036854775808 ≤ Fl.canon b
      · exact h
      · rw [Fl.and_sign _ hc, if_neg h] at h1; exact absurd h1 (by decide)
    rw [if_pos h2]
    exact congrArg (Value.int .u64) (Fl.xor_all _ hc)
  · have h1 : (bits .and .u64 (Fl.canon b : Int) 9223372036854775808 != 0) = false := by assumption
    have h2 : ¬ 9223372036854775808 ≤ Fl.canon b := by
      intro h
      rw [Fl.and_sign _ hc, if_pos h] at h1; exact absurd h1 (by decide)
    rw [if_neg h2]
    exact congrArg (Value.int .u64) (Fl.or_sign _ (by omega))

set_option maxHeartbeats 400000 in
theorem less_any (a b : Nat) (ha : a < 18446744073709551616) (hb : b < 18446744073709551616) (w : World) :
    Calls Try.prog 81 #[.float .f64 a, .float .f64 b] w fun e w' => e = .returned (.bool (decide (Fl.rank a < Fl.rank b))) ∧ w = w' := by
  go_enter Try.func81, Try.ntmps81
  go_wp2_with (go_at_call 91; refine (rank_any _ (by assumption) _).mono ?_; rintro e w' ⟨rfl, rfl⟩)
  go_ret
  exact ⟨rfl, rfl⟩

set_option maxHeartbeats 400000 in
theorem before_any (a b : Nat) (ha : a < 18446744073709551616) (hb : b < 18446744073709551616) (w : World) :
    Calls Try.prog 38 #[.float .f64 a, .float .f64 b] w fun e w' => e = .returned (.bool (decide (Fl.rank a < Fl.rank b))) ∧ w = w' := by
  have hca := Fl.canon_lt a ha
  have hcb := Fl.canon_lt b hb
  go_enter Try.func38, Try.ntmps38
  go_wp2_with (go_at_call 57; refine (refBits_any _ (by assumption) _).mono ?_; rintro e w' ⟨rfl, rfl⟩)
  all_goals
    go_ret
    refine ⟨ret_eq (congrArg Value.bool ?_), rfl⟩
    simp only [beq_iff_eq, bne_iff_ne, beq_eq_false_iff_ne, bne_eq_false_iff_eq, ne_eq] at *
    have ra := Fl.rank_cases a
    have rb := Fl.rank_cases b
    have ca := Fl.canon_cases a
    have cb := Fl.canon_cases b
    rw [Bool.eq_iff_iff]
    simp only [decide_eq_true_eq, beq_iff_eq, Bool.false_eq_true, false_iff, true_iff]
    omega

set_option maxHeartbeats 400000 in
theorem min_any (a b : Nat) (ha : a < 18446744073709551616) (hb : b < 18446744073709551616) (w : World) :
    Calls Try.prog 60 #[.float .f64 a, .float .f64 b] w fun e w' => e = .returned (.float .f64 (Fl.minv a b)) ∧ w = w' := by
  cases hd : decide (Fl.rank b < Fl.rank a)
  all_goals
    have h0 : Hid (decide (Fl.rank b < Fl.rank a) = _) := hd
    go_enter Try.func60, Try.ntmps60
    go_wp2_with (first | (go_at_call 81; refine (less_any _ _ hb ha _).mono ?_; rintro e w' ⟨rfl, rfl⟩) | (go_at_call 44; refine (canon_any _ (by assumption) _).mono ?_; rintro e w' ⟨rfl, rfl⟩))
    go_ret
    exact ⟨ret_eq (by have h := h0.out; simp only [decide_eq_true_eq, decide_eq_false_iff_not] at h; simp [Fl.minv, h]), rfl⟩

set_option maxHeartbeats 400000 in
theorem max_any (a b : Nat) (ha : a < 18446744073709551616) (hb : b < 18446744073709551616) (w : World) :
    Calls Try.prog 61 #[.float .f64 a, .float .f64 b] w fun e w' => e = .returned (.float .f64 (Fl.maxv a b)) ∧ w = w' := by
  cases hd : decide (Fl.rank a < Fl.rank b)
  all_goals
    have h0 : Hid (decide (Fl.rank a < Fl.rank b) = _) := hd
    go_enter Try.func61, Try.ntmps61
    go_wp2_with (first | (go_at_call 81; refine (less_any _ _ ha hb _).mono ?_; rintro e w' ⟨rfl, rfl⟩) | (go_at_call 44; refine (canon_any _ (by assumption) _).mono ?_; rintro e w' ⟨rfl, rfl⟩))
    go_ret
    exact ⟨ret_eq (by have h := h0.out; simp only [decide_eq_true_eq, decide_eq_false_iff_not] at h; simp [Fl.maxv, h]), rfl⟩

theorem sign_bool (b : Nat) (hb : b < 18446744073709551616) : (bits .and .u64 (b : Int) 9223372036854775808 != 0) = decide (9223372036854775808 ≤ b) := by
  rw [Fl.and_sign b hb]
  by_cases h : 9223372036854775808 ≤ b <;> simp [h]

set_option maxHeartbeats 400000 in
theorem split_bad (b : Nat) (hb : b < 18446744073709551616) (hr : 9218868437227405312 ≤ Fl.rung b) (w : World) :
    Calls Try.prog 87 #[.float .f64 b] w fun e w' => e = .returned (.tuple #[.bool false, .int .u64 0, .int .i64 0, .bool false]) ∧ w = w' := by
  have hc := Fl.canon_lt b hb
  have x1 := Fl.and_exp (Fl.canon b) hc
  have x2 : ((Fl.canon b : Int) / 4503599627370496 % 2048 == 2047) = true := by
    rw [beq_iff_eq]; unfold Fl.canon Fl.nan; unfold Fl.rung at *; split
    · omega
    · rename_i h; rw [decide_eq_true_eq] at h; omega
  go_enter Try.func87, Try.ntmps87
  go_wp2_with (go_at_call 59; refine (bits_any _ hb _).mono ?_; rintro e w' ⟨rfl, rfl⟩)
  exact bodyPost_ret (v := .tuple #[.bool false, .int .u64 0, .int .i64 0, .bool false]) (by simp [results, Try.results87, go_sem]) rfl ⟨rfl, rfl⟩

set_option maxHeartbeats 400000 in
theorem split_small (b : Nat) (hb : b < 18446744073709551616) (hr : Fl.rung b < 4503599627370496) (w : World) :
    Calls Try.prog 87 #[.float .f64 b] w fun e w' => e = .returned (.tuple #[.bool (decide (9223372036854775808 ≤ b)), .int .u64 (Fl.mant (Fl.rung b) : Nat), .int .i64 (Fl.shf (Fl.rung b) : Nat), .bool true]) ∧ w = w' := by
  have hcc : Fl.canon b = b := by unfold Fl.canon Fl.nan; rw [if_neg]; rw [decide_eq_true_eq]; omega
  have hC : Hid (Fl.canon b = b) := hcc
  have x1 := Fl.and_exp b hb
  have x2 : ((b : Int) / 4503599627370496 % 2048 == 2047) = false := by
    rw [beq_eq_false_iff_ne]; unfold Fl.rung at hr; omega
  have x3 : ((b : Int) / 4503599627370496 % 2048 == 0) = true := by
    rw [beq_iff_eq]; unfold Fl.rung at hr; omega
  have e1 : Hid (bits .and .u64 (b : Int) 4503599627370495 = (Fl.mant (Fl.rung b) : Nat)) := by
    show _ = _
    rw [Fl.and_frac b hb]; unfold Fl.mant; rw [if_pos hr]; unfold Fl.rung at *; omega
  have e2 : Hid ((0 : Int) = (Fl.shf (Fl.rung b) : Nat)) := by
    show _ = _
    unfold Fl.shf; rw [if_pos hr]; rfl
  go_enter Try.func87, Try.ntmps87
  go_wp2_with (go_at_call 59; refine (bits_any _ hb _).mono ?_; rintro e w' ⟨rfl, rfl⟩)
  refine bodyPost_ret (v := .tuple #[.bool (bits .and .u64 (b : Int) 9223372036854775808 != 0), .int .u64 (bits .and .u64 (b : Int) 4503599627370495), .int .i64 0, .bool true]) (by simp [results, Try.results87, go_sem]) rfl ⟨ret_eq ?_, rfl⟩
  rw [sign_bool b hb, e1.out, e2.out]

set_option maxHeartbeats 400000 in
theorem split_norm (b : Nat) (hb : b < 18446744073709551616) (hr : 4503599627370496 ≤ Fl.rung b) (hi : Fl.rung b < 9218868437227405312) (w : World) :
    Calls Try.prog 87 #[.float .f64 b] w fun e w' => e = .returned (.tuple #[.bool (decide (9223372036854775808 ≤ b)), .int .u64 (Fl.mant (Fl.rung b) : Nat), .int .i64 (Fl.shf (Fl.rung b) : Nat), .bool true]) ∧ w = w' := by
  have hcc : Fl.canon b = b := by unfold Fl.canon Fl.nan; rw [if_neg]; rw [decide_eq_true_eq]; omega
  have x1 := Fl.and_exp b hb
  have x2 : ((b : Int) / 4503599627370496 % 2048 == 2047) = false := by
    rw [beq_eq_false_iff_ne]; unfold Fl.rung at hi; omega
  have x3 : ((b : Int) / 4503599627370496 % 2048 == 0) = false := by
    rw [beq_eq_false_iff_ne]; unfold Fl.rung at hr; omega
  have x4 : (b : Int) / 4503599627370496 % 2048 ≤ 2047 := by omega
  have e1 : Hid (bits .or .u64 (bits .and .u64 (b : Int) 4503599627370495) 4503599627370496 = (Fl.mant (Fl.rung b) : Nat)) := by
    show _ = _
    rw [Fl.and_frac b hb, Fl.or_hidden _ (by omega)]; unfold Fl.mant; rw [if_neg (by omega)]; unfold Fl.rung at *; omega
  have e2 : Hid ((b : Int) / 4503599627370496 % 2048 - 1 = (Fl.shf (Fl.rung b) : Nat)) := by
    show _ = _
    unfold Fl.shf; rw [if_neg (by omega)]; unfold Fl.rung at *; omega
  go_enter Try.func87, Try.ntmps87
  go_wp2_with (go_at_call 59; refine (bits_any _ hb _).mono ?_; rintro e w' ⟨rfl, rfl⟩)
  refine bodyPost_ret (v := .tuple #[.bool (bits .and .u64 (b : Int) 9223372036854775808 != 0), .int .u64 (bits .or .u64 (bits .and .u64 (b : Int) 4503599627370495) 4503599627370496), .int .i64 ((b : Int) / 4503599627370496 % 2048 - 1), .bool true]) (by simp [results, Try.results87, go_sem]) rfl ⟨ret_eq ?_, rfl⟩
  rw [sign_bool b hb, e1.out, e2.out]

end Go.Proofs.Ythklamgdoknmeaa
