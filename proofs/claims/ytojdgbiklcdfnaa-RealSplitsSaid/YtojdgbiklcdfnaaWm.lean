/-
  What the functions of package math give that the layer real's laws call, said of the words of their arguments.
-/
import Derived.Test.YtojdgbiklcdfnaaWa
import Derived.Test.YtojdgbiklcdfnaaFm
namespace Go.Proofs.Ytojdgbiklcdfnaa
open Go.RowKit

set_option maxHeartbeats 400000 in
theorem abs_any (b : Nat) (hb : b < 18446744073709551616) (w : World) :
    Calls Try.prog 33 #[.float .f64 b] w fun e w' => e = .returned (.float .f64 (Fl.rung b)) ∧ w = w' := by
  have xf := fb_run
  have xt := tb_run
  have h := Fl.andNot_sign b hb
  go_enter Try.func33, Try.ntmps33
  go_wp2
  go_ret
  exact ⟨ret_eq (by simp), rfl⟩

set_option maxHeartbeats 400000 in
theorem isInf_any (b : Nat) (hb : b < 18446744073709551616) (w : World) :
    Calls Try.prog 29 #[.float .f64 b, .int .i64 0] w fun e w' => e = .returned (.bool (decide (Fl.rung b = 9218868437227405312))) ∧ w = w' := by
  go_enter Try.func29, Try.ntmps29
  go_wp2_with (go_at_call 33; refine (abs_any _ (by assumption) _).mono ?_; rintro e w' ⟨rfl, rfl⟩)
  go_ret
  exact ⟨ret_eq (congrArg Value.bool (Fl.isinf b)), rfl⟩

set_option maxHeartbeats 400000 in
theorem signbit_any (b : Nat) (hb : b < 18446744073709551616) (w : World) :
    Calls Try.prog 30 #[.float .f64 b] w fun e w' => e = .returned (.bool (decide (9223372036854775808 ≤ b))) ∧ w = w' := by
  have xt := tb_run
  go_enter Try.func30, Try.ntmps30
  go_wp2
  go_ret
  refine ⟨ret_eq (congrArg Value.bool ?_), rfl⟩
  unfold wrap64
  rw [decide_eq_decide]
  omega

set_option maxHeartbeats 400000 in
theorem normalize_any (b : Nat) (hb : b < 9218868437227405312) (h1 : 4607182418800017408 ≤ b) (w : World) :
    Calls Try.prog 37 #[.float .f64 b] w fun e w' => e = .returned (.tuple #[.float .f64 b, .int .i64 0]) ∧ w = w' := by
  have hb' : b < 18446744073709551616 := by omega
  have hr : Fl.rung b = b := Fl.nonneg_rung b (by omega)
  have hk : (FloatKind.f64.format.order b 4503599627370496 == some .lt) = false := by
    rw [Fl.ord_lt b _ hb' (by decide) (by unfold Fl.nan; rw [hr]; exact decide_eq_false (by omega)) (by decide)]
    have e1 : Fl.key b = (b : Int) := by unfold Fl.key; rw [if_neg (by omega), hr]
    have e2 : Fl.key 4503599627370496 = 4503599627370496 := by decide +kernel
    rw [e1, e2]; exact decide_eq_false (by omega)
  go_enter Try.func37, Try.ntmps37
  go_wp2_with (go_at_call 33; refine (abs_any _ (by assumption) _).mono ?_; rintro e w' ⟨rfl, rfl⟩)
  go_ret2
  exact ⟨rfl, rfl⟩

theorem pos_facts (F : Nat) (h : F < 9218868437227405312) (h0 : 0 < F) : Fl.nan F = false ∧ decide (Fl.rung F = 9218868437227405312) = false ∧ (FloatKind.f64.format.order F 0 == some .eq) = false := by
  have hr : Fl.rung F = F := Fl.nonneg_rung F (by omega)
  have n0 : Fl.nan F = false := by unfold Fl.nan; rw [hr]; exact decide_eq_false (by omega)
  refine ⟨n0, by rw [hr]; exact decide_eq_false (by omega), ?_⟩
  rw [Fl.ord_eq F 0 (by omega) (by decide) n0 (by decide)]
  have e1 : Fl.key F = (F : Int) := by unfold Fl.key; rw [if_neg (by omega), hr]
  have e2 : Fl.key 0 = 0 := by decide +kernel
  rw [e1, e2]; exact decide_eq_false (by omega)

set_option maxHeartbeats 400000 in
theorem ldexp_norm (m s : Nat) (hm : m < 9007199254740992) (h1 : 4503599627370496 ≤ m) (hs : s ≤ 2045) (w : World) :
    Calls Try.prog 35 #[.float .f64 (Fl.ofNat m), .int .i64 ((s : Int) - 1074)] w fun e w' => e = .returned (.float .f64 (s * 4503599627370496 + m)) ∧ w = w' := by
  obtain ⟨f1, f2, f3, f4, f5⟩ := Fl.ofNat_facts m hm (by omega)
  rw [Fl.log2_eq52 m hm h1] at f2 f3
  generalize Fl.ofNat m = F at *
  clear f1
  obtain ⟨p1, p2, p3⟩ := pos_facts F f4 (by omega)
  have hF : F < 18446744073709551616 := by omega
  have xf := fb_run
  have xt := tb_run
  have b1 : bits .and .i64 ((F : Int) / 4503599627370496) 2047 = 1075 := by
    have h := Fl.and_exp_int (F / 4503599627370496) (by omega)
    rw [Int.natCast_ediv] at h
    refine h.trans ?_
    omega
  have b2 : bits .andNot .u64 (F : Int) 9218868437227405312 = ((m - 4503599627370496 : Nat) : Int) := by
    rw [Fl.andNot_exp F (by omega)]; omega
  have b3 : F / 4503599627370496 < 9223372036854775808 := by omega
  clear f2 f3
  obtain ⟨R, hR⟩ : ∃ R : Nat, R = s * 4503599627370496 + m := ⟨_, rfl⟩
  have b4 : bits .or .u64 ((m - 4503599627370496 : Nat) : Int) (((s : Int) - 1074 + 52 + 1023) * 4503599627370496) = (R : Int) := by
    have h := Fl.or_exp (m - 4503599627370496) (s + 1) (by omega) (by omega)
    rw [show ((s : Int) - 1074 + 52 + 1023) = ((s + 1 : Nat) : Int) by omega, h, hR]
    omega
  have b5 : ∀ w, (binOp .mul 23 (.float .f64 4607182418800017408) (.float .f64 R)).run Try.prog w = .ok (.float .f64 R) w := fun w => run_float_arith w .mul _ .f64 _ _ _ (Fl.mul_one_word R (by omega))
  have HR : Hid (R = s * 4503599627370496 + m) := hR
  clear hR
  go_enter Try.func35, Try.ntmps35
  go_wp2_with (first
    | (go_at_call 29; refine (isInf_any _ (by assumption) _).mono ?_; rintro e w' ⟨rfl, rfl⟩)
    | (go_at_call 28; refine (isNaN_any _ (by assumption) _).mono ?_; rintro e w' ⟨rfl, rfl⟩)
    | (go_at_call 37; refine (normalize_any _ (by assumption) (by assumption) _).mono ?_; rintro e w' ⟨rfl, rfl⟩))
  go_ret
  exact ⟨ret_eq (by rw [← HR.out]; rfl), rfl⟩

set_option maxHeartbeats 400000 in
theorem ldexp_sub (m s : Nat) (hm : m < 4503599627370496) (h1 : 0 < m) (hs : s ≤ 0) (w : World) :
    Calls Try.prog 35 #[.float .f64 (Fl.ofNat m), .int .i64 ((s : Int) - 1074)] w fun e w' => e = .returned (.float .f64 m) ∧ w = w' := by
  obtain ⟨f1, f2, f3, f4, f5⟩ := Fl.ofNat_facts m (by omega) (by omega)
  have hL := Fl.log2_lt52 m hm (by omega)
  have hT := Fl.scaled52 m (by omega) (by omega)
  have hM := Fl.mul_sub_word m hm (by omega)
  generalize Fl.ofNat m = F at *
  generalize m * 2 ^ (52 - m.log2) = T at *
  generalize m.log2 = L at *
  clear f1
  obtain ⟨p1, p2, p3⟩ := pos_facts F f4 (by omega)
  have hF : F < 18446744073709551616 := by omega
  have xf := fb_run
  have xt := tb_run
  have b1 : bits .and .i64 ((F : Int) / 4503599627370496) 2047 = (L : Int) + 1023 := by
    have h := Fl.and_exp_int (F / 4503599627370496) (by omega)
    rw [Int.natCast_ediv] at h
    refine h.trans ?_
    omega
  have b2 : bits .andNot .u64 (F : Int) 9218868437227405312 = ((T - 4503599627370496 : Nat) : Int) := by
    rw [Fl.andNot_exp F (by omega)]; omega
  have b3 : F / 4503599627370496 < 9223372036854775808 := by omega
  clear f2 f3
  obtain ⟨R, hR⟩ : ∃ R : Nat, R = (L + 1) * 4503599627370496 + T := ⟨_, rfl⟩
  have b4 : bits .or .u64 ((T - 4503599627370496 : Nat) : Int) (((s : Int) - 1074 + (L : Int) + 53 + 1023) * 4503599627370496) = (R : Int) := by
    have h := Fl.or_exp (T - 4503599627370496) (L + 2) (by omega) (by omega)
    rw [show ((s : Int) - 1074 + (L : Int) + 53 + 1023) = ((L + 2 : Nat) : Int) by omega, h, hR]
    omega
  rw [← hR] at hM
  have b5 : ∀ w, (binOp .mul 23 (.float .f64 4368491638549381120) (.float .f64 R)).run Try.prog w = .ok (.float .f64 m) w := fun w => run_float_arith w .mul _ .f64 _ _ _ hM
  clear hM hR
  go_enter Try.func35, Try.ntmps35
  go_wp2_with (first
    | (go_at_call 29; refine (isInf_any _ (by assumption) _).mono ?_; rintro e w' ⟨rfl, rfl⟩)
    | (go_at_call 28; refine (isNaN_any _ (by assumption) _).mono ?_; rintro e w' ⟨rfl, rfl⟩)
    | (go_at_call 37; refine (normalize_any _ (by assumption) (by assumption) _).mono ?_; rintro e w' ⟨rfl, rfl⟩))
  go_ret
  exact ⟨rfl, rfl⟩

set_option maxHeartbeats 400000 in
theorem ldexp_zero (x : Int) (w : World) :
    Calls Try.prog 35 #[.float .f64 0, .int .i64 x] w fun e w' => e = .returned (.float .f64 0) ∧ w = w' := by
  have h0 : (FloatKind.f64.format.order 0 0 == some .eq) = true := by decide +kernel
  go_enter Try.func35, Try.ntmps35
  go_wp2
  go_ret
  exact ⟨rfl, rfl⟩

theorem ldexp_rung (r : Nat) (hr : r < 9218868437227405312) (w : World) :
    Calls Try.prog 35 #[.float .f64 (Fl.ofNat (Fl.mant r)), .int .i64 ((Fl.shf r : Int) - 1074)] w fun e w' => e = .returned (.float .f64 r) ∧ w = w' := by
  have hm := Fl.mant_lt r
  have hs := Fl.shf_mant r
  by_cases h0 : r < 4503599627370496
  · have e1 : Fl.mant r = r := by unfold Fl.mant; rw [if_pos h0]
    have e2 : Fl.shf r = 0 := by unfold Fl.shf; rw [if_pos h0]
    rw [e1]
    by_cases h1 : r = 0
    · subst h1
      exact ldexp_zero _ w
    · exact ldexp_sub r _ h0 (by omega) (by omega) w
  · have e1 : 4503599627370496 ≤ Fl.mant r := by unfold Fl.mant; rw [if_neg h0]; omega
    have h := ldexp_norm (Fl.mant r) (Fl.shf r) hm e1 (by omega) w
    rw [hs] at h
    exact h

set_option maxHeartbeats 400000 in
theorem mldexp_rung (r : Nat) (hr : r < 9218868437227405312) (w : World) :
    Calls Try.prog 31 #[.float .f64 (Fl.ofNat (Fl.mant r)), .int .i64 ((Fl.shf r : Int) - 1074)] w fun e w' => e = .returned (.float .f64 r) ∧ w = w' := by
  go_enter Try.func31, Try.ntmps31
  go_wp2_with (go_at_call 35; refine (ldexp_rung _ (by assumption) _).mono ?_; rintro e w' ⟨rfl, rfl⟩)
  go_ret
  exact ⟨rfl, rfl⟩

theorem neg_pos (r : Nat) (hr : r < 9218868437227405312) : Op.negFloat .f64 r = r + 9223372036854775808 := by
  show r ^^^ 2 ^ 63 = _
  rw [Nat.add_comm]
  have h1 := Nat.two_pow_add_eq_or_of_lt (i := 63) (b := r) (by omega) 1
  have h2 : 9223372036854775808 + r = 9223372036854775808 ||| r := by simpa using h1
  rw [h2]
  apply Nat.eq_of_testBit_eq
  intro i
  rw [Nat.testBit_xor, Nat.testBit_or, show (9223372036854775808 : Nat) = 2 ^ 63 by decide]
  simp only [Nat.testBit_two_pow]
  by_cases hi : 63 = i
  · subst hi
    rw [Nat.testBit_lt_two_pow (show r < 2 ^ 63 by omega)]; rfl
  · simp [hi]

end Go.Proofs.Ytojdgbiklcdfnaa
