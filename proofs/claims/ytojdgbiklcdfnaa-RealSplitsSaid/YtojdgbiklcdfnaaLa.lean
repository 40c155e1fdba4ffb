/-
  The laws of the layer real but for those that go through math.Ldexp and math.Nextafter: each returns true.
-/
import Derived.Test.YtojdgbiklcdfnaaWa
namespace Go.Proofs.Ytojdgbiklcdfnaa
open Go.RowKit

set_option maxHeartbeats 400000 in
theorem inf_neg (w : World) : Calls Try.prog 24 #[.int .i64 (-1)] w fun e w' => e = .returned (.float .f64 18442240474082181120) ∧ w = w' := by
  have xf := fb_run
  go_enter Try.func24, Try.ntmps24
  go_wp2
  go_ret
  exact ⟨rfl, rfl⟩
set_option maxHeartbeats 400000 in
theorem inf_pos (w : World) : Calls Try.prog 24 #[.int .i64 1] w fun e w' => e = .returned (.float .f64 9218868437227405312) ∧ w = w' := by
  have xf := fb_run
  go_enter Try.func24, Try.ntmps24
  go_wp2
  go_ret
  exact ⟨rfl, rfl⟩
set_option maxHeartbeats 400000 in
theorem mnan_any (w : World) : Calls Try.prog 23 #[] w fun e w' => e = .returned (.float .f64 9221120237041090561) ∧ w = w' := by
  have xf := fb_run
  go_enter Try.func23, Try.ntmps23
  go_wp2
  go_ret
  exact ⟨rfl, rfl⟩

theorem split_one (w : World) : Calls Try.prog 27 #[.float .f64 4607182418800017408] w fun e w' => e = .returned (.tuple #[.bool false, .int .u64 4503599627370496, .int .i64 1022, .bool true]) ∧ w = w' := by
  have h := split_norm 4607182418800017408 (by decide) (by decide) (by decide) w
  have e1 : Fl.mant (Fl.rung 4607182418800017408) = 4503599627370496 := by decide +kernel
  have e2 : Fl.shf (Fl.rung 4607182418800017408) = 1022 := by decide +kernel
  rw [e1, e2] at h
  exact h.mono fun e w' h => ⟨h.1.trans rfl, h.2⟩
theorem less_awake (w : World) : Calls Try.prog 19 #[.float .f64 18442240474082181120, .float .f64 13830554455654793216] w fun e w' => e = .returned (.bool true) ∧ w = w' :=
  (less_any 18442240474082181120 13830554455654793216 (by decide) (by decide) w).mono fun e w' h => ⟨h.1.trans (ret_eq (congrArg Value.bool (by decide +kernel))), h.2⟩

set_option maxHeartbeats 400000 in
theorem awake_any (w : World) : Calls Try.prog 11 #[] w fun e w' => e = .returned (.bool true) ∧ w = w' := by
  go_enter Try.func11, Try.ntmps11
  go_wp2_with (first | (go_at_call 27; refine (split_one _).mono ?_; rintro e w' ⟨rfl, rfl⟩) | (go_at_call 24; refine (inf_neg _).mono ?_; rintro e w' ⟨rfl, rfl⟩) | (go_at_call 19; refine (less_awake _).mono ?_; rintro e w' ⟨rfl, rfl⟩))
  go_ret
  exact ⟨rfl, rfl⟩

set_option maxHeartbeats 400000 in
theorem realBits_any (b : Nat) (hb : b < 18446744073709551616) (w : World) : Calls Try.prog 3 #[.int .u64 b] w fun e w' => e = .returned (.bool true) ∧ w = w' := by
  have xf := fb_run
  have xt := tb_run
  have hcl := Fl.canon_lt b hb
  have hcc := Fl.canon_canon b
  go_enter Try.func3, Try.ntmps3
  go_wp2_with (first
        | (go_at_call 11; refine (awake_any _).mono ?_; rintro e w' ⟨rfl, rfl⟩)
        | (go_at_call 12; refine (bits_any _ (by assumption) _).mono ?_; rintro e w' ⟨rfl, rfl⟩)
        | (go_at_call 13; refine (refBits_any _ (by assumption) _).mono ?_; rintro e w' ⟨rfl, rfl⟩)
        | (go_at_call 15; refine (of_any _ (by assumption) _).mono ?_; rintro e w' ⟨rfl, rfl⟩)
        | (go_at_call 16; refine (refOf_any _ (by assumption) _).mono ?_; rintro e w' ⟨rfl, rfl⟩)
        | (go_at_call 18; refine (canon_any _ (by assumption) _).mono ?_; rintro e w' ⟨rfl, rfl⟩)
        | (go_at_call 14; refine (refSame_any _ _ (by assumption) (by assumption) _).mono ?_; rintro e w' ⟨rfl, rfl⟩))
  go_ret
  exact ⟨ret_eq (by simp), rfl⟩

set_option maxHeartbeats 400000 in
theorem realOrder_any (a b : Nat) (ha : a < 18446744073709551616) (hb : b < 18446744073709551616) (w : World) : Calls Try.prog 4 #[.float .f64 a, .float .f64 b] w fun e w' => e = .returned (.bool true) ∧ w = w' := by
  have hi := Fl.rank_inj a b ha hb
  cases d1 : decide (Fl.rank a < Fl.rank b) <;> cases d2 : decide (Fl.rank b < Fl.rank a) <;> cases d4 : decide (Fl.canon a = Fl.canon b)
  all_goals
    have d5 : ((Fl.rank a : Int) == (Fl.rank b : Int)) = decide (Fl.canon a = Fl.canon b) := by rw [cast_beq]; exact decide_eq_decide.2 hi
    have r1 := d1
    have r2 := d2
    have r4 := d4
    simp only [decide_eq_true_eq, decide_eq_false_iff_not] at r1 r2 r4
    have bad : (Fl.rank a < Fl.rank b ∨ Fl.rank b < Fl.rank a) ↔ ¬ Fl.canon a = Fl.canon b := by rw [← hi]; omega
    clear hi
  all_goals first
    | (exfalso; omega)
    | (clear r1 r2 r4 bad
       go_enter Try.func4, Try.ntmps4
       go_wp2_with (first
             | (go_at_call 11; refine (awake_any _).mono ?_; rintro e w' ⟨rfl, rfl⟩)
             | (go_at_call 19; refine (less_any _ _ (by assumption) (by assumption) _).mono ?_; rintro e w' ⟨rfl, rfl⟩)
             | (go_at_call 20; refine (same_any _ _ (by assumption) (by assumption) _).mono ?_; rintro e w' ⟨rfl, rfl⟩)
             | (go_at_call 22; refine (rank_any _ (by assumption) _).mono ?_; rintro e w' ⟨rfl, rfl⟩)
             | (go_at_call 21; refine (before_any _ _ (by assumption) (by assumption) _).mono ?_; rintro e w' ⟨rfl, rfl⟩)
             | (go_at_call 14; refine (refSame_any _ _ (by assumption) (by assumption) _).mono ?_; rintro e w' ⟨rfl, rfl⟩))
       go_ret
       exact ⟨ret_eq (by simp), rfl⟩)

set_option maxHeartbeats 400000 in
theorem realThree_any (a b c : Nat) (ha : a < 18446744073709551616) (hb : b < 18446744073709551616) (hc : c < 18446744073709551616) (w : World) : Calls Try.prog 5 #[.float .f64 a, .float .f64 b, .float .f64 c] w fun e w' => e = .returned (.bool true) ∧ w = w' := by
  have hn : (9221120237041090561 : Nat) < 18446744073709551616 := by decide
  have n1 : decide (Fl.rank 9221120237041090561 < Fl.rank a) = false := decide_eq_false (by
    have := Fl.rank_cases a
    have := Fl.canon_cases a
    have e : Fl.rank 9221120237041090561 = 18444492273895866368 := by decide +kernel
    rw [e]; have := Fl.canon_lt a ha; omega)
  have i0 : decide (Fl.rank a < Fl.rank a) = false := decide_eq_false (Nat.lt_irrefl _)
  cases s1 : decide (Fl.canon a = Fl.canon 9221120237041090561)
  all_goals
    have n2 : decide (Fl.rank a < Fl.rank 9221120237041090561) = !decide (Fl.canon a = Fl.canon 9221120237041090561) := by
      have h1 := of_decide_eq_false n1
      rw [← decide_not, decide_eq_decide, ← Fl.rank_inj a _ ha hn]
      omega
    rw [s1] at n2
    simp only [Bool.not_true, Bool.not_false] at n2
    cases d1 : decide (Fl.rank a < Fl.rank b) <;> cases d2 : decide (Fl.rank b < Fl.rank c) <;> cases d3 : decide (Fl.rank a < Fl.rank c)
  all_goals first
    | (exfalso
       have h1 := of_decide_eq_true d1
       have h2 := of_decide_eq_true d2
       have h3 := of_decide_eq_false d3
       omega)
    | (
       go_enter Try.func5, Try.ntmps5
       go_wp2_with (first
             | (go_at_call 11; refine (awake_any _).mono ?_; rintro e w' ⟨rfl, rfl⟩)
             | (go_at_call 19; refine (less_any _ _ (by assumption) (by assumption) _).mono ?_; rintro e w' ⟨rfl, rfl⟩)
             | (go_at_call 20; refine (same_any _ _ (by assumption) (by assumption) _).mono ?_; rintro e w' ⟨rfl, rfl⟩)
             | (go_at_call 23; refine (mnan_any _).mono ?_; rintro e w' ⟨rfl, rfl⟩))
       go_ret
       exact ⟨rfl, rfl⟩)

set_option maxHeartbeats 400000 in
theorem realNumbers_any (a b : Nat) (ha : a < 18446744073709551616) (hb : b < 18446744073709551616) (w : World) : Calls Try.prog 6 #[.float .f64 a, .float .f64 b] w fun e w' => e = .returned (.bool true) ∧ w = w' := by
  have z0 : (0 : Nat) < 18446744073709551616 := by decide
  have z1 : (9223372036854775808 : Nat) < 18446744073709551616 := by decide
  have r1 : decide (Fl.rank 9223372036854775808 < Fl.rank 0) = true := by decide +kernel
  have r2 : decide (Fl.rank 0 < Fl.rank 9223372036854775808) = false := by decide +kernel
  have r3 : decide (Fl.canon 0 = Fl.canon 9223372036854775808) = false := by decide +kernel
  have hq : ∀ w, (binOp .quo 23 (.float .f64 13830554455654793216) (.float .f64 9218868437227405312)).run Try.prog w = .ok (.float .f64 9223372036854775808) w := fun w => run_float_arith w .quo _ .f64 _ _ _ (by decide +kernel)
  have na1 : (FloatKind.f64.format.order a a != some .eq) = Fl.nan a := Fl.ne_self a ha
  have nb1 : (FloatKind.f64.format.order b b != some .eq) = Fl.nan b := Fl.ne_self b hb
  cases na : Fl.nan a
  · cases nb : Fl.nan b
    · have o1 := Fl.ord_lt a b ha hb na nb
      have o2 := Fl.ord_gt a b ha hb na nb
      rw [na] at na1
      rw [nb] at nb1
      cases k1 : decide (Fl.key a < Fl.key b) <;> cases k2 : decide (Fl.key b < Fl.key a) <;> cases l1 : decide (Fl.rank a < Fl.rank b) <;> cases l2 : decide (Fl.rank b < Fl.rank a)
      all_goals first
        | (exfalso; have h1 := of_decide_eq_true k1; have h2 := of_decide_eq_true k2; omega)
        | (exfalso; have h1 := of_decide_eq_true k1; have h2 := of_decide_eq_false l1; exact h2 (Fl.key_rank a b ha hb na nb h1))
        | (exfalso; have h1 := of_decide_eq_true k2; have h2 := of_decide_eq_false l2; exact h2 (Fl.key_rank b a hb ha nb na h1))
        | (rw [k1] at o1
           rw [k2] at o2
           clear na nb
           go_enter Try.func6, Try.ntmps6
           go_wp2_with (first
                 | (go_at_call 11; refine (awake_any _).mono ?_; rintro e w' ⟨rfl, rfl⟩)
                 | (go_at_call 19; refine (less_any _ _ (by assumption) (by assumption) _).mono ?_; rintro e w' ⟨rfl, rfl⟩)
                 | (go_at_call 20; refine (same_any _ _ (by assumption) (by assumption) _).mono ?_; rintro e w' ⟨rfl, rfl⟩)
                 | (go_at_call 24; refine (inf_pos _).mono ?_; rintro e w' ⟨rfl, rfl⟩))
           go_ret
           exact ⟨rfl, rfl⟩)
    · rw [na] at na1
      rw [nb] at nb1
      clear na nb
      go_enter Try.func6, Try.ntmps6
      go_wp2_with (first
            | (go_at_call 11; refine (awake_any _).mono ?_; rintro e w' ⟨rfl, rfl⟩))
      go_ret
      exact ⟨rfl, rfl⟩
  · rw [na] at na1
    clear na
    go_enter Try.func6, Try.ntmps6
    go_wp2_with (first
          | (go_at_call 11; refine (awake_any _).mono ?_; rintro e w' ⟨rfl, rfl⟩))
    go_ret
    exact ⟨rfl, rfl⟩

set_option maxHeartbeats 400000 in
theorem realEnds_any (a b : Nat) (ha : a < 18446744073709551616) (hb : b < 18446744073709551616) (w : World) : Calls Try.prog 7 #[.float .f64 a, .float .f64 b] w fun e w' => e = .returned (.bool true) ∧ w = w' := by
  have la := Fl.canon_lt a ha
  have lb := Fl.canon_lt b hb
  have ca := Fl.canon_canon a
  have cb := Fl.canon_canon b
  have ra := Fl.rank_canon a
  have rb := Fl.rank_canon b
  have hi := Fl.rank_inj a b ha hb
  rcases Nat.lt_trichotomy (Fl.rank a) (Fl.rank b) with h | h | h
  · have m1 : Fl.minv a b = Fl.canon a := by unfold Fl.minv; rw [if_neg (by omega)]
    have m2 : Fl.maxv a b = Fl.canon b := by unfold Fl.maxv; rw [if_pos h]
    have m3 : Fl.minv b a = Fl.canon a := by unfold Fl.minv; rw [if_pos h]
    have m4 : Fl.maxv b a = Fl.canon b := by unfold Fl.maxv; rw [if_neg (by omega)]
    have d1 : decide (Fl.rank b < Fl.rank a) = false := decide_eq_false (by omega)
    have d2 : decide (Fl.canon a = Fl.canon b) = false := decide_eq_false (fun e => absurd (hi.2 e) (by omega))
    have d3 : decide (Fl.canon b = Fl.canon a) = false := decide_eq_false (fun e => absurd (hi.2 e.symm) (by omega))
    clear hi h
    go_enter Try.func7, Try.ntmps7
    go_wp2_with (first
          | (go_at_call 11; refine (awake_any _).mono ?_; rintro e w' ⟨rfl, rfl⟩)
          | (go_at_call 19; refine (less_any _ _ (by assumption) (by assumption) _).mono ?_; rintro e w' ⟨rfl, rfl⟩)
          | (go_at_call 20; refine (same_any _ _ (by assumption) (by assumption) _).mono ?_; rintro e w' ⟨rfl, rfl⟩)
          | (go_at_call 25; refine (min_any _ _ (by assumption) (by assumption) _).mono ?_; rintro e w' ⟨rfl, rfl⟩)
          | (go_at_call 26; refine (max_any _ _ (by assumption) (by assumption) _).mono ?_; rintro e w' ⟨rfl, rfl⟩))
    go_ret
    exact ⟨ret_eq (by simp), rfl⟩
  · have e : Fl.canon b = Fl.canon a := (hi.1 h).symm
    have m1 : Fl.minv a b = Fl.canon a := by unfold Fl.minv; rw [if_neg (by omega)]
    have m2 : Fl.maxv a b = Fl.canon a := by unfold Fl.maxv; rw [if_neg (by omega)]
    have m3 : Fl.minv b a = Fl.canon a := by unfold Fl.minv; rw [if_neg (by omega), e]
    have m4 : Fl.maxv b a = Fl.canon a := by unfold Fl.maxv; rw [if_neg (by omega), e]
    have d1 : decide (Fl.rank a < Fl.rank a) = false := decide_eq_false (by omega)
    clear hi h cb rb lb
    go_enter Try.func7, Try.ntmps7
    go_wp2_with (first
          | (go_at_call 11; refine (awake_any _).mono ?_; rintro e w' ⟨rfl, rfl⟩)
          | (go_at_call 19; refine (less_any _ _ (by assumption) (by assumption) _).mono ?_; rintro e w' ⟨rfl, rfl⟩)
          | (go_at_call 20; refine (same_any _ _ (by assumption) (by assumption) _).mono ?_; rintro e w' ⟨rfl, rfl⟩)
          | (go_at_call 25; refine (min_any _ _ (by assumption) (by assumption) _).mono ?_; rintro e w' ⟨rfl, rfl⟩)
          | (go_at_call 26; refine (max_any _ _ (by assumption) (by assumption) _).mono ?_; rintro e w' ⟨rfl, rfl⟩))
    go_ret
    exact ⟨ret_eq (by simp), rfl⟩
  · have m1 : Fl.minv a b = Fl.canon b := by unfold Fl.minv; rw [if_pos h]
    have m2 : Fl.maxv a b = Fl.canon a := by unfold Fl.maxv; rw [if_neg (by omega)]
    have m3 : Fl.minv b a = Fl.canon b := by unfold Fl.minv; rw [if_neg (by omega)]
    have m4 : Fl.maxv b a = Fl.canon a := by unfold Fl.maxv; rw [if_pos h]
    have d1 : decide (Fl.rank a < Fl.rank b) = false := decide_eq_false (by omega)
    have d2 : decide (Fl.canon a = Fl.canon b) = false := decide_eq_false (fun e => absurd (hi.2 e) (by omega))
    have d3 : decide (Fl.canon b = Fl.canon a) = false := decide_eq_false (fun e => absurd (hi.2 e.symm) (by omega))
    clear hi h
    go_enter Try.func7, Try.ntmps7
    go_wp2_with (first
          | (go_at_call 11; refine (awake_any _).mono ?_; rintro e w' ⟨rfl, rfl⟩)
          | (go_at_call 19; refine (less_any _ _ (by assumption) (by assumption) _).mono ?_; rintro e w' ⟨rfl, rfl⟩)
          | (go_at_call 20; refine (same_any _ _ (by assumption) (by assumption) _).mono ?_; rintro e w' ⟨rfl, rfl⟩)
          | (go_at_call 25; refine (min_any _ _ (by assumption) (by assumption) _).mono ?_; rintro e w' ⟨rfl, rfl⟩)
          | (go_at_call 26; refine (max_any _ _ (by assumption) (by assumption) _).mono ?_; rintro e w' ⟨rfl, rfl⟩))
    go_ret
    exact ⟨ret_eq (by simp), rfl⟩


end Go.Proofs.Ytojdgbiklcdfnaa
