/-
  The law RealSplits returns true: walked.
-/
import Derived.Test.YtojdgbiklcdfnaaWm
import Derived.Test.YtojdgbiklcdfnaaLa
namespace Go.Proofs.Ytojdgbiklcdfnaa
open Go.RowKit

set_option maxHeartbeats 400000 in
theorem realSplits_bad (b : Nat) (hb : b < 18446744073709551616) (hr : 9218868437227405312 ≤ Fl.rung b) (w : World) :
    Calls Try.prog 8 #[.float .f64 b] w fun e w' => e = .returned (.bool true) ∧ w = w' := by
  by_cases hn : Fl.rung b = 9218868437227405312
  · have n0 : Fl.nan b = false := by unfold Fl.nan; exact decide_eq_false (by omega)
    have n1 : decide (Fl.rung b = 9218868437227405312) = true := decide_eq_true hn
    clear hn
    go_enter Try.func8, Try.ntmps8
    go_wp2_with (first
      | (go_at_call 27; refine (split_bad _ hb hr _).mono ?_; rintro e w' ⟨rfl, rfl⟩)
      | (go_at_call 28; refine (isNaN_any _ (by assumption) _).mono ?_; rintro e w' ⟨rfl, rfl⟩)
      | (go_at_call 29; refine (isInf_any _ (by assumption) _).mono ?_; rintro e w' ⟨rfl, rfl⟩)
      | (go_at_call 11; refine (awake_any _).mono ?_; rintro e w' ⟨rfl, rfl⟩))
    go_ret
    exact ⟨rfl, rfl⟩
  · have n0 : Fl.nan b = true := by unfold Fl.nan; exact decide_eq_true (by omega)
    clear hn
    go_enter Try.func8, Try.ntmps8
    go_wp2_with (first
      | (go_at_call 27; refine (split_bad _ hb hr _).mono ?_; rintro e w' ⟨rfl, rfl⟩)
      | (go_at_call 28; refine (isNaN_any _ (by assumption) _).mono ?_; rintro e w' ⟨rfl, rfl⟩)
      | (go_at_call 11; refine (awake_any _).mono ?_; rintro e w' ⟨rfl, rfl⟩))
    go_ret
    exact ⟨rfl, rfl⟩

theorem split_ok (b : Nat) (hb : b < 18446744073709551616) (hi : Fl.rung b < 9218868437227405312) (w : World) :
    Calls Try.prog 27 #[.float .f64 b] w fun e w' => e = .returned (.tuple #[.bool (decide (9223372036854775808 ≤ b)), .int .u64 (Fl.mant (Fl.rung b) : Nat), .int .i64 (Fl.shf (Fl.rung b) : Nat), .bool true]) ∧ w = w' := by
  by_cases h : Fl.rung b < 4503599627370496
  · exact split_small b hb h w
  · exact split_norm b hb (by omega) hi w

def SplitGives (b : Nat) (neg : Bool) (M S : Int) : Prop := ∀ w, Calls Try.prog 27 #[.float .f64 b] w fun e w' => e = .returned (.tuple #[.bool neg, .int .u64 M, .int .i64 S, .bool true]) ∧ w = w'
def SignGives (b : Nat) (neg : Bool) : Prop := ∀ w, Calls Try.prog 30 #[.float .f64 b] w fun e w' => e = .returned (.bool neg) ∧ w = w'
def LdexpGives (F : Nat) (S : Int) (r : Nat) : Prop := ∀ w, Calls Try.prog 31 #[.float .f64 F, .int .i64 (S - 1074)] w fun e w' => e = .returned (.float .f64 r) ∧ w = w'

set_option maxHeartbeats 1000000 in
theorem realSplits_core (b F r : Nat) (neg : Bool) (M S : Int) (hb : b < 18446744073709551616) (n0 : Fl.nan b = false) (n1 : decide (Fl.rung b = 9218868437227405312) = false)
    (hm : M < 9007199254740992) (hs0 : 0 ≤ S) (hs1 : S ≤ 2045) (hms : 0 < S → 4503599627370496 ≤ M)
    (hw : SplitGives b neg M S) (hg : SignGives b neg) (hl : LdexpGives F S r) (hf : floatOfInt .f64 M = F) (hr : r = if neg then r else b) (hng : neg = true → Op.negFloat .f64 r = b) (w : World) :
    Calls Try.prog 8 #[.float .f64 b] w fun e w' => e = .returned (.bool true) ∧ w = w' := by
  all_goals
    have h4 : 0 < S ∧ 4503599627370496 ≤ M ∨ S ≤ 0 := by
      by_cases h : 0 < S
      · exact Or.inl ⟨h, hms h⟩
      · exact Or.inr (by omega)
    clear hms
    rcases h4 with ⟨h5, h4⟩ | h4
  all_goals
    cases neg
  all_goals
    first
      | (have hng' : ∀ w, (Op.unary .neg (.float .f64 r)).run Try.prog w = .ok (.float .f64 b) w := fun w => by rw [show Op.unary .neg (.float .f64 r) = pure (.float .f64 (Op.negFloat .f64 r)) from rfl, hng rfl]; rfl
         clear hng hr)
      | (obtain rfl : r = b := hr; clear hng)
    go_enter Try.func8, Try.ntmps8
    go_wp2_with (first
      | (go_at_call 27; refine (hw _).mono ?_; rintro e w' ⟨rfl, rfl⟩)
      | (go_at_call 28; refine (isNaN_any _ (by assumption) _).mono ?_; rintro e w' ⟨rfl, rfl⟩)
      | (go_at_call 29; refine (isInf_any _ (by assumption) _).mono ?_; rintro e w' ⟨rfl, rfl⟩)
      | (go_at_call 30; refine (hg _).mono ?_; rintro e w' ⟨rfl, rfl⟩)
      | (go_at_call 31; refine (hl _).mono ?_; rintro e w' ⟨rfl, rfl⟩)
      | (go_at_call 14; refine (refSame_any _ _ (by assumption) (by assumption) _).mono ?_; rintro e w' ⟨rfl, rfl⟩)
      | (go_at_call 11; refine (awake_any _).mono ?_; rintro e w' ⟨rfl, rfl⟩))
    go_ret
    exact ⟨ret_eq (by simp), rfl⟩

theorem realSplits_any (b : Nat) (hb : b < 18446744073709551616) (w : World) :
    Calls Try.prog 8 #[.float .f64 b] w fun e w' => e = .returned (.bool true) ∧ w = w' := by
  by_cases hi : Fl.rung b < 9218868437227405312
  · have n0 : Fl.nan b = false := by unfold Fl.nan; exact decide_eq_false (by omega)
    have n1 : decide (Fl.rung b = 9218868437227405312) = false := decide_eq_false (by omega)
    have hm := Fl.mant_lt (Fl.rung b)
    have hs := Fl.shf_mant (Fl.rung b)
    have hms : 0 < Fl.shf (Fl.rung b) → 4503599627370496 ≤ Fl.mant (Fl.rung b) := by
      unfold Fl.shf Fl.mant; split <;> omega
    have hneg := neg_pos (Fl.rung b) hi
    refine realSplits_core b (Fl.ofNat (Fl.mant (Fl.rung b))) (Fl.rung b) (decide (9223372036854775808 ≤ b)) (Fl.mant (Fl.rung b) : Nat) (Fl.shf (Fl.rung b) : Nat) hb n0 n1 (by omega) (by omega) (by omega) (fun h => by have := hms (by omega); omega)
      (fun w => split_ok b hb hi w) (fun w => signbit_any b hb w) (fun w => mldexp_rung _ hi w) (Fl.floatOfInt_nat _ hm) ?_ ?_ w
    · by_cases h : 9223372036854775808 ≤ b
      · rw [decide_eq_true h]; rfl
      · rw [decide_eq_false h]; unfold Fl.rung; show _ = b; omega
    · intro h
      have h1 := of_decide_eq_true h
      rw [hneg]; unfold Fl.rung; omega
  · exact realSplits_bad b hb (by omega) w

end Go.Proofs.Ytojdgbiklcdfnaa
