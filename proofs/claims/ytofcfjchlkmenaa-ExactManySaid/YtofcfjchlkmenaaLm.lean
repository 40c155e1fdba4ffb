/-
  The law ExactMany returns true: walked.
-/
import Derived.Test.YtofcfjchlkmenaaLez
import Derived.Test.YtofcfjchlkmenaaSy
set_option linter.unusedSimpArgs false
set_option linter.unusedVariables false
namespace Go.Proofs.Ytofcfjchlkmenaa
open Go.RowKit Sm

def sN (X k : Nat) : Nat := accN (List.replicate k X)
def sH (X k : Nat) : Nat := accH (List.replicate k X)
theorem sN_succ (X k : Nat) : addN (sN X k) X = sN X (k + 1) := by
  unfold sN addN; rw [List.replicate_succ', accN_snoc]
theorem sH_succ (X k : Nat) : orH (sH X k) X = sH X (k + 1) := by
  unfold sH orH; rw [List.replicate_succ', accH_snoc]
theorem sH_lt (X k : Nat) : sH X k < 32 := accH_lt _
theorem sN_lt (X k : Nat) : sN X k < top := accN_lt _
theorem s_zero (X : Nat) : P36 (wd (sN X 0)) (sH X 0) = P36 (fun _ => 0) 0 := by
  show P36 (wd 0) 0 = _
  exact P36_congr 0 (A35_congr fun i _ => by unfold wd; simp)
attribute [irreducible] sN sH

set_option maxHeartbeats 1000000 in
theorem exactMany_core (m n M X Y Z W : Nat) (hm : m < 4294967296) (hn : n < 256) (hX : X < 18446744073709551616) (f1 : floatOfInt .f64 (m : Int) = M) (f2 : floatOfInt .f64 (n : Int) = Z)
    (hq : ∀ w, (binOp .quo 33 (.float .f64 M) (.float .f64 4652218415073722368)).run Try.prog w = .ok (.float .f64 X) w)
    (hp : ∀ w, (binOp .mul 33 (.float .f64 X) (.float .f64 Z)).run Try.prog w = .ok (.float .f64 Y) w)
    (hv : VaGives (sN X n) (sH X n) W false) (he : (FloatKind.f64.format.order W Y == some .eq) = true) (w : World) :
    Calls Try.prog 9 #[.int .u32 m, .int .u8 n] w fun e w' => e = .returned (.bool true) ∧ Below w.heap.size w w' := by
  have HB := Below.refl w.heap.size w
  go_enter Try.func9, Try.ntmps9
  go_wp2_with (go_at_call 13; refine (awake_any _).mono ?_; rintro e w' ⟨rfl, hb1⟩; replace HB := HB.trans (hb1.mono HB.size); clear hb1)
  rw [zeros36, ← s_zero X]
  have hk0 : Kp w w'.heap.size (P36 (wd (sN X 0)) (sH X 0)) 27 (w'.alloc (.cells (P36 (wd (sN X 0)) (sH X 0)) 27)) := ⟨HB.alloc HB.size _, heap_alloc_new w' _⟩
  have hge := HB.size
  generalize w'.alloc _ = wb at *
  generalize w'.heap.size = g at *
  clear HB
  go_loopw [7] (fun i wr => ∃ k : Nat, k ≤ n ∧ i = .int .i64 k ∧ Kp w g (P36 (wd (sN X k)) (sH X k)) 27 wr) (fun i _ => n - (intOf i).toNat)
  case atStart => exact ⟨0, by omega, rfl, hk0⟩
  case round =>
    obtain ⟨k, hkn, rfl, hk⟩ := hrel
    clear hk0
    have kz := sH_lt X k
    by_cases hlt : k < n
    · go_wp2_with (first
        | (refine wpList_sum (.tmp 6) rfl _ rfl _ _ _ _ hk.row rfl ?_)
        | (go_at_call 26; (refine (add_nx _ _ _ (by assumption) (by assumption) _).mono ?_); rintro e w' ⟨rfl, hb1⟩; replace hk := hk.next hb1; clear hb1)
        | (refine wpList_keepSum (.tmp 6) (.tmp 23) rfl _ rfl _ _ rfl _ _ _ hk.row rfl ?_; replace hk := hk.put (cs' := P36 (wd (addN (sN X k) X)) (orH (sH X k) X)) hge; generalize World.setRow _ _ _ = wz at hk ⊢))
      rw [sN_succ, sH_succ] at hk
      go_roundw
      case rel => exact ⟨k + 1, by omega, by go_num, hk⟩
      case measure => simp [intOf]; omega
    · obtain rfl : n = k := by omega
      go_wp2_with (first
        | (refine wpList_sum (.tmp 6) rfl _ rfl _ _ _ _ hk.row rfl ?_)
        | (go_at_call 16; (with_reducible refine (hv.at _).mono ?_); rintro e w' ⟨rfl, hb1⟩; replace hk := hk.next hb1; clear hb1))
      go_ret
      exact ⟨rfl, hk.below⟩

/-! Put together -/
theorem sval_mill (m e : Nat) (he : e = 1064) (h : m < 9007199254740992) : sval (mill m) = ((m * 2 ^ e : Nat) : Int) := by
  have hl := mill_lt m h
  have er : Fl.rung (mill m) = mill m := by unfold Fl.rung; omega
  unfold sval
  rw [er, if_neg (Nat.not_le.2 hl), if_neg (by omega), val_mill m e he h]
theorem sN_int (X : Nat) : ∀ k : Nat, ((sN X k : Nat) : Int) = ((k : Int) * sval X) % (top : Int)
  | 0 => by rw [show sN X 0 = 0 by unfold sN; rfl]; simp
  | k + 1 => by
    rw [← sN_succ, addN_int, sN_int X k, Int.emod_add_emod]
    congr 1
    rw [show ((k + 1 : Nat) : Int) = (k : Int) + 1 by omega, Int.add_mul, Int.one_mul]
theorem sH_val (X : Nat) (hX : kindB X = 24) : ∀ k : Nat, sH X k = if k = 0 then 0 else 24
  | 0 => by unfold sH; rfl
  | k + 1 => by
    rw [← sH_succ, sH_val X hX k]
    unfold orH
    rw [hX, if_neg (by omega : ¬ k + 1 = 0)]
    split <;> rfl
theorem val_0 (n : Nat) : valW n 0 = Ieee.double.nearest (sgn n) (mag n) (-1074) ∧ valO n 0 = decide (9218868437227405312 ≤ rnd (mag n)) := by
  unfold valW valO
  rw [if_neg (by decide), if_neg (by decide), if_neg (by decide), if_neg (by decide), if_neg (by decide), if_neg (by decide), if_neg (by decide), if_neg (by decide)]
  exact ⟨Eq.refl _, Eq.refl _⟩
theorem rnd_small (m k : Nat) (hk : k ≤ 1104) (h : m < 2 ^ k) : rnd m < 9218868437227405312 := by
  have h1 := len_le_of m k h
  have h2 := quot_lt m
  have h3 : (rup m (drop m)).toNat ≤ 1 := by cases rup m (drop m) <;> decide
  have h4 : drop m ≤ 1051 := by unfold drop; omega
  unfold rnd
  generalize m / 2 ^ drop m = q at *
  omega
theorem many_val (m n e : Nat) (he : e = 1064) (hm : m < 4294967296) (hn : n < 256) :
    valW (sN (mill m) n) (sH (mill m) n) = Ieee.double.nearest false (n * m) (-10) ∧ valO (sN (mill m) n) (sH (mill m) n) = false := by
  have hX : kindB (mill m) = 24 := by
    have hl := mill_lt m (by omega)
    rw [kind_fin _ (by unfold Fl.rung; omega), if_neg (by omega)]
  have hb : n * m * 2 ^ e < 2 ^ (40 + e) := by
    rw [Nat.pow_add]
    have h1 : n * m < 2 ^ 40 := by
      have := Nat.mul_le_mul (show n ≤ 255 by omega) (show m ≤ 4294967295 by omega)
      have h2 : (2 : Nat) ^ 40 = 1099511627776 := by decide
      omega
    exact Nat.mul_lt_mul_of_pos_right h1 (Nat.two_pow_pos _)
  have hi := sN_int (mill m) n
  rw [sval_mill m e he (by omega)] at hi
  have hT : (n : Int) * ((m * 2 ^ e : Nat) : Int) = ((n * m * 2 ^ e : Nat) : Int) := by rw [← Int.natCast_mul, Nat.mul_assoc]
  rw [hT] at hi
  have hp := pow_le_pw (40 + e) 33 (by omega)
  have ht := top_33
  obtain ⟨s1, s2⟩ := short _ _ hi (by rw [ht]; generalize pw 33 = P at *; generalize n * m * 2 ^ e = V at *; generalize 2 ^ (40 + e) = U at *; omega) (by rw [ht]; generalize pw 33 = P at *; generalize n * m * 2 ^ e = V at *; generalize 2 ^ (40 + e) = U at *; omega)
  have s3 : sgn (sN (mill m) n) = false := by rw [s1]; exact decide_eq_false (by omega)
  have s4 : mag (sN (mill m) n) = n * m * 2 ^ e := by rw [s2, Int.natAbs_natCast]
  have hr := rnd_small _ _ (show 40 + e ≤ 1104 by omega) hb
  have hw : Ieee.double.nearest false (n * m * 2 ^ e) (-1074) = Ieee.double.nearest false (n * m) (-10) := by
    rw [nearest_scale]; congr 1; omega
  rw [sH_val _ hX]
  by_cases h0 : n = 0
  · rw [if_pos h0, (val_0 _).1, (val_0 _).2, s3, s4]
    exact ⟨hw, decide_eq_false (by omega)⟩
  · rw [if_neg h0, (val_24 _).1, (val_24 _).2, s3, s4]
    exact ⟨hw, decide_eq_false (by omega)⟩
theorem near10 (n e : Nat) (he : e = 1064) : Fl.nan (Ieee.double.nearest false n (-10)) = false ∧ Ieee.double.nearest false n (-10) < 18446744073709551616 := by
  have h := nearest_word false (n * 2 ^ e)
  rw [nearest_scale, show (-1074 : Int) + (e : Int) = -10 by omega] at h
  exact ⟨h.2.2, h.2.1⟩
theorem exactMany_any (m : Nat) (hm : m < 4294967296) (n : Nat) (hn : n < 256) (w : World) :
    Calls Try.prog 9 #[.int .u32 m, .int .u8 n] w fun e w' => e = .returned (.bool true) ∧ Below w.heap.size w w' := by
  obtain ⟨v1, v2⟩ := many_val m n 1064 rfl hm hn
  have hl := mill_lt m (by omega)
  refine exactMany_core m n (Fl.ofNat m) (mill m) (Ieee.double.nearest false (n * m) (-10)) (Fl.ofNat n) (Ieee.double.nearest false (n * m) (-10)) hm hn (by omega) (Fl.floatOfInt_nat m (by omega)) (Fl.floatOfInt_nat n (by omega))
    (fun w => run_float_arith w .quo _ .f64 _ _ _ (div_mill m (by omega))) (fun w => run_float_arith w .mul _ .f64 _ _ _ (mul_mill m n (by omega) (by omega))) (fun w => ?_) ?_ w
  · have h := value_any _ _ (sN_lt (mill m) n) (sH_lt (mill m) n) w
    rwa [v1, v2] at h
  · obtain ⟨h1, h2⟩ := near10 (n * m) 1064 rfl
    have h3 := Fl.ne_self _ h2
    rw [h1] at h3
    show (Ieee.double.order _ _ == some .eq) = true
    simpa using h3
end Go.Proofs.Ytofcfjchlkmenaa
