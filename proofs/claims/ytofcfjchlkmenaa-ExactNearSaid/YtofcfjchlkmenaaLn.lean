/-
  The law RealNext returns true: walked.
-/
import Derived.Test.YtofcfjchlkmenaaWm
import Derived.Test.YtofcfjchlkmenaaLa
namespace Go.Proofs.Ytofcfjchlkmenaa
open Go.RowKit

set_option maxHeartbeats 1000000 in
theorem next_core (b y R : Nat) (p q : Bool) (hb : b < 18446744073709551616) (hy : y < 18446744073709551616) (n0 : Fl.nan b = false) (n1 : Fl.nan y = false)
    (e0 : (FloatKind.f64.format.order b y == some .eq) = false) (e1 : (FloatKind.f64.format.order b 0 == some .eq) = false)
    (g1 : (FloatKind.f64.format.order y b == some .gt) = p) (g2 : (FloatKind.f64.format.order b 0 == some .gt) = q)
    (h1 : 1 ≤ b) (h2 : b < 18446744073709551615) (hR1 : p = q → R = b + 1) (hR2 : p ≠ q → R + 1 = b) (w : World) :
    Calls Try.prog 33 #[.float .f64 b, .float .f64 y] w fun e w' => e = .returned (.float .f64 R) ∧ w = w' := by
  have xf := fb_run
  have xt := tb_run
  cases p <;> cases q
  all_goals
    first
      | (have HR : Hid (R = b + 1) := hR1 rfl)
      | (have HR : Hid (R + 1 = b) := hR2 (by decide))
    clear hR1 hR2
    go_enter Try.func33, Try.ntmps33
    go_wp2_with (go_at_call 24; refine (isNaN_any _ (by assumption) _).mono ?_; rintro e w' ⟨rfl, rfl⟩)
    go_ret
    refine ⟨ret_eq (congrArg (Value.float .f64) ?_), rfl⟩
    have := HR.out
    omega

def NextGives (b y R : Nat) : Prop := ∀ w, Calls Try.prog 33 #[.float .f64 b, .float .f64 y] w fun e w' => e = .returned (.float .f64 R) ∧ w = w'
theorem NextGives.at {b y R : Nat} (h : NextGives b y R) (w : World) : Calls Try.prog 33 #[.float .f64 b, .float .f64 y] w fun e w' => e = .returned (.float .f64 R) ∧ w = w' := h w
theorem key_ge (b : Nat) (h : b < 9223372036854775808) : Fl.key b = (b : Int) := by unfold Fl.key; rw [if_neg (by omega), Fl.nonneg_rung b h]
theorem key_lt (b : Nat) (h : 9223372036854775808 ≤ b) (hb : b < 18446744073709551616) : Fl.key b = 9223372036854775808 - (b : Int) := by unfold Fl.key Fl.rung; rw [if_pos h]; omega
theorem nan_of (c : Nat) (h : c % 9223372036854775808 ≤ 9218868437227405312) : Fl.nan c = false := by unfold Fl.nan Fl.rung; exact decide_eq_false (by omega)

theorem next_gives (b y R : Nat) (hb : b < 18446744073709551616) (hf : b % 9223372036854775808 < 9218868437227405312) (h0 : 0 < b % 9223372036854775808) (hy : y = 9218868437227405312 ∨ y = 18442240474082181120)
    (hR : R = if (y = 9218868437227405312 ↔ b < 9223372036854775808) then b + 1 else b - 1) : NextGives b y R := fun w => by
  have nb : Fl.nan b = false := nan_of b (by omega)
  have n0 : Fl.nan 0 = false := by decide
  have k0 : Fl.key 0 = 0 := by decide +kernel
  have kp : Fl.key 9218868437227405312 = 9218868437227405312 := by decide +kernel
  have kn : Fl.key 18442240474082181120 = -9218868437227405312 := by decide +kernel
  have hyl : y < 18446744073709551616 := by omega
  have ny : Fl.nan y = false := by rcases hy with rfl | rfl <;> decide
  have kb : Fl.key b = if b < 9223372036854775808 then (b : Int) else 9223372036854775808 - (b : Int) := by
    split
    · exact key_ge b (by omega)
    · exact key_lt b (by omega) hb
  refine next_core b y R (decide (Fl.key b < Fl.key y)) (decide (0 < Fl.key b)) hb hyl nb ny ?_ ?_ (Fl.ord_gt y b hyl hb ny nb) ?_ (by omega) (by omega) ?_ ?_ w
  · rw [Fl.ord_eq b y hb hyl nb ny]
    refine decide_eq_false ?_
    rcases hy with rfl | rfl
    · rw [kp, kb]; split <;> omega
    · rw [kn, kb]; split <;> omega
  · rw [Fl.ord_eq b 0 hb (by decide) nb n0, k0, kb]
    refine decide_eq_false ?_
    split <;> omega
  · rw [Fl.ord_gt b 0 hb (by decide) nb n0, k0]
  · intro h
    rw [decide_eq_decide] at h
    rcases hy with rfl | rfl
    · rw [kp, kb] at h
      by_cases hs : b < 9223372036854775808
      · rw [hR, if_pos (by simp [hs])]
      · rw [if_neg hs] at h; omega
    · rw [kn, kb] at h
      by_cases hs : b < 9223372036854775808
      · rw [if_pos hs] at h; omega
      · rw [hR, if_pos (by simp [hs])]
  · intro h
    rw [ne_eq, decide_eq_decide] at h
    rcases hy with rfl | rfl
    · rw [kp, kb] at h
      by_cases hs : b < 9223372036854775808
      · rw [if_pos hs] at h; omega
      · rw [hR, if_neg (by simp [hs])]; omega
    · rw [kn, kb] at h
      by_cases hs : b < 9223372036854775808
      · rw [hR, if_neg (by simp [hs])]; omega
      · rw [if_neg hs] at h; omega

theorem rank_up (c d : Nat) (nc : Fl.nan c = false) (nd : Fl.nan d = false) (h : 9223372036854775808 ≤ c ∧ d + 1 = c ∧ 9223372036854775808 ≤ d ∧ c < 18446744073709551616 ∨ d < 9223372036854775808 ∧ d = c + 1) : (Fl.rank d : Int) = Fl.rank c + 1 := by
  have r1 := Fl.rank_cases c
  have r2 := Fl.rank_cases d
  rw [Fl.canon_num c nc] at r1
  rw [Fl.canon_num d nd] at r2
  omega

end Go.Proofs.Ytofcfjchlkmenaa
