/-
  The law RealNext returns true: walked.
-/
import Derived.Test.YtojdgbiklcdfnaaWm
import Derived.Test.YtojdgbiklcdfnaaLa
namespace Go.Proofs.Ytojdgbiklcdfnaa
open Go.RowKit

set_option maxHeartbeats 1000000 in
theorem next_core (b y R : Nat) (p q : Bool) (hb : b < 18446744073709551616) (hy : y < 18446744073709551616) (n0 : Fl.nan b = false) (n1 : Fl.nan y = false)
    (e0 : (FloatKind.f64.format.order b y == some .eq) = false) (e1 : (FloatKind.f64.format.order b 0 == some .eq) = false)
    (g1 : (FloatKind.f64.format.order y b == some .gt) = p) (g2 : (FloatKind.f64.format.order b 0 == some .gt) = q)
    (h1 : 1 ≤ b) (h2 : b < 18446744073709551615) (hR1 : p = q → R = b + 1) (hR2 : p ≠ q → R + 1 = b) (w : World) :
    Calls Try.prog 32 #[.float .f64 b, .float .f64 y] w fun e w' => e = .returned (.float .f64 R) ∧ w = w' := by
  have xf := fb_run
  have xt := tb_run
  cases p <;> cases q
  all_goals
    first
      | (have HR : Hid (R = b + 1) := hR1 rfl)
      | (have HR : Hid (R + 1 = b) := hR2 (by decide))
    clear hR1 hR2
    go_enter Try.func32, Try.ntmps32
    go_wp2_with (go_at_call 28; refine (isNaN_any _ (by assumption) _).mono ?_; rintro e w' ⟨rfl, rfl⟩)
    go_ret
    refine ⟨ret_eq (congrArg (Value.float .f64) ?_), rfl⟩
    have := HR.out
    omega

def NextGives (b y R : Nat) : Prop := ∀ w, Calls Try.prog 32 #[.float .f64 b, .float .f64 y] w fun e w' => e = .returned (.float .f64 R) ∧ w = w'
def RankGives (b : Nat) (R : Int) : Prop := ∀ w, Calls Try.prog 22 #[.float .f64 b] w fun e w' => e = .returned (.int .u64 R) ∧ w = w'
def LessGives (a b : Nat) (x : Bool) : Prop := ∀ w, Calls Try.prog 19 #[.float .f64 a, .float .f64 b] w fun e w' => e = .returned (.bool x) ∧ w = w'
def BeforeGives (a b : Nat) (x : Bool) : Prop := ∀ w, Calls Try.prog 21 #[.float .f64 a, .float .f64 b] w fun e w' => e = .returned (.bool x) ∧ w = w'

theorem NextGives.at {b y R : Nat} (h : NextGives b y R) (w : World) : Calls Try.prog 32 #[.float .f64 b, .float .f64 y] w fun e w' => e = .returned (.float .f64 R) ∧ w = w' := h w
theorem RankGives.at {b : Nat} {R : Int} (h : RankGives b R) (w : World) : Calls Try.prog 22 #[.float .f64 b] w fun e w' => e = .returned (.int .u64 R) ∧ w = w' := h w
theorem LessGives.at {a b : Nat} {x : Bool} (h : LessGives a b x) (w : World) : Calls Try.prog 19 #[.float .f64 a, .float .f64 b] w fun e w' => e = .returned (.bool x) ∧ w = w' := h w
theorem BeforeGives.at {a b : Nat} {x : Bool} (h : BeforeGives a b x) (w : World) : Calls Try.prog 21 #[.float .f64 a, .float .f64 b] w fun e w' => e = .returned (.bool x) ∧ w = w' := h w

set_option maxHeartbeats 1000000 in
theorem realNext_core (b U D : Nat) (RX : Int) (z1 z2 : Bool) (hb : b < 18446744073709551616) (n0 : Fl.nan b = false) (n1 : decide (Fl.rung b = 9218868437227405312) = false)
    (e1 : (FloatKind.f64.format.order b 0 == some .eq) = false) (x1 : (FloatKind.f64.format.order U 0 == some .eq) = z1) (x2 : (FloatKind.f64.format.order D 0 == some .eq) = z2)
    (hu : NextGives b 9218868437227405312 U) (hd : NextGives b 18442240474082181120 D) (ru : RankGives U (RX + 1)) (rb : RankGives b RX) (rd : RankGives D (RX - 1))
    (_r1 : 1 ≤ RX) (_r2 : RX < 18446744073709551615) (l1 : LessGives b U true) (l2 : LessGives D b true) (l3 : BeforeGives b U true) (l4 : BeforeGives D b true) (w : World) :
    Calls Try.prog 9 #[.float .f64 b] w fun e w' => e = .returned (.bool true) ∧ w = w' := by
  cases z1 <;> cases z2
  all_goals
    go_enter Try.func9, Try.ntmps9
    go_wp2_with (first
      | (go_at_call 11; ((with_reducible refine (awake_any _).mono ?_); rintro e w' ⟨rfl, rfl⟩))
      | (go_at_call 28; ((with_reducible refine (isNaN_any _ hb _).mono ?_); rintro e w' ⟨rfl, rfl⟩))
      | (go_at_call 29; ((with_reducible refine (isInf_any _ hb _).mono ?_); rintro e w' ⟨rfl, rfl⟩))
      | (go_at_call 24; ((with_reducible refine (inf_pos _).mono ?_); rintro e w' ⟨rfl, rfl⟩))
      | (go_at_call 24; ((with_reducible refine (inf_neg _).mono ?_); rintro e w' ⟨rfl, rfl⟩))
      | (go_at_call 32; ((with_reducible refine (hu.at _).mono ?_); rintro e w' ⟨rfl, rfl⟩))
      | (go_at_call 32; ((with_reducible refine (hd.at _).mono ?_); rintro e w' ⟨rfl, rfl⟩))
      | (go_at_call 22; ((with_reducible refine (ru.at _).mono ?_); rintro e w' ⟨rfl, rfl⟩))
      | (go_at_call 22; ((with_reducible refine (rb.at _).mono ?_); rintro e w' ⟨rfl, rfl⟩))
      | (go_at_call 22; ((with_reducible refine (rd.at _).mono ?_); rintro e w' ⟨rfl, rfl⟩))
      | (go_at_call 19; ((with_reducible refine (l1.at _).mono ?_); rintro e w' ⟨rfl, rfl⟩))
      | (go_at_call 19; ((with_reducible refine (l2.at _).mono ?_); rintro e w' ⟨rfl, rfl⟩))
      | (go_at_call 21; ((with_reducible refine (l3.at _).mono ?_); rintro e w' ⟨rfl, rfl⟩))
      | (go_at_call 21; ((with_reducible refine (l4.at _).mono ?_); rintro e w' ⟨rfl, rfl⟩)))
    go_ret
    exact ⟨ret_eq (by first | rfl | exact congrArg Value.bool (beq_iff_eq.2 (by omega))), rfl⟩

theorem rank_gives (c : Nat) (hc : c < 18446744073709551616) (R : Int) (h : (Fl.rank c : Int) = R) : RankGives c R := fun w => by
  rw [← h]; exact rank_any c hc w
theorem less_gives (a b : Nat) (ha : a < 18446744073709551616) (hb : b < 18446744073709551616) (h : Fl.rank a < Fl.rank b) : LessGives a b true ∧ BeforeGives a b true := by
  constructor
  · intro w; have := less_any a b ha hb w; rw [decide_eq_true h] at this; exact this
  · intro w; have := before_any a b ha hb w; rw [decide_eq_true h] at this; exact this

theorem key_ge (b : Nat) (h : b < 9223372036854775808) : Fl.key b = (b : Int) := by unfold Fl.key; rw [if_neg (by omega), Fl.nonneg_rung b h]
theorem key_lt (b : Nat) (h : 9223372036854775808 ≤ b) (hb : b < 18446744073709551616) : Fl.key b = 9223372036854775808 - (b : Int) := by unfold Fl.key Fl.rung; rw [if_pos h]; omega
theorem nan_of (c : Nat) (h : c % 9223372036854775808 ≤ 9218868437227405312) : Fl.nan c = false := by unfold Fl.nan Fl.rung; exact decide_eq_false (by omega)

theorem next_gives (b y R : Nat) (hb : b < 18446744073709551616) (hf : b % 9223372036854775808 < 9218868437227405312) (h0 : 0 < b % 9223372036854775808) (hy : y = 9218868437227405312 ∨ y = 18442240474082181120)
    (hR : R = if (y = 9218868437227405312 ↔ b < 9223372036854775808) then b + 1 else b - 1) : NextGives b y R := fun w => by
  have nb : Fl.nan b = false := nan_of b (by omega)
  have n0 : Fl.nan 0 = false := by decide
  have k0 : Fl.key 0 = 0 := by decide +kernel
  have kp : Fl.key 9218868437227405312 = 9218868437227405312 := by decide +kernel
  have kn : Fl.key 18442240474082181120 = -9218868437227405312 := by decide +kernel
  have hyl : y < 18446744073709551616 := by omega
  have ny : Fl.nan y = false := by rcases hy with rfl | rfl <;> decide
  have kb : Fl.key b = if b < 9223372036854775808 then (b : Int) else 9223372036854775808 - (b : Int) := by
    split
    · exact key_ge b (by omega)
    · exact key_lt b (by omega) hb
  refine next_core b y R (decide (Fl.key b < Fl.key y)) (decide (0 < Fl.key b)) hb hyl nb ny ?_ ?_ (Fl.ord_gt y b hyl hb ny nb) ?_ (by omega) (by omega) ?_ ?_ w
  · rw [Fl.ord_eq b y hb hyl nb ny]
    refine decide_eq_false ?_
    rcases hy with rfl | rfl
    · rw [kp, kb]; split <;> omega
    · rw [kn, kb]; split <;> omega
  · rw [Fl.ord_eq b 0 hb (by decide) nb n0, k0, kb]
    refine decide_eq_false ?_
    split <;> omega
  · rw [Fl.ord_gt b 0 hb (by decide) nb n0, k0]
  · intro h
    rw [decide_eq_decide] at h
    rcases hy with rfl | rfl
    · rw [kp, kb] at h
      by_cases hs : b < 9223372036854775808
      · rw [hR, if_pos (by simp [hs])]
      · rw [if_neg hs] at h; omega
    · rw [kn, kb] at h
      by_cases hs : b < 9223372036854775808
      · rw [if_pos hs] at h; omega
      · rw [hR, if_pos (by simp [hs])]
  · intro h
    rw [ne_eq, decide_eq_decide] at h
    rcases hy with rfl | rfl
    · rw [kp, kb] at h
      by_cases hs : b < 9223372036854775808
      · rw [if_pos hs] at h; omega
      · rw [hR, if_neg (by simp [hs])]; omega
    · rw [kn, kb] at h
      by_cases hs : b < 9223372036854775808
      · rw [hR, if_neg (by simp [hs])]; omega
      · rw [if_neg hs] at h; omega

set_option maxHeartbeats 1000000 in
theorem realNext_nan (b : Nat) (hb : b < 18446744073709551616) (h : Fl.nan b = true) (w : World) :
    Calls Try.prog 9 #[.float .f64 b] w fun e w' => e = .returned (.bool true) ∧ w = w' := by
  go_enter Try.func9, Try.ntmps9
  go_wp2_with (first
    | (go_at_call 11; ((with_reducible refine (awake_any _).mono ?_); rintro e w' ⟨rfl, rfl⟩))
    | (go_at_call 28; ((with_reducible refine (isNaN_any _ hb _).mono ?_); rintro e w' ⟨rfl, rfl⟩)))
  go_ret
  exact ⟨rfl, rfl⟩
set_option maxHeartbeats 1000000 in
theorem realNext_inf (b : Nat) (hb : b < 18446744073709551616) (h : Fl.nan b = false) (h1 : decide (Fl.rung b = 9218868437227405312) = true) (w : World) :
    Calls Try.prog 9 #[.float .f64 b] w fun e w' => e = .returned (.bool true) ∧ w = w' := by
  go_enter Try.func9, Try.ntmps9
  go_wp2_with (first
    | (go_at_call 11; ((with_reducible refine (awake_any _).mono ?_); rintro e w' ⟨rfl, rfl⟩))
    | (go_at_call 28; ((with_reducible refine (isNaN_any _ hb _).mono ?_); rintro e w' ⟨rfl, rfl⟩))
    | (go_at_call 29; ((with_reducible refine (isInf_any _ hb _).mono ?_); rintro e w' ⟨rfl, rfl⟩)))
  go_ret
  exact ⟨rfl, rfl⟩
set_option maxHeartbeats 1000000 in
theorem realNext_zero (b : Nat) (hb : b < 18446744073709551616) (h : Fl.nan b = false) (h1 : decide (Fl.rung b = 9218868437227405312) = false) (h2 : (FloatKind.f64.format.order b 0 == some .eq) = true) (w : World) :
    Calls Try.prog 9 #[.float .f64 b] w fun e w' => e = .returned (.bool true) ∧ w = w' := by
  go_enter Try.func9, Try.ntmps9
  go_wp2_with (first
    | (go_at_call 11; ((with_reducible refine (awake_any _).mono ?_); rintro e w' ⟨rfl, rfl⟩))
    | (go_at_call 28; ((with_reducible refine (isNaN_any _ hb _).mono ?_); rintro e w' ⟨rfl, rfl⟩))
    | (go_at_call 29; ((with_reducible refine (isInf_any _ hb _).mono ?_); rintro e w' ⟨rfl, rfl⟩)))
  go_ret
  exact ⟨rfl, rfl⟩

theorem rank_up (c d : Nat) (nc : Fl.nan c = false) (nd : Fl.nan d = false) (h : 9223372036854775808 ≤ c ∧ d + 1 = c ∧ 9223372036854775808 ≤ d ∧ c < 18446744073709551616 ∨ d < 9223372036854775808 ∧ d = c + 1) : (Fl.rank d : Int) = Fl.rank c + 1 := by
  have r1 := Fl.rank_cases c
  have r2 := Fl.rank_cases d
  rw [Fl.canon_num c nc] at r1
  rw [Fl.canon_num d nd] at r2
  omega

theorem realNext_any (b : Nat) (hb : b < 18446744073709551616) (w : World) :
    Calls Try.prog 9 #[.float .f64 b] w fun e w' => e = .returned (.bool true) ∧ w = w' := by
  cases n0 : Fl.nan b
  · have hn : b % 9223372036854775808 ≤ 9218868437227405312 := by unfold Fl.nan Fl.rung at n0; rw [decide_eq_false_iff_not] at n0; omega
    cases n1 : decide (Fl.rung b = 9218868437227405312)
    · have hi : b % 9223372036854775808 < 9218868437227405312 := by unfold Fl.rung at n1; rw [decide_eq_false_iff_not] at n1; omega
      cases e1 : (FloatKind.f64.format.order b 0 == some .eq)
      · have h0 : 0 < b % 9223372036854775808 := by
          rcases Nat.eq_zero_or_pos (b % 9223372036854775808) with h | h
          · exfalso
            rw [Fl.ord_eq b 0 hb (by decide) n0 (by decide), decide_eq_false_iff_not] at e1
            refine e1 ?_
            rw [show Fl.key 0 = 0 by decide +kernel]
            unfold Fl.key Fl.rung; rw [h]; split <;> rfl
          · exact h
        by_cases hs : b < 9223372036854775808
        · have nu : Fl.nan (b + 1) = false := nan_of _ (by omega)
          have nd : Fl.nan (b - 1) = false := nan_of _ (by omega)
          have r1 := rank_up b (b + 1) n0 nu (by omega)
          have r2 := rank_up (b - 1) b nd n0 (by omega)
          have q1 := Fl.rank_lt (b + 1) (by omega)
          obtain ⟨l1, l3⟩ := less_gives b (b + 1) hb (by omega) (by omega)
          obtain ⟨l2, l4⟩ := less_gives (b - 1) b (by omega) hb (by omega)
          exact realNext_core b (b + 1) (b - 1) (Fl.rank b) _ _ hb n0 n1 e1 rfl rfl
            (next_gives b _ _ hb hi h0 (Or.inl rfl) (by rw [if_pos (by simp [hs])])) (next_gives b _ _ hb hi h0 (Or.inr rfl) (by rw [if_neg (by simp [hs])]))
            (rank_gives _ (by omega) _ r1) (rank_gives _ hb _ rfl) (rank_gives _ (by omega) _ (by omega)) (by omega) (by omega) l1 l2 l3 l4 w
        · have nu : Fl.nan (b - 1) = false := nan_of _ (by omega)
          have nd : Fl.nan (b + 1) = false := nan_of _ (by omega)
          have r1 := rank_up b (b - 1) n0 nu (by omega)
          have r2 := rank_up (b + 1) b nd n0 (by omega)
          have q1 := Fl.rank_lt (b - 1) (by omega)
          obtain ⟨l1, l3⟩ := less_gives b (b - 1) hb (by omega) (by omega)
          obtain ⟨l2, l4⟩ := less_gives (b + 1) b (by omega) hb (by omega)
          exact realNext_core b (b - 1) (b + 1) (Fl.rank b) _ _ hb n0 n1 e1 rfl rfl
            (next_gives b _ _ hb hi h0 (Or.inl rfl) (by rw [if_neg (by simp [hs])])) (next_gives b _ _ hb hi h0 (Or.inr rfl) (by rw [if_pos (by simp [hs])]))
            (rank_gives _ (by omega) _ r1) (rank_gives _ hb _ rfl) (rank_gives _ (by omega) _ (by omega)) (by omega) (by omega) l1 l2 l3 l4 w
      · exact realNext_zero b hb n0 n1 e1 w
    · exact realNext_inf b hb n0 n1 w
  · exact realNext_nan b hb n0 w

end Go.Proofs.Ytojdgbiklcdfnaa
