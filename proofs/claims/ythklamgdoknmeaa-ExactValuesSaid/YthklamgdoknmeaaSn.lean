/-
  The walk of exact.nearest, and of Value.
-/
import Derived.Test.YthklamgdoknmeaaSw
import Derived.Test.YthklamgdoknmeaaSr
set_option linter.unusedSimpArgs false
set_option linter.unusedVariables false
set_option maxRecDepth 8000
namespace Go.Proofs.Ythklamgdoknmeaa
open Go.RowKit Sm

theorem Kp.stored {w0 : World} {g : Nat} {cs : Array Value} {t : TypeId} {w : World} (h : Kp w0 g cs t w) (hg : w0.heap.size ≤ g) (cs' : Array Value) : Kp w0 g cs' t (w.setRow g cs') :=
  ⟨below_setRow h.below hg _, setRow_heap _ _ _ _ _ _ h.row⟩

def NgGives (n N : Nat) : Prop := ∀ w, Calls Try.prog 75 #[.agg (A35 (wd n))] w fun e w' => e = .returned (.agg (A35 (wd N))) ∧ Below w.heap.size w w'
def BlGives (n L : Nat) : Prop := ∀ w, Calls Try.prog 76 #[.agg (A35 (wd n))] w fun e w' => e = .returned (.int .i64 L) ∧ Below w.heap.size w w'
def RuGives (n : Nat) (S : Int) (b : Bool) : Prop := ∀ w, Calls Try.prog 78 #[.agg (A35 (wd n)), .int .i64 S] w fun e w' => e = .returned (.bool b) ∧ Below w.heap.size w w'
theorem NgGives.at {n N : Nat} (h : NgGives n N) (w : World) : Calls Try.prog 75 #[.agg (A35 (wd n))] w fun e w' => e = .returned (.agg (A35 (wd N))) ∧ Below w.heap.size w w' := h w
theorem BlGives.at {n L : Nat} (h : BlGives n L) (w : World) : Calls Try.prog 76 #[.agg (A35 (wd n))] w fun e w' => e = .returned (.int .i64 L) ∧ Below w.heap.size w w' := h w
theorem RuGives.at {n : Nat} {S : Int} {b : Bool} (h : RuGives n S b) (w : World) : Calls Try.prog 78 #[.agg (A35 (wd n)), .int .i64 S] w fun e w' => e = .returned (.bool b) ∧ Below w.heap.size w w' := h w

/-- The word of a sign, and of what lies on a rung, or above all. -/
def Wf (sg ov : Bool) (R : Int) : Nat := (if ov then 9218868437227405312 else R.toNat) + (if sg then 9223372036854775808 else 0)
theorem or_none (R : Int) (h0 : 0 ≤ R) (h1 : R ≤ 9218868437227405312) : bits .or .u64 R 0 = (R.toNat : Nat) := by
  have h := bits_or_u64_nat R.toNat 0 (by omega) (by decide)
  rw [Nat.or_zero] at h
  rw [← h]; congr 1; omega
theorem or_some (R : Int) (h0 : 0 ≤ R) (h1 : R ≤ 9218868437227405312) : bits .or .u64 R 9223372036854775808 = ((R.toNat + 9223372036854775808 : Nat) : Int) := by
  rw [← Fl.or_sign _ (by omega)]; congr 1; omega
theorem canon_low (r : Nat) (h : r % 9223372036854775808 ≤ 9218868437227405312) : Fl.canon r = r := by
  unfold Fl.canon Fl.nan Fl.rung; rw [if_neg]; rw [decide_eq_true_eq]; omega
theorem of_or0 (R : Int) (h0 : 0 ≤ R) (h1 : R ≤ 9218868437227405312) (w : World) :
    Calls Try.prog 56 #[.int .u64 (bits .or .u64 R 0)] w fun e w' => e = .returned (.float .f64 R.toNat) ∧ w = w' := by
  have h := of_any R.toNat (by omega) w
  rwa [← or_none R h0 h1, canon_low _ (by omega)] at h
theorem of_or1 (R : Int) (h0 : 0 ≤ R) (h1 : R ≤ 9218868437227405312) (w : World) :
    Calls Try.prog 56 #[.int .u64 (bits .or .u64 R 9223372036854775808)] w fun e w' => e = .returned (.float .f64 (R.toNat + 9223372036854775808)) ∧ w = w' := by
  have h := of_any (R.toNat + 9223372036854775808) (by omega) w
  rwa [← or_some R h0 h1, canon_low _ (by omega)] at h
theorem wf00 {R R' : Int} (h : R' = R) : R'.toNat = Wf false false R := by rw [h]; unfold Wf; simp
theorem wf10 {R R' : Int} (h : R' = R) : R'.toNat + 9223372036854775808 = Wf true false R := by rw [h]; unfold Wf; simp
theorem wf01 {R : Int} : (9218868437227405312 : Int).toNat = Wf false true R := by unfold Wf; simp
theorem wf11 {R : Int} : (9218868437227405312 : Int).toNat + 9223372036854775808 = Wf true true R := by unfold Wf; simp
theorem tup_eq {a b : Nat} {c : Bool} (h : a = b) : Ending.returned (.tuple #[.float .f64 a, .bool c]) = Ending.returned (.tuple #[.float .f64 b, .bool c]) := by rw [h]

set_option maxHeartbeats 2000000 in
theorem nearest_core (n N L : Nat) (S : Int) (X : Int) (b sg ov : Bool) (hN : sg = true → NgGives n N) (hN2 : sg = false → N = n) (hL : BlGives N L) (hX : BfGives N S X) (hb : RuGives N S b)
    (hsg : bits .and .u64 (wd n 34 : Int) 9223372036854775808 = if sg then 9223372036854775808 else 0) (hov : if ov then 9218868437227405312 ≤ S * 4503599627370496 + X + b.toNat else S * 4503599627370496 + X + b.toNat < 9218868437227405312) (hs : L < 53 ∧ S = 0 ∨ 53 ≤ L ∧ S = (L : Int) - 52 - 1) (hl : L ≤ 2240) (hx0 : 0 ≤ X) (hx : X < 9007199254740992) (w : World) :
    Calls Try.prog 48 #[.agg (A35 (wd n))] w fun e w' => e = .returned (.tuple #[.float .f64 (Wf sg ov (S * 4503599627370496 + X + b.toNat)), .bool ov]) ∧ Below w.heap.size w w' := by
  have hg := A35_get (wd n) 34 (by omega)
  have hk := Kp.start w (A35 (wd n)) 25
  rcases hs with ⟨hs, rfl⟩ | ⟨hs, rfl⟩ <;> cases sg <;> cases b <;> cases ov
  all_goals simp only [if_true, if_false, Bool.toNat_true, Bool.toNat_false, Bool.false_eq_true, reduceIte] at hsg hov
  all_goals try (exfalso; omega)
  all_goals first
    | (have hN := hN rfl; clear hN2)
    | (obtain rfl : N = n := hN2 rfl; clear hN)
  all_goals
    go_enter Try.func48, Try.ntmps48
    go_wp2_with (first
      | (refine wpList_load_row_w rfl 25 (.tmp 1) rfl w.heap.size rfl _ (A35 _) (0, 0) _ hk.row u35 rfl (i35' _) ?_)
      | (refine wpList_store_row rfl 25 (.tmp 1) (.tmp 13) rfl w.heap.size (A35 (wd N)) rfl rfl _ _ hk.row (i35' _) (by rw [A35_size, A35_size]) (one35 _) ?_; replace hk := hk.stored (Nat.le_refl _) (A35 (wd N)))
      | (go_at_call 75; (with_reducible refine (hN.at _).mono ?_); rintro e w' ⟨rfl, hb⟩; replace hk := hk.next hb; clear hb)
      | (go_at_call 76; (with_reducible refine (hL.at _).mono ?_); rintro e w' ⟨rfl, hb⟩; replace hk := hk.next hb; clear hb)
      | (go_at_call 77; (with_reducible refine (hX.at _).mono ?_); rintro e w' ⟨rfl, hb⟩; replace hk := hk.next hb; clear hb)
      | (go_at_call 78; (with_reducible refine (hb.at _).mono ?_); rintro e w' ⟨rfl, hb⟩; replace hk := hk.next hb; clear hb)
      | (go_at_call 56; (first | (with_reducible refine (of_or0 _ ?h0 ?h1 _).mono ?_) | (with_reducible refine (of_or1 _ ?h0 ?h1 _).mono ?_)); (case h0 => omega); (case h1 => omega); rintro e w' ⟨rfl, rfl⟩))
    go_ret2
    refine ⟨tup_eq ?_, hk.below⟩
    simp only [Bool.toNat_true, Bool.toNat_false]
    first
      | exact wf01
      | exact wf11
      | (refine wf00 ?_; omega)
      | (refine wf10 ?_; omega)

theorem sgn_and (n : Nat) (hn : n < top) : bits .and .u64 (wd n 34 : Int) 9223372036854775808 = if sgn n then 9223372036854775808 else 0 := by
  rw [Fl.and_sign _ (wd_lt _ _), sgn_word n hn]
  by_cases h : 9223372036854775808 ≤ wd n 34 <;> simp [h]
theorem odd_and (x : Nat) (h : x < 18446744073709551616) : bits .and .u64 (x : Int) 1 = ((x % 2 : Nat) : Int) := by
  have h := bits_and_u64_nat x 1 h (by decide)
  rw [Nat.and_one_is_mod] at h
  exact h
theorem odd0 (x : Nat) (h : x < 18446744073709551616) : (bits .and .u64 (x : Int) 1 == 0) = decide (x % 2 = 0) := by
  rw [odd_and x h, Bool.eq_iff_iff, beq_iff_eq, decide_eq_true_eq]; omega
theorem odd1 (x : Nat) (h : x < 18446744073709551616) : (bits .and .u64 (x : Int) 1 == 1) = decide (x % 2 = 1) := by
  rw [odd_and x h, Bool.eq_iff_iff, beq_iff_eq, decide_eq_true_eq]; omega
theorem roundsUp_gives (m s : Nat) (hm : m < top) (hs : s < 2240) : RuGives m (s : Int) (rup m s) := by
  intro w
  rcases s with _ | s
  · have : rup m 0 = false := by unfold rup; simp
    rw [this]; exact roundsUp_zero m w
  · have h := roundsUp_core m s (m / 2 ^ s % 18446744073709551616 : Nat) (m / 2 ^ (s + 1) % 18446744073709551616 : Nat) _ _ _ hs (fun w => bitsFrom_any m s (by omega) hm w) (fun w => bitsFrom_any m (s + 1) hs hm w)
      (fun w => anyBelow_any m s (by omega) w) rfl rfl w
    have e : (!(bits .and .u64 ((m / 2 ^ s % 18446744073709551616 : Nat) : Int) 1 == 0) && (bits .and .u64 ((m / 2 ^ (s + 1) % 18446744073709551616 : Nat) : Int) 1 == 1 || decide (m % 2 ^ s ≠ 0))) = rup m (s + 1) := by
      rw [odd0 _ (Nat.mod_lt _ (by decide)), odd1 _ (Nat.mod_lt _ (by decide))]
      unfold rup
      rw [Nat.add_sub_cancel]
      generalize m / 2 ^ s = a
      generalize m / 2 ^ (s + 1) = b
      have h1 : a % 18446744073709551616 % 2 = a % 2 := by omega
      have h2 : b % 18446744073709551616 % 2 = b % 2 := by omega
      rw [h1, h2, ← decide_not]
      have h3 : (a % 2 = 1) ↔ ¬ (a % 2 = 0) := by omega
      have h4 : decide (a % 2 = 1) = decide (¬ (a % 2 = 0)) := decide_eq_decide.2 h3
      rw [h4]; simp
    rw [e] at h
    exact h

/-- What nearest tells of a number of 35 words. -/
theorem nearest_any (n : Nat) (hn : n < top) (w : World) :
    Calls Try.prog 48 #[.agg (A35 (wd n))] w fun e w' => e = .returned (.tuple #[.float .f64 (Ieee.double.nearest (sgn n) (mag n) (-1074)), .bool (decide (9218868437227405312 ≤ rnd (mag n)))]) ∧ Below w.heap.size w w' := by
  have hm := mag_lt n hn
  have hL := len_le _ hm
  have hq := quot_lt (mag n)
  have hd : drop (mag n) < 2240 := by unfold drop; omega
  have hX : BfGives (mag n) (drop (mag n) : Int) ((mag n / 2 ^ drop (mag n) : Nat) : Int) := by
    intro w
    have h := bitsFrom_any (mag n) (drop (mag n)) hd hm w
    rwa [Nat.mod_eq_of_lt (by omega)] at h
  have hR : ((drop (mag n) : Nat) : Int) * 4503599627370496 + ((mag n / 2 ^ drop (mag n) : Nat) : Int) + ((rup (mag n) (drop (mag n))).toNat : Nat) = (rnd (mag n) : Nat) := by
    unfold rnd
    generalize mag n / 2 ^ drop (mag n) = q
    omega
  have h := nearest_core n (mag n) (bitLen (mag n)) (drop (mag n) : Nat) ((mag n / 2 ^ drop (mag n) : Nat) : Int) (rup (mag n) (drop (mag n))) (sgn n) (decide (9218868437227405312 ≤ rnd (mag n)))
    (fun hs w => by have h := negated_any n (Nat.le_of_lt hn) w; unfold mag; rw [if_pos hs]; exact h)
    (fun hs => by unfold mag; rw [hs]; rfl) (fun w => bitLength_any _ hm w) hX (roundsUp_gives _ _ hm hd) (sgn_and n hn)
    (by rw [hR]; by_cases h : 9218868437227405312 ≤ rnd (mag n)
        · rw [if_pos (decide_eq_true h)]; omega
        · rw [if_neg (by rw [decide_eq_true_eq]; exact h)]; omega)
    (by unfold drop; omega) hL (Int.natCast_nonneg _) (Int.ofNat_lt.2 hq) w
  rw [hR] at h
  have e : Wf (sgn n) (decide (9218868437227405312 ≤ rnd (mag n))) (rnd (mag n) : Nat) = Ieee.double.nearest (sgn n) (mag n) (-1074) := by
    rw [nearest_rnd, word_eq]
    unfold Wf
    rw [Int.toNat_natCast]
    congr 1
    by_cases h : 9218868437227405312 ≤ rnd (mag n)
    · rw [if_pos (decide_eq_true h), Nat.min_eq_right h]
    · rw [if_neg (by rw [decide_eq_true_eq]; exact h), Nat.min_eq_left (by omega)]
  rw [e] at h
  exact h

end Go.Proofs.Ythklamgdoknmeaa
