/-
  Plain facts on the words of a float64: which word is no number, and that the order of two numbers is the order of their words read as whole numbers with a sign. No program stands here.
-/
import Derived.Laws.Cover2
import Derived.Laws.FloatBits
import Derived.Laws.Bits64b
import Derived.Laws.BitsAllLaws
import Derived.Test.YtpobfgokikfmbaaDoorRows
import Derived.WalkKit
import Derived.WalkSpells
import Derived.WalkLawsBesides
import Derived.Lib.Hide
import Derived.Lib.Bytealg
import Derived.BigRegion
import Derived.Deep.RegionHeld3
import Derived.Deep.Draws
import Derived.Outline
import Derived.Sort.Grow
import Derived.Shelf.SlSortCmp.InsertionK
import Derived.Shelf.SlicesE.Clone
import Derived.Lib.OwnBridge
import Derived.Deep.DeepCutAuto
import Derived.Deep.QuietTactic
import Derived.BigQuiet
import Derived.Deep.AppendLies
import Derived.Laws.CopyOwn
import Derived.Maps.AppendAt
import Derived.Laws.BytesArg
import Derived.Lib.SlBytesConst
import Derived.Below
namespace Go.Proofs.YtpobfgokikfmbaaDoor.Fl
open Ieee

/-- The word's magnitude: all but the sign. -/
def rung (b : Nat) : Nat := b % 9223372036854775808
/-- Is it no number? -/
def nan (b : Nat) : Bool := decide (9218868437227405312 < rung b)
/-- The one word of what is no number. -/
def canon (b : Nat) : Nat := if nan b then 9221120237041090560 else b
/-- The word as a whole number with a sign. -/
def key (b : Nat) : Int := if 9223372036854775808 ≤ b then -(rung b : Int) else (rung b : Int)
/-- The place among all. -/
def rank (b : Nat) : Nat := if 9223372036854775808 ≤ canon b then 18446744073709551615 - canon b else canon b + 9223372036854775808

def mant (r : Nat) : Nat := if r < 4503599627370496 then r else 4503599627370496 + r % 4503599627370496
def shf (r : Nat) : Nat := if r < 4503599627370496 then 0 else r / 4503599627370496 - 1
def val (r : Nat) : Nat := mant r * 2 ^ shf r

theorem signW : Format.signWeight double = 9223372036854775808 := by decide
theorem binadeW : Format.binade double = 4503599627370496 := by decide
theorem infW : Format.infRung double = 9218868437227405312 := by decide
theorem leastW : Format.leastPlace double = -1074 := by decide

theorem neg_eq (b : Nat) (hb : b < 18446744073709551616) : (b / 9223372036854775808 % 2 == 1) = decide (9223372036854775808 ≤ b) := by
  rw [Bool.eq_iff_iff, beq_iff_eq, decide_eq_true_eq]; omega

theorem read_num (b : Nat) (hb : b < 18446744073709551616) (h : rung b < 9218868437227405312) :
    double.read b = .number (decide (9223372036854775808 ≤ b)) (mant (rung b)) (-1074 + (shf (rung b) : Nat)) := by
  unfold Format.read
  simp only [signW, binadeW, infW, leastW, neg_eq b hb]
  unfold rung at h
  unfold mant shf rung
  by_cases h1 : b % 9223372036854775808 < 4503599627370496
  · simp [h1]
  · simp only [h1, h, if_true, if_false]

theorem read_inf (b : Nat) (hb : b < 18446744073709551616) (h : rung b = 9218868437227405312) :
    double.read b = .infinity (decide (9223372036854775808 ≤ b)) := by
  unfold Format.read
  simp only [signW, binadeW, infW, leastW, neg_eq b hb]
  unfold rung at h
  simp [h]

theorem read_nan (b : Nat) (h : nan b = true) : (double.read b).isNaN = true := by
  unfold Format.read
  simp only [signW, binadeW, infW, leastW]
  unfold nan rung at h
  simp only [decide_eq_true_eq] at h
  rw [if_neg (by omega), if_neg (by omega), if_neg (by omega)]
  rfl

theorem order_nan_l (a b : Nat) (h : nan a = true) : double.order a b = none := by
  have := read_nan a h
  unfold Format.order
  cases hr : double.read a <;> simp_all [Datum.isNaN, Datum.order]

theorem order_nan_r (a b : Nat) (h : nan b = true) : double.order a b = none := by
  have := read_nan b h
  unfold Format.order
  cases hr : double.read b <;> simp_all [Datum.isNaN]
  cases double.read a <;> rfl

theorem val_lt_of_lt {r q : Nat} (h : r < q) : val r < val q := by
  unfold val mant shf
  by_cases hq : q < 4503599627370496
  · have hr : r < 4503599627370496 := by omega
    simp [hr, hq, h]
  · rw [if_neg hq, if_neg hq]
    by_cases hr : r < 4503599627370496
    · rw [if_pos hr, if_pos hr]
      have : 1 ≤ 2 ^ (q / 4503599627370496 - 1) := Nat.one_le_two_pow
      calc r * 2 ^ 0 = r := by simp
        _ < 4503599627370496 * 1 := by omega
        _ ≤ (4503599627370496 + q % 4503599627370496) * 2 ^ (q / 4503599627370496 - 1) := Nat.mul_le_mul (by omega) this
    · rw [if_neg hr, if_neg hr]
      by_cases he : r / 4503599627370496 = q / 4503599627370496
      · rw [he]
        exact Nat.mul_lt_mul_of_pos_right (by omega) (Nat.two_pow_pos _)
      · have hlt : r / 4503599627370496 - 1 + 1 ≤ q / 4503599627370496 - 1 := by omega
        calc (4503599627370496 + r % 4503599627370496) * 2 ^ (r / 4503599627370496 - 1)
            < (4503599627370496 * 2) * 2 ^ (r / 4503599627370496 - 1) := Nat.mul_lt_mul_of_pos_right (by omega) (Nat.two_pow_pos _)
          _ = 4503599627370496 * 2 ^ (r / 4503599627370496 - 1 + 1) := by rw [Nat.pow_succ, Nat.mul_assoc, Nat.mul_comm 2]
          _ ≤ 4503599627370496 * 2 ^ (q / 4503599627370496 - 1) := Nat.mul_le_mul (Nat.le_refl _) (Nat.pow_le_pow_right (by decide) hlt)
          _ ≤ (4503599627370496 + q % 4503599627370496) * 2 ^ (q / 4503599627370496 - 1) := Nat.mul_le_mul (by omega) (Nat.le_refl _)

theorem val_zero : val 0 = 0 := by decide
theorem val_lt_iff (r q : Nat) : val r < val q ↔ r < q := by
  constructor
  · intro h
    by_cases hc : r < q
    · exact hc
    · exfalso
      rcases Nat.lt_or_eq_of_le (Nat.le_of_not_lt hc) with h1 | h1
      · exact absurd (val_lt_of_lt h1) (by omega)
      · subst h1; omega
  · exact val_lt_of_lt
theorem val_pos {r : Nat} (h : 0 < r) : 0 < val r := by have := val_lt_of_lt h; rw [val_zero] at this; exact this

theorem shiftLeft_mul (m a : Nat) : m <<< a = m * 2 ^ a := Nat.shiftLeft_eq m a

theorem cmp_int (a b c d : Int) (h1 : a < b ↔ c < d) (h2 : a = b ↔ c = d) : compare a b = compare c d := by
  show compareOfLessAndEq a b = compareOfLessAndEq c d
  unfold compareOfLessAndEq
  by_cases x : a < b
  · rw [if_pos x, if_pos (h1.1 x)]
  · rw [if_neg x, if_neg (fun h => x (h1.2 h))]
    by_cases y : a = b
    · rw [if_pos y, if_pos (h2.1 y)]
    · rw [if_neg y, if_neg (fun h => y (h2.2 h))]

/-- A number with its sign. -/
def sg (n : Bool) (m : Nat) : Int := if n then -(m : Int) else (m : Int)

theorem cmp_sg (n k : Bool) (a b c d : Nat) (h1 : a < b ↔ c < d) (h2 : b < a ↔ d < c) (h0 : a = 0 ↔ c = 0) (h3 : b = 0 ↔ d = 0) :
    compare (sg n a) (sg k b) = compare (sg n c) (sg k d) := by
  unfold sg
  apply cmp_int <;> cases n <;> cases k <;> simp <;> omega

theorem scaled_lt (m s n t : Nat) : (m <<< (s - min s t) < n <<< (t - min s t)) ↔ m * 2 ^ s < n * 2 ^ t := by
  rw [shiftLeft_mul, shiftLeft_mul]
  have hp : 0 < 2 ^ min s t := Nat.two_pow_pos _
  have e1 : m * 2 ^ s = m * 2 ^ (s - min s t) * 2 ^ min s t := by rw [Nat.mul_assoc, ← Nat.pow_add, Nat.sub_add_cancel (Nat.min_le_left ..)]
  have e2 : n * 2 ^ t = n * 2 ^ (t - min s t) * 2 ^ min s t := by rw [Nat.mul_assoc, ← Nat.pow_add, Nat.sub_add_cancel (Nat.min_le_right ..)]
  rw [e1, e2]
  exact (Nat.mul_lt_mul_right hp).symm

theorem shl_zero_iff (m a : Nat) : m <<< a = 0 ↔ m = 0 := by
  rw [shiftLeft_mul]
  constructor
  · intro h
    rcases Nat.mul_eq_zero.1 h with h | h
    · exact h
    · exact absurd h (Nat.pos_iff_ne_zero.1 (Nat.two_pow_pos a))
  · intro h; subst h; simp

theorem mant_zero_iff (r : Nat) : mant r = 0 ↔ r = 0 := by
  unfold mant; split <;> omega

theorem min_place (s t : Nat) : ((-1074 + (s : Int)) - min (-1074 + (s : Int)) (-1074 + (t : Int))).toNat = s - min s t := by omega
theorem min_place' (s t : Nat) : ((-1074 + (t : Int)) - min (-1074 + (s : Int)) (-1074 + (t : Int))).toNat = t - min s t := by omega

theorem cmp_lt {a b : Int} (h : a < b) : compare a b = .lt := by
  show compareOfLessAndEq a b = .lt
  unfold compareOfLessAndEq; rw [if_pos h]
theorem cmp_gt {a b : Int} (h : b < a) : compare a b = .gt := by
  show compareOfLessAndEq a b = .gt
  unfold compareOfLessAndEq; rw [if_neg (by omega), if_neg (by omega)]
theorem cmp_inf_r (s t : Bool) (r i : Nat) (h : r < i) : (if t = true then Ordering.gt else Ordering.lt) = compare (sg s r) (sg t i) := by
  cases t
  · rw [cmp_lt (by unfold sg; cases s <;> simp <;> omega)]; simp
  · rw [cmp_gt (by unfold sg; cases s <;> simp <;> omega)]; simp
theorem cmp_inf_l (s t : Bool) (r i : Nat) (h : r < i) : (if t = true then Ordering.lt else Ordering.gt) = compare (sg t i) (sg s r) := by
  cases t
  · rw [cmp_gt (by unfold sg; cases s <;> simp <;> omega)]; simp
  · rw [cmp_lt (by unfold sg; cases s <;> simp <;> omega)]; simp

/-- THE ORDER of what is no NaN is the order of the keys. -/
theorem order_key (a b : Nat) (ha : a < 18446744073709551616) (hb : b < 18446744073709551616) (na : nan a = false) (nb : nan b = false) :
    double.order a b = some (compare (key a) (key b)) := by
  have ka : key a = sg (decide (9223372036854775808 ≤ a)) (rung a) := by unfold key sg; by_cases h : 9223372036854775808 ≤ a <;> simp [h]
  have kb : key b = sg (decide (9223372036854775808 ≤ b)) (rung b) := by unfold key sg; by_cases h : 9223372036854775808 ≤ b <;> simp [h]
  rw [ka, kb]
  simp only [nan, decide_eq_false_iff_not] at na nb
  unfold Format.order
  rcases Nat.lt_or_eq_of_le (Nat.le_of_not_lt na) with h1 | h1 <;> rcases Nat.lt_or_eq_of_le (Nat.le_of_not_lt nb) with h2 | h2
  · rw [read_num a ha h1, read_num b hb h2]
    simp only [Datum.order, Ieee.signed]
    rw [min_place, min_place']
    refine congrArg some ?_
    show compare (sg _ _) (sg _ _) = _
    refine cmp_sg _ _ _ _ _ _ ?_ ?_ ?_ ?_
    · exact (scaled_lt ..).trans (val_lt_iff ..)
    · rw [Nat.min_comm]; exact (scaled_lt ..).trans (val_lt_iff ..)
    · rw [shl_zero_iff, mant_zero_iff]
    · rw [shl_zero_iff, mant_zero_iff]
  · rw [read_num a ha h1, read_inf b hb h2, h2]
    simp only [Datum.order]
    exact congrArg some (cmp_inf_r _ _ _ _ h1)
  · rw [read_inf a ha h1, read_num b hb h2, h1]
    simp only [Datum.order]
    exact congrArg some (cmp_inf_l _ _ _ _ h2)
  · rw [read_inf a ha h1, read_inf b hb h2, h1, h2]
    simp only [Datum.order]
    refine congrArg some ?_
    unfold sg
    by_cases x : 9223372036854775808 ≤ b <;> by_cases y : 9223372036854775808 ≤ a <;> simp [x, y, compare, compareOfLessAndEq]

theorem nan_lt (b : Nat) : nan b = true → rung b < 9223372036854775808 := fun _ => Nat.mod_lt _ (by decide)

/-- Go's 'x != x'. -/
theorem ne_self (b : Nat) (hb : b < 18446744073709551616) : (double.order b b != some .eq) = nan b := by
  cases h : nan b
  · rw [order_key b b hb hb h h]; simp [compare, compareOfLessAndEq]
  · rw [order_nan_l b b h]; rfl

theorem canon_lt (b : Nat) (hb : b < 18446744073709551616) : canon b < 18446744073709551616 := by unfold canon; split <;> omega
theorem canon_canon (b : Nat) : canon (canon b) = canon b := by
  unfold canon
  cases h : nan b
  · simp [h]
  · simp [nan, rung]
theorem nan_canon (b : Nat) : nan (canon b) = nan b := by
  unfold canon
  cases h : nan b
  · simp [h]
  · simp [nan, rung]
theorem rank_lt (b : Nat) (hb : b < 18446744073709551616) : rank b < 18446744073709551616 := by have := canon_lt b hb; unfold rank; split <;> omega
theorem rank_inj (a b : Nat) (ha : a < 18446744073709551616) (hb : b < 18446744073709551616) : rank a = rank b ↔ canon a = canon b := by
  have h1 := canon_lt a ha
  have h2 := canon_lt b hb
  unfold rank
  constructor
  · intro h; split at h <;> split at h <;> omega
  · intro h; rw [h]

theorem rank_cases (b : Nat) : 9223372036854775808 ≤ canon b ∧ rank b = 18446744073709551615 - canon b ∨ canon b < 9223372036854775808 ∧ rank b = canon b + 9223372036854775808 := by
  unfold rank; split <;> omega
theorem canon_cases (b : Nat) : canon b = 9221120237041090560 ∨ canon b % 9223372036854775808 ≤ 9218868437227405312 := by
  unfold canon nan rung; split
  · exact Or.inl rfl
  · rename_i h; rw [decide_eq_true_eq] at h; omega

def minv (a b : Nat) : Nat := if rank b < rank a then canon b else canon a
def maxv (a b : Nat) : Nat := if rank a < rank b then canon b else canon a

theorem canon_num (b : Nat) (h : nan b = false) : canon b = b := by unfold canon; rw [h]; rfl
theorem ord_lt (a b : Nat) (ha : a < 18446744073709551616) (hb : b < 18446744073709551616) (na : nan a = false) (nb : nan b = false) :
    (FloatKind.f64.format.order a b == some .lt) = decide (key a < key b) := by
  show (double.order a b == some .lt) = _
  rw [order_key a b ha hb na nb]
  show (some (compareOfLessAndEq (key a) (key b)) == some .lt) = _
  unfold compareOfLessAndEq
  by_cases h1 : key a < key b
  · simp [h1]
  · by_cases h2 : key a = key b <;> simp [h1, h2]
theorem ord_gt (a b : Nat) (ha : a < 18446744073709551616) (hb : b < 18446744073709551616) (na : nan a = false) (nb : nan b = false) :
    (FloatKind.f64.format.order a b == some .gt) = decide (key b < key a) := by
  show (double.order a b == some .gt) = _
  rw [order_key a b ha hb na nb]
  show (some (compareOfLessAndEq (key a) (key b)) == some .gt) = _
  unfold compareOfLessAndEq
  by_cases h1 : key a < key b
  · simp [h1]; omega
  · by_cases h2 : key a = key b
    · simp [h2]
    · simp [h1, h2]; omega
theorem ord_eq (a b : Nat) (ha : a < 18446744073709551616) (hb : b < 18446744073709551616) (na : nan a = false) (nb : nan b = false) :
    (FloatKind.f64.format.order a b == some .eq) = decide (key a = key b) := by
  show (double.order a b == some .eq) = _
  rw [order_key a b ha hb na nb]
  show (some (compareOfLessAndEq (key a) (key b)) == some .eq) = _
  unfold compareOfLessAndEq
  by_cases h1 : key a < key b
  · simp [h1]; omega
  · by_cases h2 : key a = key b <;> simp [h1, h2]
theorem key_rank (a b : Nat) (ha : a < 18446744073709551616) (hb : b < 18446744073709551616) (na : nan a = false) (nb : nan b = false) (h : key a < key b) : rank a < rank b := by
  have ca := canon_num a na
  have cb := canon_num b nb
  unfold rank; rw [ca, cb]; unfold key rung at h
  by_cases h1 : 9223372036854775808 ≤ a <;> by_cases h2 : 9223372036854775808 ≤ b <;> simp only [h1, h2, if_true, if_false] at h ⊢ <;> omega

theorem rank_canon (b : Nat) : rank (canon b) = rank b := by unfold rank; rw [canon_canon]

/-! What Go's operations on bits give. -/
theorem and_sign (c : Nat) (hc : c < 18446744073709551616) : bits .and .u64 (c : Int) 9223372036854775808 = if 9223372036854775808 ≤ c then 9223372036854775808 else 0 := by
  have h := bits_and_u64_nat c 9223372036854775808 hc (by decide)
  rw [nat_bit63] at h
  refine h.trans ?_
  split <;> omega
theorem or_sign (c : Nat) (hc : c < 9223372036854775808) : bits .or .u64 (c : Int) 9223372036854775808 = ((c + 9223372036854775808 : Nat) : Int) := by
  have h := bits_or_u64_nat c 9223372036854775808 (by omega) (by decide)
  have e : c ||| 9223372036854775808 = c + 9223372036854775808 := by
    have := Nat.two_pow_add_eq_or_of_lt (i := 63) (b := c) hc 1
    rw [Nat.or_comm, Nat.add_comm]
    simpa using this.symm
  rw [e] at h
  exact h
theorem xor_all (c : Nat) (hc : c < 18446744073709551616) : bits .xor .u64 IntKind.u64.max (c : Int) = ((18446744073709551615 - c : Nat) : Int) := by
  have h1 : (BitVec.ofInt 64 (c : Int)).toNat = c := by
    rw [BitVec.ofInt_natCast, BitVec.toNat_ofNat]; exact Nat.mod_eq_of_lt (by omega)
  have h2 : BitVec.ofInt 64 IntKind.u64.max = BitVec.allOnes 64 := by decide
  show IntKind.u64.wrap ((BitVec.ofInt 64 IntKind.u64.max ^^^ BitVec.ofInt 64 (c : Int)).toNat : Int) = _
  rw [h2, BitVec.allOnes_xor, BitVec.toNat_not, h1, IntKind.wrap_u64]
  omega
theorem and_frac (c : Nat) (hc : c < 18446744073709551616) : bits .and .u64 (c : Int) 4503599627370495 = ((c % 4503599627370496 : Nat) : Int) := by
  have h := bits_and_u64_nat c 4503599627370495 hc (by decide)
  rw [nat_mask52] at h
  exact h
theorem and_exp (c : Nat) (hc : c < 18446744073709551616) : bits .and .u64 ((c : Int) / 4503599627370496) 2047 = ((c / 4503599627370496 % 2048 : Nat) : Int) := by
  have h := bits_and_u64_nat (c / 4503599627370496) 2047 (by omega) (by decide)
  rw [nat_mask11] at h
  exact h
theorem or_hidden (c : Nat) (hc : c < 4503599627370496) : bits .or .u64 (c : Int) 4503599627370496 = ((4503599627370496 + c : Nat) : Int) := by
  have h := bits_or_u64_nat c 4503599627370496 (by omega) (by decide)
  have e : c ||| 4503599627370496 = 4503599627370496 + c := by
    have := Nat.two_pow_add_eq_or_of_lt (i := 52) (b := c) hc 1
    rw [Nat.or_comm]
    simpa using this.symm
  rw [e] at h
  exact h
end Go.Proofs.YtpobfgokikfmbaaDoor.Fl

namespace Go.Proofs.YtpobfgokikfmbaaDoor
open Go.RowKit

theorem ret_eq {v v' : Value} (h : v = v') : Ending.returned v = Ending.returned v' := by rw [h]
theorem fmt64 : FloatKind.f64.format = Ieee.double := rfl

theorem fb_run (n : Int) (w : World) : (callFunc 58 #[.int .u64 n]).run Tryd.prog w = .ok (.value (.float .f64 n.toNat)) w := by
  rw [run_callFunc_extern Tryd.func58 (by kernel_rfl) (by kernel_rfl) (by kernel_rfl) (e := Extern.MathFloatBits.float64frombits) (by kernel_rfl)]
  rfl
theorem tb_run (b : Nat) (w : World) : (callFunc 59 #[.float .f64 b]).run Tryd.prog w = .ok (.value (.int .u64 b)) w := by
  rw [run_callFunc_extern Tryd.func59 (by kernel_rfl) (by kernel_rfl) (by kernel_rfl) (e := Extern.MathFloatBits.float64bits) (by kernel_rfl)]
  rfl

set_option maxHeartbeats 400000 in
theorem isNaN_any (b : Nat) (hb : b < 18446744073709551616) (w : World) :
    Calls Tryd.prog 92 #[.float .f64 b] w fun e w' => e = .returned (.bool (Fl.nan b)) ∧ w = w' := by
  have xf := fb_run
  have xt := tb_run
  go_enter Tryd.func92, Tryd.ntmps92
  go_wp2
  go_ret
  exact ⟨ret_eq (congrArg Value.bool (Fl.ne_self b hb)), rfl⟩

set_option maxHeartbeats 400000 in
theorem canon_any (b : Nat) (hb : b < 18446744073709551616) (w : World) :
    Calls Tryd.prog 90 #[.float .f64 b] w fun e w' => e = .returned (.float .f64 (Fl.canon b)) ∧ w = w' := by
  cases h : Fl.nan b
  all_goals
    have h2 : Hid (Fl.nan b = _) := h
    have xf := fb_run
    have xt := tb_run
    go_enter Tryd.func90, Tryd.ntmps90
    go_wp2_with (go_at_call 92; refine (isNaN_any _ hb _).mono ?_; rintro e w' ⟨rfl, rfl⟩)
    go_ret
    exact ⟨ret_eq (by simp [Fl.canon, h2.out]), rfl⟩

set_option maxHeartbeats 400000 in
theorem bits_any (b : Nat) (hb : b < 18446744073709551616) (w : World) :
    Calls Tryd.prog 79 #[.float .f64 b] w fun e w' => e = .returned (.int .u64 (Fl.canon b : Nat)) ∧ w = w' := by
  have xt := tb_run
  go_enter Tryd.func79, Tryd.ntmps79
  go_wp2_with (go_at_call 90; refine (canon_any _ hb _).mono ?_; rintro e w' ⟨rfl, rfl⟩)
  go_ret
  exact ⟨rfl, rfl⟩

set_option maxHeartbeats 400000 in
theorem of_any (b : Nat) (hb : b < 18446744073709551616) (w : World) :
    Calls Tryd.prog 78 #[.int .u64 b] w fun e w' => e = .returned (.float .f64 (Fl.canon b)) ∧ w = w' := by
  have xf := fb_run
  go_enter Tryd.func78, Tryd.ntmps78
  go_wp2_with (go_at_call 90; refine (canon_any _ hb _).mono ?_; rintro e w' ⟨rfl, rfl⟩)
  go_ret
  exact ⟨rfl, rfl⟩

set_option maxHeartbeats 400000 in
theorem refBits_any (b : Nat) (hb : b < 18446744073709551616) (w : World) :
    Calls Tryd.prog 41 #[.float .f64 b] w fun e w' => e = .returned (.int .u64 (Fl.canon b : Nat)) ∧ w = w' := by
  have xt := tb_run
  go_enter Tryd.func41, Tryd.ntmps41
  go_wp2
  all_goals
    go_ret
    refine ⟨ret_eq ?_, rfl⟩
    unfold Fl.canon Fl.nan Fl.rung
  · rename_i h1 h2
    have h3 : (b : Int) % 4503599627370496 ≠ 0 := bne_iff_ne.1 h2
    rw [if_pos (by rw [decide_eq_true_eq]; omega)]; rfl
  · rename_i h1 h2
    have h3 : (b : Int) % 4503599627370496 = 0 := by simpa using h2
    rw [if_neg (by rw [decide_eq_true_eq]; omega)]; rfl
  · rename_i h1
    rw [if_neg (by rw [decide_eq_true_eq]; omega)]; rfl

set_option maxHeartbeats 400000 in
theorem refOf_any (b : Nat) (hb : b < 18446744073709551616) (w : World) :
    Calls Tryd.prog 40 #[.int .u64 b] w fun e w' => e = .returned (.float .f64 (Fl.canon b)) ∧ w = w' := by
  have xf := fb_run
  go_enter Tryd.func40, Tryd.ntmps40
  go_wp2_with (go_at_call 41; refine (refBits_any _ hb _).mono ?_; rintro e w' ⟨rfl, rfl⟩)
  go_ret
  exact ⟨rfl, rfl⟩

theorem cast_beq (x y : Nat) : ((x : Int) == (y : Int)) = decide (x = y) := by
  rw [Bool.eq_iff_iff, beq_iff_eq, decide_eq_true_eq]; omega
theorem cast_lt (x y : Nat) : decide ((x : Int) < (y : Int)) = decide (x < y) := by
  rw [Bool.eq_iff_iff, decide_eq_true_eq, decide_eq_true_eq]; omega

set_option maxHeartbeats 400000 in
theorem refSame_any (a b : Nat) (ha : a < 18446744073709551616) (hb : b < 18446744073709551616) (w : World) :
    Calls Tryd.prog 42 #[.float .f64 a, .float .f64 b] w fun e w' => e = .returned (.bool (decide (Fl.canon a = Fl.canon b))) ∧ w = w' := by
  go_enter Tryd.func42, Tryd.ntmps42
  go_wp2_with (go_at_call 41; refine (refBits_any _ (by assumption) _).mono ?_; rintro e w' ⟨rfl, rfl⟩)
  go_ret
  exact ⟨ret_eq (congrArg Value.bool (cast_beq _ _)), rfl⟩

theorem sign_bool (b : Nat) (hb : b < 18446744073709551616) : (bits .and .u64 (b : Int) 9223372036854775808 != 0) = decide (9223372036854775808 ≤ b) := by
  rw [Fl.and_sign b hb]
  by_cases h : 9223372036854775808 ≤ b <;> simp [h]

end Go.Proofs.YtpobfgokikfmbaaDoor

set_option linter.unusedSimpArgs false
set_option linter.unusedVariables false
namespace Go.Proofs.YtpobfgokikfmbaaDoor
open Go.RowKit Go.Sort

/-- An event. -/
structure Ev where
  off : Nat
  part : Int
  time : Int
  key : ByteArray
  val : Nat
instance : Inhabited Ev := ⟨⟨0, 0, 0, ByteArray.empty, 0⟩⟩
def Ev.cells (x : Ev) : List Value := [.int .u64 (x.off : Int), .int .i64 x.part, .int .i64 x.time, .string x.key, .float .f64 x.val]
/-- -1, 0 or 1. -/
def cmpI (a b : Int) : Int := if a < b then -1 else if b < a then 1 else 0
def or3 (a b c : Int) : Int := if a ≠ 0 then a else if b ≠ 0 then b else c
def cmpK (a b : ByteArray) : Int := Lib.compareBytes a.data.toList b.data.toList
def evCmp (x y : Ev) : Int := or3 (cmpK x.key y.key) (cmpI x.time y.time) (cmpI (x.off : Int) (y.off : Int))

theorem cmpstr_run (a b : ByteArray) (w : World) : (callFunc 81 #[.string a, .string b]).run Tryd.prog w = .ok (.value (.int .i64 (cmpK a b))) w := by
  rw [run_callFunc_extern Tryd.func81 (by kernel_rfl) (by kernel_rfl) (by kernel_rfl) (e := Extern.BytealgCompare.compare) (by kernel_rfl), Lib.run_compareString]
  rfl
set_option maxHeartbeats 400000 in
theorem compareString_any (a b : ByteArray) (w : World) : Calls Tryd.prog 62 #[.string a, .string b] w fun e w' => e = .returned (.int .i64 (cmpK a b)) ∧ w = w' := by
  have xr := fun w => cmpstr_run a b w
  generalize cmpK a b = r at *
  go_enter Tryd.func62, Tryd.ntmps62
  go_wp2
  go_ret
  exact ⟨rfl, rfl⟩
set_option maxHeartbeats 400000 in
theorem strCompare_any (a b : ByteArray) (w : World) : Calls Tryd.prog 45 #[.string a, .string b] w fun e w' => e = .returned (.int .i64 (cmpK a b)) ∧ w = w' := by
  have h := fun w => compareString_any a b w
  generalize cmpK a b = r at *
  have H := Lib.hid h
  clear h
  go_enter Tryd.func45, Tryd.ntmps45
  go_wp2_with (go_at_call 62; refine (H.out _).mono ?_; rintro e w' ⟨rfl, rfl⟩)
  go_ret
  exact ⟨rfl, rfl⟩
set_option maxHeartbeats 400000 in
theorem isNaNI_any (a : Int) (w : World) : Calls Tryd.prog 63 #[.int .i64 a] w fun e w' => e = .returned (.bool false) ∧ w = w' := by
  go_enter Tryd.func63, Tryd.ntmps63
  go_wp2
  go_ret
  exact ⟨rfl, rfl⟩
set_option maxHeartbeats 400000 in
theorem isNaNU_any (a : Int) (w : World) : Calls Tryd.prog 64 #[.int .u64 a] w fun e w' => e = .returned (.bool false) ∧ w = w' := by
  go_enter Tryd.func64, Tryd.ntmps64
  go_wp2
  go_ret
  exact ⟨rfl, rfl⟩
theorem cmpI_lt {a b : Int} (h : a < b) : cmpI a b = -1 := if_pos h
theorem cmpI_gt {a b : Int} (h : b < a) : cmpI a b = 1 := by unfold cmpI; rw [if_neg (by omega), if_pos h]
theorem cmpI_eq {a b : Int} (h1 : ¬ a < b) (h2 : ¬ b < a) : cmpI a b = 0 := by unfold cmpI; rw [if_neg h1, if_neg h2]
set_option maxHeartbeats 400000 in
theorem cmpInt_any (a b : Int) (w : World) : Calls Tryd.prog 46 #[.int .i64 (a : Int), .int .i64 (b : Int)] w fun e w' => e = .returned (.int .i64 (cmpI (a : Int) (b : Int))) ∧ w = w' := by
  have hc : ((a : Int) < b ∧ Hid (cmpI (a : Int) (b : Int) = -1)) ∨ ((b : Int) < a ∧ Hid (cmpI (a : Int) (b : Int) = 1)) ∨ ((¬ (a : Int) < b ∧ ¬ (b : Int) < a) ∧ Hid (cmpI (a : Int) (b : Int) = 0)) := by
    by_cases h1 : (a : Int) < b
    · exact .inl ⟨h1, Lib.hid (cmpI_lt h1)⟩
    · by_cases h2 : (b : Int) < a
      · exact .inr (.inl ⟨h2, Lib.hid (cmpI_gt h2)⟩)
      · exact .inr (.inr ⟨⟨h1, h2⟩, Lib.hid (cmpI_eq h1 h2)⟩)
  generalize cmpI (a : Int) (b : Int) = r at *
  rcases hc with ⟨h1, hr⟩ | ⟨h1, hr⟩ | ⟨⟨h1, h2⟩, hr⟩
  all_goals
    go_enter Tryd.func46, Tryd.ntmps46
    go_wp2_with (go_at_call 63; refine (isNaNI_any _ _).mono ?_; rintro e w' ⟨rfl, rfl⟩)
    go_ret
    exact ⟨ret_eq (by rw [hr.out]; rfl), rfl⟩
set_option maxHeartbeats 400000 in
theorem cmpUint_any (a b : Nat) (w : World) : Calls Tryd.prog 47 #[.int .u64 (a : Int), .int .u64 (b : Int)] w fun e w' => e = .returned (.int .i64 (cmpI (a : Int) (b : Int))) ∧ w = w' := by
  have hc : ((a : Int) < b ∧ Hid (cmpI (a : Int) (b : Int) = -1)) ∨ ((b : Int) < a ∧ Hid (cmpI (a : Int) (b : Int) = 1)) ∨ ((¬ (a : Int) < b ∧ ¬ (b : Int) < a) ∧ Hid (cmpI (a : Int) (b : Int) = 0)) := by
    by_cases h1 : (a : Int) < b
    · exact .inl ⟨h1, Lib.hid (cmpI_lt h1)⟩
    · by_cases h2 : (b : Int) < a
      · exact .inr (.inl ⟨h2, Lib.hid (cmpI_gt h2)⟩)
      · exact .inr (.inr ⟨⟨h1, h2⟩, Lib.hid (cmpI_eq h1 h2)⟩)
  generalize cmpI (a : Int) (b : Int) = r at *
  rcases hc with ⟨h1, hr⟩ | ⟨h1, hr⟩ | ⟨⟨h1, h2⟩, hr⟩
  all_goals
    go_enter Tryd.func47, Tryd.ntmps47
    go_wp2_with (go_at_call 64; refine (isNaNU_any _ _).mono ?_; rintro e w' ⟨rfl, rfl⟩)
    go_ret
    exact ⟨ret_eq (by rw [hr.out]; rfl), rfl⟩
set_option maxHeartbeats 1000000 in
theorem or_any (g : Nat) (a b c r : Int) (hr : or3 a b c = r) (w : World) (h0 : w.cell? ⟨g, 0, none⟩ = some (.int .i64 a)) (h1 : w.cell? ⟨g, 1, none⟩ = some (.int .i64 b)) (h2 : w.cell? ⟨g, 2, none⟩ = some (.int .i64 c)) :
    Calls Tryd.prog 44 #[.slice (some ⟨g, 0, none⟩) 3 3] w fun e w' => e = .returned (.int .i64 r) ∧ w = w' := by
  have HR := Lib.hid hr
  clear hr
  go_enter Tryd.func44, Tryd.ntmps44
  go_wp2
  go_loop [8] (fun i => (i = .int .i64 0) ∨ (i = .int .i64 1 ∧ a = 0) ∨ (i = .int .i64 2 ∧ a = 0 ∧ b = 0) ∨ (i = .int .i64 3 ∧ a = 0 ∧ b = 0 ∧ c = 0)) (fun i => (3 - intOf i).toNat)
  case atStart => exact Or.inl rfl
  case round =>
    rcases hrel with rfl | ⟨rfl, ha⟩ | ⟨rfl, ha, hb⟩ | ⟨rfl, ha, hb, hc⟩
    · by_cases ha : a = 0
      · have ha' : (a == 0) = true := by simpa using ha
        have HA := Lib.hid ha
        clear ha
        go_wp2
        go_round
        case rel => exact Or.inr (Or.inl ⟨rfl, HA.out⟩)
        case measure => simp [intOf]
      · have ha' : (a != 0) = true := by simpa using ha
        go_wp2
        go_ret
        exact ⟨ret_eq (by rw [← HR.out]; unfold or3; rw [if_pos ha]; rfl), rfl⟩
    · have HA := Lib.hid ha
      clear ha
      by_cases hb : b = 0
      · have HB := Lib.hid hb
        have hb' : (b == 0) = true := by simpa using hb
        clear hb
        go_wp2
        go_round
        case rel => exact Or.inr (Or.inr (Or.inl ⟨rfl, HA.out, HB.out⟩))
        case measure => simp [intOf]
      · go_wp2
        go_ret
        exact ⟨ret_eq (by rw [← HR.out]; unfold or3; rw [if_neg (by rw [HA.out]; decide), if_pos hb]; rfl), rfl⟩
    · have HA := Lib.hid ha
      have HB := Lib.hid hb
      clear ha hb
      by_cases hc : c = 0
      · have HC := Lib.hid hc
        have hc' : (c == 0) = true := by simpa using hc
        clear hc
        go_wp2
        go_round
        case rel => exact Or.inr (Or.inr (Or.inr ⟨rfl, HA.out, HB.out, HC.out⟩))
        case measure => simp [intOf]
      · go_wp2
        go_ret
        exact ⟨ret_eq (by rw [← HR.out]; unfold or3; rw [if_neg (by rw [HA.out]; decide), if_neg (by rw [HB.out]; decide)]; rfl), rfl⟩
    · have HA := Lib.hid ha
      have HB := Lib.hid hb
      have HC := Lib.hid hc
      clear ha hb hc
      go_wp2
      go_ret
      exact ⟨ret_eq (by rw [← HR.out]; unfold or3; rw [if_neg (by rw [HA.out]; decide), if_neg (by rw [HB.out]; decide), HC.out]; rfl), rfl⟩
end Go.Proofs.YtpobfgokikfmbaaDoor

set_option linter.unusedSimpArgs false
set_option linter.unusedVariables false
namespace Go.Proofs.YtpobfgokikfmbaaDoor
open Go.RowKit Go.Sort

/-- Two events in two boxes. -/
structure Bx (g h : Nat) (x y : Ev) (w : World) : Prop where
  rx : w.heap[g]? = some (.cells #[.int .u64 (x.off : Int), .int .i64 x.part, .int .i64 x.time, .string x.key, .float .f64 x.val] 36 (0, 0))
  ry : w.heap[h]? = some (.cells #[.int .u64 (y.off : Int), .int .i64 y.part, .int .i64 y.time, .string y.key, .float .f64 y.val] 36 (0, 0))
theorem Bx.cx {g h : Nat} {x y : Ev} {w : World} (H : Bx g h x y w) (j : Nat) (v : Value) (hv : (#[.int .u64 (x.off : Int), .int .i64 x.part, .int .i64 x.time, .string x.key, .float .f64 x.val] : Array Value)[j]? = some v) : w.cell? ⟨g, j, none⟩ = some v := by
  rw [cell_of_row w g j _ _ _ H.rx]; exact hv
theorem Bx.cy {g h : Nat} {x y : Ev} {w : World} (H : Bx g h x y w) (j : Nat) (v : Value) (hv : (#[.int .u64 (y.off : Int), .int .i64 y.part, .int .i64 y.time, .string y.key, .float .f64 y.val] : Array Value)[j]? = some v) : w.cell? ⟨h, j, none⟩ = some v := by
  rw [cell_of_row w h j _ _ _ H.ry]; exact hv
theorem row_alloc' {w : World} {g : Nat} {o : Obj} (h : w.heap[g]? = some o) (q : Obj) : (w.alloc q).heap[g]? = some o := (Below.heap_alloc _ _ _ (Array.getElem?_eq_some_iff.1 h).1).trans h
theorem Bx.alloc {g h : Nat} {x y : Ev} {w : World} (H : Bx g h x y w) (o : Obj) : Bx g h x y (w.alloc o) := ⟨row_alloc' H.rx o, row_alloc' H.ry o⟩
theorem heap_new (w : World) (o : Obj) : (w.alloc o).heap[w.heap.size]? = some o := by show (w.heap.push o)[w.heap.size]? = _; simp
theorem Bx.start (w : World) (x y : Ev) : Bx w.heap.size (w.heap.size + 1) x y ((w.alloc (.cells #[.int .u64 (x.off : Int), .int .i64 x.part, .int .i64 x.time, .string x.key, .float .f64 x.val] 36)).alloc (.cells #[.int .u64 (y.off : Int), .int .i64 y.part, .int .i64 y.time, .string y.key, .float .f64 y.val] 36)).drew :=
  ⟨row_alloc' (by show (w.heap.push _)[w.heap.size]? = _; simp) _, by have h := heap_new (w.alloc (.cells #[.int .u64 (x.off : Int), .int .i64 x.part, .int .i64 x.time, .string x.key, .float .f64 x.val] 36)) (.cells #[.int .u64 (y.off : Int), .int .i64 y.part, .int .i64 y.time, .string y.key, .float .f64 y.val] 36); rw [show (w.alloc (.cells #[.int .u64 (x.off : Int), .int .i64 x.part, .int .i64 x.time, .string x.key, .float .f64 x.val] 36)).heap.size = w.heap.size + 1 from by simp] at h; exact h⟩
/-- Draws and new blocks, and nothing else. -/
def Grew (w w' : World) : Prop := ∃ q os, w' = grow (w.drewN q) os
theorem Grew.refl (w : World) : Grew w w := ⟨0, #[], by rw [grow_empty]; rfl⟩
theorem drewN_grow' (w : World) (os : Array Obj) (n : Nat) : (grow w os).drewN n = grow (w.drewN n) os := rfl
theorem drewN_add (w : World) (m n : Nat) : (w.drewN m).drewN n = w.drewN (m + n) := by
  unfold World.drewN; simp; omega
theorem Grew.trans {a b c : World} (h : Grew a b) (h' : Grew b c) : Grew a c := by
  obtain ⟨q, os, rfl⟩ := h
  obtain ⟨q', os', rfl⟩ := h'
  exact ⟨q + q', os ++ os', by rw [drewN_grow', drewN_add, grow_grow]⟩
theorem Grew.alloc {a b : World} (h : Grew a b) (o : Obj) : Grew a (b.alloc o) := h.trans ⟨0, #[o], by rw [alloc_eq_grow]; rfl⟩
theorem Grew.drew {a b : World} (h : Grew a b) : Grew a b.drew := h.trans ⟨1, #[], by rw [grow_empty]; rfl⟩

set_option maxHeartbeats 2000000 in
theorem compare_any (x y : Ev) (w : World) : Calls Tryd.prog 22 #[.agg #[.int .u64 (x.off : Int), .int .i64 x.part, .int .i64 x.time, .string x.key, .float .f64 x.val], .agg #[.int .u64 (y.off : Int), .int .i64 y.part, .int .i64 y.time, .string y.key, .float .f64 y.val]] w fun e w' => e = .returned (.int .i64 (evCmp x y)) ∧ Grew w w' := by
  have h1 := fun w => strCompare_any x.key y.key w
  have h2 := fun w => cmpInt_any x.time y.time w
  have h3 := fun w => cmpUint_any x.off y.off w
  have hr : or3 (cmpK x.key y.key) (cmpI x.time y.time) (cmpI (x.off : Int) (y.off : Int)) = evCmp x y := rfl
  generalize evCmp x y = r at *
  generalize cmpK x.key y.key = c1 at *
  generalize cmpI x.time y.time = c2 at *
  generalize cmpI (x.off : Int) (y.off : Int) = c3 at *
  have HR := Lib.hid hr
  have H1 := Lib.hid h1
  have H2 := Lib.hid h2
  have H3 := Lib.hid h3
  clear h1 h2 h3 hr
  have HS := Lib.hid (Bx.start w x y)
  have HW : Hid (∀ o, Grew w (((w.alloc (.cells #[.int .u64 (x.off : Int), .int .i64 x.part, .int .i64 x.time, .string x.key, .float .f64 x.val] 36)).alloc (.cells #[.int .u64 (y.off : Int), .int .i64 y.part, .int .i64 y.time, .string y.key, .float .f64 y.val] 36)).drew.alloc o)) := Lib.hid fun o => (((Grew.refl w).alloc _).alloc _).drew.alloc o
  go_enter Tryd.func22, Tryd.ntmps22
  go_wp2
  have hS := HS.out
  clear HS
  generalize World.alloc (World.alloc w _) _ = wz at *
  generalize w.heap.size + 1 = h at *
  generalize w.heap.size = g at *
  refine wp_region_held_drew (S := Bx g h x y) (by kernel_rfl) hS (fun hHeld => ?_)
  refine wpAnyH_take (i := 0) (v := .pointer (some ⟨g, 3, none⟩)) rfl (by kernel_rfl) (by kernel_rfl) (by kernel_rfl) (fun _ _ _ h => h) (Or.inl ⟨by rfl, fun w _ => by go_simp⟩) hHeld ?_
  try dsimp only
  try simp only [Act.put, List.setIfInBounds_toArray, List.set_cons_zero, List.set_cons_succ]
  refine wpAnyH_take (i := 1) (v := .string x.key) rfl (by kernel_rfl) (by kernel_rfl) (by kernel_rfl) (fun _ _ _ h => h) (Or.inl ⟨by rfl, fun w hw => by have hc : w.cell? ⟨g, 3, none⟩ = some (.string x.key) := hw.cx 3 _ rfl; go_simp⟩) hHeld ?_
  try dsimp only
  try simp only [Act.put, List.setIfInBounds_toArray, List.set_cons_zero, List.set_cons_succ]
  refine wpAnyH_take (i := 2) (v := .pointer (some ⟨h, 3, none⟩)) rfl (by kernel_rfl) (by kernel_rfl) (by kernel_rfl) (fun _ _ _ h => h) (Or.inl ⟨by rfl, fun w _ => by go_simp⟩) hHeld ?_
  try dsimp only
  try simp only [Act.put, List.setIfInBounds_toArray, List.set_cons_zero, List.set_cons_succ]
  refine wpAnyH_take (i := 3) (v := .string y.key) rfl (by kernel_rfl) (by kernel_rfl) (by kernel_rfl) (fun _ _ _ h => h) (Or.inl ⟨by rfl, fun w hw => by have hc : w.cell? ⟨h, 3, none⟩ = some (.string y.key) := hw.cy 3 _ rfl; go_simp⟩) hHeld ?_
  try dsimp only
  try simp only [Act.put, List.setIfInBounds_toArray, List.set_cons_zero, List.set_cons_succ]
  refine wpAnyH_take (i := 5) (v := .pointer (some ⟨g, 2, none⟩)) rfl (by kernel_rfl) (by kernel_rfl) (by kernel_rfl) (fun _ _ _ h => h) (Or.inl ⟨by rfl, fun w _ => by go_simp⟩) hHeld ?_
  try dsimp only
  try simp only [Act.put, List.setIfInBounds_toArray, List.set_cons_zero, List.set_cons_succ]
  refine wpAnyH_take (i := 6) (v := .int .i64 x.time) rfl (by kernel_rfl) (by kernel_rfl) (by kernel_rfl) (fun _ _ _ h => h) (Or.inl ⟨by rfl, fun w hw => by have hc : w.cell? ⟨g, 2, none⟩ = some (.int .i64 x.time) := hw.cx 2 _ rfl; go_simp⟩) hHeld ?_
  try dsimp only
  try simp only [Act.put, List.setIfInBounds_toArray, List.set_cons_zero, List.set_cons_succ]
  refine wpAnyH_take (i := 7) (v := .pointer (some ⟨h, 2, none⟩)) rfl (by kernel_rfl) (by kernel_rfl) (by kernel_rfl) (fun _ _ _ h => h) (Or.inl ⟨by rfl, fun w _ => by go_simp⟩) hHeld ?_
  try dsimp only
  try simp only [Act.put, List.setIfInBounds_toArray, List.set_cons_zero, List.set_cons_succ]
  refine wpAnyH_take (i := 8) (v := .int .i64 y.time) rfl (by kernel_rfl) (by kernel_rfl) (by kernel_rfl) (fun _ _ _ h => h) (Or.inl ⟨by rfl, fun w hw => by have hc : w.cell? ⟨h, 2, none⟩ = some (.int .i64 y.time) := hw.cy 2 _ rfl; go_simp⟩) hHeld ?_
  try dsimp only
  try simp only [Act.put, List.setIfInBounds_toArray, List.set_cons_zero, List.set_cons_succ]
  refine wpAnyH_take (i := 10) (v := .pointer (some ⟨g, 0, none⟩)) rfl (by kernel_rfl) (by kernel_rfl) (by kernel_rfl) (fun _ _ _ h => h) (Or.inl ⟨by rfl, fun w _ => by go_simp⟩) hHeld ?_
  try dsimp only
  try simp only [Act.put, List.setIfInBounds_toArray, List.set_cons_zero, List.set_cons_succ]
  refine wpAnyH_take (i := 11) (v := .int .u64 (x.off : Int)) rfl (by kernel_rfl) (by kernel_rfl) (by kernel_rfl) (fun _ _ _ h => h) (Or.inl ⟨by rfl, fun w hw => by have hc : w.cell? ⟨g, 0, none⟩ = some (.int .u64 (x.off : Int)) := hw.cx 0 _ rfl; go_simp⟩) hHeld ?_
  try dsimp only
  try simp only [Act.put, List.setIfInBounds_toArray, List.set_cons_zero, List.set_cons_succ]
  refine wpAnyH_take (i := 12) (v := .pointer (some ⟨h, 0, none⟩)) rfl (by kernel_rfl) (by kernel_rfl) (by kernel_rfl) (fun _ _ _ h => h) (Or.inl ⟨by rfl, fun w _ => by go_simp⟩) hHeld ?_
  try dsimp only
  try simp only [Act.put, List.setIfInBounds_toArray, List.set_cons_zero, List.set_cons_succ]
  refine wpAnyH_take (i := 13) (v := .int .u64 (y.off : Int)) rfl (by kernel_rfl) (by kernel_rfl) (by kernel_rfl) (fun _ _ _ h => h) (Or.inl ⟨by rfl, fun w hw => by have hc : w.cell? ⟨h, 0, none⟩ = some (.int .u64 (y.off : Int)) := hw.cy 0 _ rfl; go_simp⟩) hHeld ?_
  try dsimp only
  try simp only [Act.put, List.setIfInBounds_toArray, List.set_cons_zero, List.set_cons_succ]
  refine wpAnyH_ready (rs := [4]) (by kernel_rfl) (by simp) (AllReadyH.cons rfl (fun K hK => ?_) AllReadyH.nil)
  go_simp
  refine (H1.out _).mono ?_
  rintro e w' ⟨rfl, rfl⟩
  refine hK.out _ _ hHeld (fun hHeld => ?_)
  clear hK K
  try dsimp only
  try simp only [Act.put, List.setIfInBounds_toArray, List.set_cons_zero, List.set_cons_succ]
  refine wpAnyH_ready (rs := [9]) (by kernel_rfl) (by simp) (AllReadyH.cons rfl (fun K hK => ?_) AllReadyH.nil)
  go_simp
  refine (H2.out _).mono ?_
  rintro e w' ⟨rfl, rfl⟩
  refine hK.out _ _ hHeld (fun hHeld => ?_)
  clear hK K
  try dsimp only
  try simp only [Act.put, List.setIfInBounds_toArray, List.set_cons_zero, List.set_cons_succ]
  refine wpAnyH_ready (rs := [14]) (by kernel_rfl) (by simp) (AllReadyH.cons rfl (fun K hK => ?_) AllReadyH.nil)
  go_simp
  refine (H3.out _).mono ?_
  rintro e w' ⟨rfl, rfl⟩
  refine hK.out _ _ hHeld (fun hHeld => ?_)
  clear hK K
  try dsimp only
  try simp only [Act.put, List.setIfInBounds_toArray, List.set_cons_zero, List.set_cons_succ]
  refine wpAnyH_ready (rs := [15]) (by kernel_rfl) (by simp) (AllReadyH.cons rfl (fun K hK => ?_) AllReadyH.nil)
  go_simp
  refine hK.out _ _ (hHeld.alloc _) (fun hHeld => ?_)
  clear hK K
  try dsimp only
  try simp only [Act.put, List.setIfInBounds_toArray, List.set_cons_zero, List.set_cons_succ]
  refine wpAnyH_ready (rs := [16]) (by kernel_rfl) (by simp) (AllReadyH.cons rfl (fun K hK => ?_) AllReadyH.nil)
  go_simp
  refine (or_any _ c1 c2 c3 r HR.out _ (by simp [World.cell?_alloc_new]) (by simp [World.cell?_alloc_new]) (by simp [World.cell?_alloc_new])).mono ?_
  rintro e w' ⟨rfl, rfl⟩
  refine hK.out _ _ hHeld (fun hHeld => ?_)
  clear hK K
  try dsimp only
  try simp only [Act.put, List.setIfInBounds_toArray, List.set_cons_zero, List.set_cons_succ]
  refine wpAnyH_ready (rs := [17]) (by kernel_rfl) (by simp) (AllReadyH.cons rfl (fun K hK => ?_) AllReadyH.nil)
  go_simp
  refine hK.out _ _ hHeld (fun hHeld => ?_)
  clear hK K
  refine wpAnyH_done (by kernel_rfl) ?_ _
  go_wp2
  go_ret
  exact ⟨rfl, HW.out _⟩
end Go.Proofs.YtpobfgokikfmbaaDoor

set_option linter.unusedSimpArgs false
set_option linter.unusedVariables false
namespace Go.Proofs.YtpobfgokikfmbaaDoor
open Go.RowKit Go.Sort

def insLays_ren : Go.Shelf.Ren := ⟨fun | 20 => 60 | n => n, fun | 24 => 36 | 22 => 24 | 3 => 3 | 25 => 61 | 4 => 4 | 0 => 0 | n => n, fun n => n⟩
theorem insLays : Go.Proofs.SlLaysF0.n20 Tryd.prog insLays_ren := {
  mixed := by kernel_rfl
  f20 := ⟨Tryd.f60.name, by decide, Tryd.func60.trans (congrArg some (by kernel_rfl))⟩
  t0 := Tryd.underlying0
  a0 := Tryd.isAgg0
  z0 := Tryd.sizeOf0
  v0 := Tryd.zeroValue0
  t3 := Tryd.underlying3
  a3 := Tryd.isAgg3
  z3 := Tryd.sizeOf3
  v3 := Tryd.zeroValue3
  t4 := Tryd.underlying4
  a4 := Tryd.isAgg4
  z4 := Tryd.sizeOf4
  v4 := Tryd.zeroValue4
  t22 := Tryd.underlying24
  a22 := Tryd.isAgg24
  z22 := Tryd.sizeOf24
  v22 := Tryd.zeroValue24
  t25 := Tryd.underlying61
  a25 := Tryd.isAgg61
  z25 := Tryd.sizeOf61
  v25 := Tryd.zeroValue61 }

def cloLays_ren : Go.Shelf.Ren := ⟨fun | 41 => 20 | n => n, fun | 22 => 24 | 23 => 36 | 4 => 4 | n => n, fun n => n⟩
theorem cloLays : Go.Proofs.SlLaysE0.n41 Tryd.prog cloLays_ren := {
  mixed := by kernel_rfl
  f41 := ⟨Tryd.f20.name, by decide, Tryd.func20.trans (congrArg some (by kernel_rfl))⟩
  t4 := Tryd.underlying4
  a4 := Tryd.isAgg4
  z4 := Tryd.sizeOf4
  v4 := Tryd.zeroValue4
  t22 := Tryd.underlying24
  a22 := Tryd.isAgg24
  z22 := Tryd.sizeOf24
  v22 := Tryd.zeroValue24 }

theorem cells_len (x : Ev) : x.cells.length = 5 := rfl
theorem cells_one (x : Ev) : ∀ v ∈ x.cells, v.oneCell' = true := fun v hv => by
  simp only [Ev.cells, List.mem_cons, List.not_mem_nil, or_false] at hv
  rcases hv with rfl | rfl | rfl | rfl | rfl <;> rfl
def evs (l : List Ev) : List Value := l.flatMap Ev.cells
theorem evs_length (l : List Ev) : (evs l).length = l.length * 5 := by
  induction l with
  | nil => rfl
  | cons x r ih => unfold evs at *; rw [List.flatMap_cons, List.length_append, ih, cells_len, List.length_cons]; omega
theorem evs_one (l : List Ev) : ∀ v ∈ evs l, v.oneCell' = true := fun v hv => by
  obtain ⟨x, -, hx⟩ := List.mem_flatMap.1 hv
  exact cells_one x v hx
theorem evs_get (l : List Ev) (k j : Nat) (hj : j < 5) : (evs l)[k * 5 + j]? = (l[k]?).bind fun x => x.cells[j]? := by
  induction l generalizing k with
  | nil => simp [evs]
  | cons x r ih =>
    unfold evs at *
    rw [List.flatMap_cons]
    rcases k with _ | k
    · rw [List.getElem?_append_left (by rw [cells_len]; omega)]; simp
    · rw [List.getElem?_append_right (by rw [cells_len]; omega), cells_len, show (k + 1) * 5 + j - 5 = k * 5 + j by omega, ih]; simp
/-- A slice value that holds some events, in a world. -/
def EvAt (w : World) (a : Option Addr) (l : List Ev) : Prop := ∀ (j : Nat) (v : Value), (evs l)[j]? = some v → ∃ g off, a = some ⟨g, off, none⟩ ∧ g < w.heap.size ∧ w.cell? ⟨g, off + j, none⟩ = some v
theorem EvAt.keep {w w' : World} {a : Option Addr} {l : List Ev} (h : EvAt w a l) (hb : Below w.heap.size w w') : EvAt w' a l := fun j v hv => by
  obtain ⟨g, off, h2, h3, h4⟩ := h j v hv
  exact ⟨g, off, h2, Nat.lt_of_lt_of_le h3 hb.size, (hb.cell (p := ⟨g, off + j, none⟩) h3).trans h4⟩
theorem infoEv : (Tryd.prog.info? 36).map (fun i => (i.zero, i.size, i.bytes)) = some (some (.agg #[.int .u64 0, .int .i64 0, .int .i64 0, .string ByteArray.empty, .float .f64 0]), 5, 48) := by kernel_rfl
/-- Events that a call owns. -/
def OwnE (w : World) (B : Nat) (A : Option Addr) (n cap : Nat) (l : List Ev) : Prop := w.ownsRow B 36 5 (.slice A n cap) n (evs l)
theorem clone_some (g off n c : Nat) (l : List Ev) (hn : n = l.length) (hb : n ≤ 1000) (w : World) (H : Hid (EvAt w (some ⟨g, off, none⟩) l)) :
    Calls Tryd.prog 20 #[.slice (some ⟨g, off, none⟩) n c] w fun e w' => ∃ v', e = .returned v' ∧ w'.ownsRow w.heap.size 36 5 v' n (evs l) ∧ v' ≠ .slice none 0 0 ∧ Below w.heap.size w w' := by
  obtain ⟨i0, hi, hz0, hz1, hz2⟩ := info_parts infoEv
  have h := AnyE.slices_Clone cloLays i0 _ 5 48 hi hz0 hz1 hz2 rfl (by decide) Tryd.sizeOf36 g off n c (evs l) w (by rw [evs_length, hn]) (by unfold maxLen; omega) (by omega) (fun j u hu => by
    obtain ⟨g', off', e, -, hc⟩ := H.out j u hu
    cases e
    exact hc) (evs_one l)
  change Calls Tryd.prog 20 _ _ _ at h
  exact h
theorem flatK_evs (l : List Ev) : (flatK Ev.cells 5 l.toArray).toList = evs l := by
  apply List.ext_getElem?
  intro t
  by_cases ht : t < l.length * 5
  · have h1 := get_flatK Ev.cells 5 l.toArray t (by simpa using ht)
    have h2 := evs_get l (t / 5) (t % 5) (by omega)
    rw [show t / 5 * 5 + t % 5 = t by omega] at h2
    rw [h2]
    have h3 : t / 5 < l.length := by omega
    rw [List.getElem?_eq_getElem h3]
    rw [getElem!_pos _ t (by simpa using ht)] at h1
    rw [Array.getElem?_toList, Array.getElem?_eq_getElem (by simpa using ht), h1]
    simp only [Option.bind_some]
    rw [show l.toArray[t / 5]! = l[t / 5] from by simp [getElem!_pos, h3]]
    rw [getElem!_pos _ (t % 5) (by rw [cells_len]; omega), List.getElem?_eq_getElem (by rw [cells_len]; omega)]
  · rw [List.getElem?_eq_none (by simp; omega), List.getElem?_eq_none (by rw [evs_length]; omega)]
theorem holds_own {w : World} {B n : Nat} {v : Value} {l : List Ev} (h : w.ownsRow B 36 5 v n (evs l)) (hv : v ≠ .slice none 0 0) :
    ∃ g cap, v = .slice (some ⟨g, 0, none⟩) n cap ∧ B ≤ g ∧ g < w.heap.size ∧ n = l.length ∧ HoldsK Ev.cells 5 w g 0 l.toArray := by
  have hl : n = l.length := by have := h.1; rw [evs_length] at this; omega
  rcases h.2 with ⟨e0, _⟩ | ⟨g, cap, cur, rfl, hb, hg, hn, hm, hs, ht⟩
  · exact absurd e0 hv
  · refine ⟨g, cap, rfl, hb, (Array.getElem?_eq_some_iff.1 hg).1, hl, fun j hj => ?_⟩
    have hj' : j < l.length * 5 := by simpa using hj
    refine ⟨?_, by simp [World.frozen?, hg]⟩
    rw [cell_of_row w g (0 + j) cur 36 (0, 0) hg, Nat.zero_add, ← Array.getElem?_toList]
    have e1 : (cur.toList.take (n * 5))[j]? = (evs l)[j]? := by rw [ht]
    rw [List.getElem?_take, if_pos (by omega)] at e1
    rw [e1, ← flatK_evs, Array.getElem?_toList, getElem!_pos _ j hj, Array.getElem?_eq_getElem hj]; rfl
theorem own_put {w : World} {B n g cap q : Nat} {l m : List Ev} (h : w.ownsRow B 36 5 (.slice (some ⟨g, 0, none⟩) n cap) n (evs l)) (hm : m.length = l.length) (os : Array Obj) :
    OwnE (sortWorldK Ev.cells 5 w g 0 q m.toArray os) B (some ⟨g, 0, none⟩) n cap m := by
  have hl : n = l.length := by have := h.1; rw [evs_length] at this; omega
  rcases h.2 with ⟨e0, _⟩ | ⟨g', cap', cur, e0, hb, hg, hn, hmx, hs, ht⟩
  · cases e0
  · cases e0
    refine ⟨by rw [evs_length]; omega, .inr ⟨g, cap, putCells id 0 (flatK Ev.cells 5 m.toArray) cur, rfl, hb, ?_, hn, hmx, by simpa [putCells] using hs, ?_⟩⟩
    · show (grow (putRowK Ev.cells 5 (Sort.ahead w q) g 0 m.toArray) os).heap[g]? = _
      have hlt := (Array.getElem?_eq_some_iff.1 hg).1
      rw [heap_grow_old _ _ (by simpa [putRowK, putRow, mapBlock, Sort.ahead] using hlt)]
      simp [putRowK, putRow, mapBlock, Sort.ahead, Array.getElem?_modify, hg, onCells]
    · have hfl := flatK_evs m
      apply List.ext_getElem?
      intro j
      rw [List.getElem?_take, Array.getElem?_toList]
      by_cases hj : j < n * 5
      · have hjc : j < cur.size := by have := Nat.mul_le_mul_right 5 hn; omega
        have hjf : j < (flatK Ev.cells 5 m.toArray).size := by simp; omega
        simp only [if_pos hj, putCells, Array.getElem?_mapIdx, Array.getElem?_eq_getElem hjc, Option.map_some]
        rw [if_pos (by simp; omega), ← hfl, Array.getElem?_toList, Array.getElem?_eq_getElem hjf]
        simp only [Nat.sub_zero, id]
        rw [getElem!_pos (flatK Ev.cells 5 m.toArray) j hjf]
      · rw [if_neg hj, List.getElem?_eq_none (by rw [evs_length]; omega)]
theorem below_grow {B : Nat} {w0 w : World} (h : Below B w0 w) (hB : B ≤ w.heap.size) (os : Array Obj) : Below B w0 (grow w os) :=
  ⟨h.os, h.tape, h.output, Nat.le_trans h.size (by simp), fun k hk => by rw [heap_grow_old _ _ (Nat.lt_of_lt_of_le hk hB)]; exact h.block k hk⟩
theorem below_sortW {B : Nat} {w0 w : World} {g q : Nat} {d : Array Ev} {os : Array Obj} (h : Below B w0 w) (hB : B ≤ w.heap.size) (hg : B ≤ g) : Below B w0 (sortWorldK Ev.cells 5 w g 0 q d os) :=
  below_grow (Lib.below_putRow h hg) (by simpa [putRow, mapBlock, Sort.ahead] using hB) os
theorem enters_cmp : ∀ args w, (callFunc 22 args).run Tryd.prog w = .ok (.enter 22 args) w := enters_of Tryd.func22 (by kernel_rfl) rfl
theorem cmp_lays (blk off size : Nat) (w : World) : CmpLays Tryd.prog 22 #[] Ev.cells 5 evCmp blk off size w := fun m os dk _ x y => compare_any x y _
/-- The sort of a part of a row, by insertions. -/
theorem ins_any (blk cap a b : Nat) (d : Array Ev) (w : World) (hH : HoldsK Ev.cells 5 w blk 0 d) (hblk : blk < w.heap.size) (hab : a ≤ b) (hb : b ≤ d.size) (hsz : d.size < 4611686018427387904) :
    Calls Tryd.prog 60 #[.slice (some ⟨blk, 0, none⟩) d.size cap, .int .i64 a, .int .i64 b, .func (.func 22) #[] #[]] w fun e w' => e = .returned (.tuple #[]) ∧ ∃ n os, w' = sortWorldK Ev.cells 5 w blk 0 n (insertionSort (ltOf evCmp) d a b) os := by
  have h := AnyQ.insertionSortCmpFunc insLays 5 Tryd.isAgg36 Tryd.sizeOf36 Ev.cells cells_len cells_one evCmp 22 #[] blk 0 cap a b d w enters_cmp (cmp_lays blk 0 d.size w) hH hblk hab hb hsz
  change Calls Tryd.prog 60 _ _ _ at h
  exact h
end Go.Proofs.YtpobfgokikfmbaaDoor

set_option linter.unusedSimpArgs false
set_option linter.unusedVariables false
namespace Go.Proofs.YtpobfgokikfmbaaDoor
open Go.RowKit Go.Sort

/-- The row as it is behind a sort. -/
def SortW (w : World) (g : Nat) (d : Array Ev) (w' : World) : Prop := ∃ q os, w' = sortWorldK Ev.cells 5 w g 0 q d os
def InsGives (w : World) (g cap a b : Nat) (d d' : Array Ev) : Prop := Calls Tryd.prog 60 #[.slice (some ⟨g, 0, none⟩) d.size cap, .int .i64 a, .int .i64 b, .func (.func 22) #[] #[]] w fun e w' => e = .returned (.tuple #[]) ∧ SortW w g d' w'
def sortE (l : List Ev) : List Ev := (insertionSort (ltOf evCmp) l.toArray 0 l.length).toList

set_option maxHeartbeats 1000000 in
theorem stable_few (g n cap : Nat) (h20 : n < 20) (d d' : Array Ev) (hn : n = d.size) (w : World) (H : InsGives w g cap 0 n d d') :
    Calls Tryd.prog 43 #[.slice (some ⟨g, 0, none⟩) n cap, .int .i64 n, .func (.func 22) #[] #[]] w fun e w' => e = .returned (.tuple #[]) ∧ SortW w g d' w' := by
  unfold InsGives at H
  rw [← hn] at H
  have HI := Lib.hid H
  clear H hn
  go_enter Tryd.func43, Tryd.ntmps43
  go_wp2
  refine wp_loop_rounds 1 ?_
  rw [rounds_succ]
  go_wp2_with (go_at_call 60; refine HI.out.mono ?_; rintro e w' ⟨rfl, hs⟩; have HS := Lib.hid hs; clear hs)
  refine wp_loop_rounds 1 ?_
  rw [rounds_succ]
  go_wp2
  go_end0
  exact ⟨rfl, HS.out⟩
set_option maxHeartbeats 400000 in
theorem sortStable_few (g n cap : Nat) (h20 : n < 20) (d d' : Array Ev) (hn : n = d.size) (w : World) (H : InsGives w g cap 0 n d d') :
    Calls Tryd.prog 21 #[.slice (some ⟨g, 0, none⟩) n cap, .func (.func 22) #[] #[]] w fun e w' => e = .returned (.tuple #[]) ∧ SortW w g d' w' := by
  have HI := Lib.hid (stable_few g n cap h20 d d' hn w H)
  clear H hn
  go_enter Tryd.func21, Tryd.ntmps21
  go_wp2_with (go_at_call 43; refine HI.out.mono ?_; rintro e w' ⟨rfl, hs⟩; have HS := Lib.hid hs; clear hs)
  go_end0
  exact ⟨rfl, HS.out⟩
def RetE (w : World) (n : Nat) (l : List Ev) (e : Ending) (w' : World) : Prop := ∃ g cap, e = .returned (.slice (some ⟨g, 0, none⟩) n cap) ∧ OwnE w' w.heap.size (some ⟨g, 0, none⟩) n cap l ∧ Below w.heap.size w w'
theorem insOuter_size (lt : Ev → Ev → Bool) (a b : Nat) : ∀ (k i : Nat) (d : Array Ev), b - i ≤ k → (insOuter lt a b i d).size = d.size
  | 0, i, d, h => by unfold insOuter; rw [if_neg (by omega)]
  | k + 1, i, d, h => by
    unfold insOuter
    split
    · rw [insOuter_size lt a b k (i + 1) _ (by omega)]
      have : ∀ (j : Nat) (d : Array Ev), (insInner lt a j d).size = d.size := by
        intro j
        induction j with
        | zero => intro d; rfl
        | succ j ih =>
          intro d
          unfold insInner
          split
          · rw [ih]; exact size_swp ..
          · rfl
      exact this i d
    · rfl
theorem sortE_len (l : List Ev) : (sortE l).length = l.length := by
  unfold sortE insertionSort
  rw [Array.length_toList, insOuter_size _ _ _ l.length _ _ (by omega)]; rfl
set_option maxHeartbeats 1000000 in
theorem sort_few (g off n c : Nat) (l : List Ev) (hn : Hid (n = l.length)) (h20 : n < 20) (w : World) (HA : Hid (EvAt w (some ⟨g, off, none⟩) l)) :
    Calls Tryd.prog 8 #[.slice (some ⟨g, off, none⟩) n c] w (RetE w n (sortE l)) := by
  have HC := Lib.hid (clone_some g off n c l hn.out (by omega) w HA)
  go_enter Tryd.func8, Tryd.ntmps8
  go_upto_region 2 with (go_at_call 20; refine HC.out.mono ?_; rintro e w1 ⟨v', rfl, ho, hv, hb⟩; obtain ⟨g1, cap, rfl, hg1, hg2, hl, hH⟩ := holds_own ho hv; have HO := Lib.hid ho; have HB := Lib.hid hb; have HL := Lib.hid hl; have HHH := Lib.hid hH; clear ho hv hb hl hH)
  have hS := ins_any g1 cap 0 n l.toArray w1 HHH.out hg2 (by omega) (by rw [HL.out]; simp) (by simp; have := HL.out; omega)
  have HS := Lib.hid (sortStable_few g1 n cap h20 l.toArray _ (by rw [HL.out]; simp) w1 hS)
  clear hS
  go_wp2_with (go_at_call 21; refine HS.out.mono ?_; rintro e w2 ⟨rfl, hs⟩; have HR := Lib.hid hs; clear hs)
  go_ret
  obtain ⟨q, os, rfl⟩ := HR.out
  refine ⟨g1, cap, rfl, ?_, below_sortW HB.out (HB.out.size) hg1⟩
  have h := own_put (q := q) HO.out (sortE_len l) os
  have e : (sortE l).toArray = insertionSort (ltOf evCmp) l.toArray 0 n := by unfold sortE; rw [hn.out]
  rw [e] at h
  exact h
end Go.Proofs.YtpobfgokikfmbaaDoor

set_option linter.unusedSimpArgs false
set_option linter.unusedVariables false
namespace Go.Proofs.YtpobfgokikfmbaaDoor
open Go.RowKit Go.Sort

def evB : Ev := ⟨0, 0, 1, { data := #[98] }, 0⟩
def evA2 : Ev := ⟨0, 0, 2, { data := #[97] }, 0⟩
def evA1 : Ev := ⟨0, 0, 1, { data := #[97] }, 0⟩
theorem sort_awake : evs (sortE [evB, evA2, evA1]) = evs [evA1, evA2, evB] := by kernel_rfl
theorem own_cell {w : World} {B n cap : Nat} {A : Option Addr} {l : List Ev} (h : OwnE w B A n cap l) (j : Nat) (v : Value) (hj : (evs l)[j]? = some v) (g : Nat) (hA : A = some ⟨g, 0, none⟩) : w.cell? ⟨g, j, none⟩ = some v := by
  subst hA
  have hl : n = l.length := by have := h.1; rw [evs_length] at this; omega
  rcases h.2 with ⟨e0, _⟩ | ⟨g', cap', cur, e0, hb, hg, hn, hm, hs, ht⟩
  · cases e0
  · cases e0
    rw [cell_of_row w g j cur _ (0, 0) hg, ← Array.getElem?_toList]
    have hjl := (List.getElem?_eq_some_iff.1 hj).1
    rw [evs_length] at hjl
    have e1 : (cur.toList.take (n * 5))[j]? = (evs l)[j]? := by rw [ht]
    rw [List.getElem?_take, if_pos (by omega)] at e1
    rw [e1]; exact hj
theorem evAt_new (w : World) (l : List Ev) (cs : Array Value) (hcs : cs.toList = evs l) (t : TypeId) : EvAt (w.alloc (.cells cs t)) (some ⟨w.heap.size, 0, none⟩) l := fun j v hv => by
  refine ⟨w.heap.size, 0, rfl, by simp, ?_⟩
  rw [Nat.zero_add, cell_of_row _ _ _ _ _ _ (heap_new w _), ← Array.getElem?_toList, hcs]; exact hv

set_option maxHeartbeats 1000000 in
theorem awake_any (w : World) : Calls Tryd.prog 4 #[] w fun e w' => e = .returned (.bool true) ∧ Below w.heap.size w w' := by
  have HS := fun w => Lib.hid (sort_few w.heap.size 0 3 3 [evB, evA2, evA1] rfl (by decide) (w.alloc (.cells (evs [evB, evA2, evA1]).toArray 36)) (Lib.hid (evAt_new w [evB, evA2, evA1] _ rfl _)))
  have HS' := Lib.hid HS
  clear HS
  go_enter Tryd.func4, Tryd.ntmps4
  go_wp2_with (go_at_call 8; refine (HS'.out _).out.mono ?_; rintro e w1 ⟨g, cap, rfl, ho, hb⟩; have c2 := own_cell ho 2 (.int .i64 1) (by rw [sort_awake]; rfl) g rfl; have c3 := own_cell ho 3 (.string { data := #[97] }) (by rw [sort_awake]; rfl) g rfl; have c13 := own_cell ho 13 (.string { data := #[98] }) (by rw [sort_awake]; rfl) g rfl; have HB := Lib.hid hb; clear ho hb)
  go_ret
  exact ⟨rfl, ((Below.refl w.heap.size w).alloc (Nat.le_refl _) _).trans (HB.out.mono (by simp))⟩
end Go.Proofs.YtpobfgokikfmbaaDoor

set_option linter.unusedSimpArgs false
set_option linter.unusedVariables false
namespace Go.Proofs.YtpobfgokikfmbaaDoor
open Go.RowKit Go.Sort

theorem Grew.below {w w' : World} (h : Grew w w') : Below w.heap.size w w' := by
  obtain ⟨q, os, rfl⟩ := h
  have h : Below w.heap.size w (w.drewN q) := ⟨rfl, rfl, rfl, Nat.le_refl _, fun _ _ => rfl⟩
  exact below_grow h h.size os
def lessB (x y : Ev) : Bool := decide (evCmp x y < 0)
def formB (x : Ev) (p : Int) : Bool := decide (0 ≤ x.part) && decide (x.part < p) && decide (-1099511627776 ≤ x.time) && decide (x.time ≤ 1099511627776) && decide (x.key.size ≤ 32) && decide (x.off < 1099511627776)
set_option maxHeartbeats 1000000 in
theorem form_any (x : Ev) (p : Int) (w : World) : Calls Tryd.prog 35 #[.agg #[.int .u64 (x.off : Int), .int .i64 x.part, .int .i64 x.time, .string x.key, .float .f64 x.val], .int .i64 p] w fun e w' => e = .returned (.bool (formB x p)) ∧ Below w.heap.size w w' := by
  go_enter Tryd.func35, Tryd.ntmps35
  go_wp2
  all_goals
    go_ret
    refine ⟨ret_eq ?_, (Below.refl w.heap.size w).alloc (Nat.le_refl _) _⟩
    exact congrArg Value.bool (by unfold formB; rw [Bool.eq_iff_iff]; simp only [Bool.and_eq_true, decide_eq_true_eq, Bool.false_eq_true, false_iff]; omega)
set_option maxHeartbeats 1000000 in
theorem refForm_any (x : Ev) (p : Int) (w : World) : Calls Tryd.prog 18 #[.agg #[.int .u64 (x.off : Int), .int .i64 x.part, .int .i64 x.time, .string x.key, .float .f64 x.val], .int .i64 p] w fun e w' => e = .returned (.bool (formB x p)) ∧ Below w.heap.size w w' := by
  go_enter Tryd.func18, Tryd.ntmps18
  go_wp2
  all_goals
    go_ret
    refine ⟨ret_eq ?_, (Below.refl w.heap.size w).alloc (Nat.le_refl _) _⟩
    exact congrArg Value.bool (by unfold formB; rw [Bool.eq_iff_iff]; simp only [Bool.and_eq_true, decide_eq_true_eq, Bool.false_eq_true, false_iff]; omega)
def keqB (x y : Ev) : Bool := x.key.toList == y.key.toList
def sameB (x y : Ev) : Bool := decide ((x.off : Int) = (y.off : Int)) && decide (x.part = y.part) && decide (x.time = y.time) && keqB x y && decide (Fl.canon x.val = Fl.canon y.val)
def boxes2 (w : World) (x y : Ev) : World := (w.alloc (.cells #[.int .u64 (x.off : Int), .int .i64 x.part, .int .i64 x.time, .string x.key, .float .f64 x.val] 36)).alloc (.cells #[.int .u64 (y.off : Int), .int .i64 y.part, .int .i64 y.time, .string y.key, .float .f64 y.val] 36)
theorem boxes2_below (w : World) (x y : Ev) : Below w.heap.size w (boxes2 w x y) := ((Below.refl w.heap.size w).alloc (Nat.le_refl _) _).alloc (by simp) _
def parts4 (a b c d : Bool) (r s : Bool) : Prop := s = (a && b && c && d && r)
set_option maxHeartbeats 2000000 in
theorem refEvSame_any (x y : Ev) (hx : x.val < 18446744073709551616) (hy : y.val < 18446744073709551616) (w : World) : Calls Tryd.prog 19 #[.agg #[.int .u64 (x.off : Int), .int .i64 x.part, .int .i64 x.time, .string x.key, .float .f64 x.val], .agg #[.int .u64 (y.off : Int), .int .i64 y.part, .int .i64 y.time, .string y.key, .float .f64 y.val]] w fun e w' => e = .returned (.bool (sameB x y)) ∧ Below w.heap.size w w' := by
  have HB := Lib.hid (boxes2_below w x y)
  have HC := Lib.hid fun w => refSame_any x.val y.val hx hy w
  have hb : (x.key.toList == y.key.toList) = keqB x y := rfl
  have HS : Hid (parts4 (decide ((x.off : Int) = (y.off : Int))) (decide (x.part = y.part)) (decide (x.time = y.time)) (keqB x y) (decide (Fl.canon x.val = Fl.canon y.val)) (sameB x y)) := Lib.hid rfl
  generalize decide (Fl.canon x.val = Fl.canon y.val) = r at *
  generalize sameB x y = s at *
  clear hx hy
  generalize keqB x y = kb at *
  cases kb
  all_goals
    go_enter Tryd.func19, Tryd.ntmps19
    go_wp2_with (go_at_call 42; refine (HC.out _).mono ?_; rintro e w' ⟨rfl, rfl⟩)
    all_goals
      go_ret
      refine ⟨ret_eq ?_, ((Below.refl w.heap.size w).alloc (Nat.le_refl _) _).alloc (by simp) _⟩
      have h := HS.out
      unfold parts4 at h
      rw [h]
      exact congrArg Value.bool (by simp [*])
theorem cmp_less : ∀ a b : List UInt8, Lib.compareBytes a b = if (a == b) = true then 0 else if Op.bytesLess a b = true then -1 else 1
  | [], [] => rfl
  | [], _ :: _ => rfl
  | _ :: _, [] => rfl
  | a :: la, b :: lb => by
    have ih := cmp_less la lb
    unfold Lib.compareBytes Op.bytesLess
    by_cases h1 : a < b
    · have : a ≠ b := fun e => by rw [e] at h1; exact absurd h1 (UInt8.lt_irrefl _)
      simp [h1, this]
    · by_cases h2 : b < a
      · have : a ≠ b := fun e => by rw [e] at h2; exact absurd h2 (UInt8.lt_irrefl _)
        simp [h1, h2, this]
      · have : a = b := UInt8.le_antisymm (UInt8.not_lt.1 h2) (UInt8.not_lt.1 h1)
        subst this
        simp only [h1, h2, if_false, ih]
        simp
theorem keq_iff (x y : Ev) : keqB x y = (x.key.data.toList == y.key.data.toList) := by
  unfold keqB
  rw [ByteArray.toList_eq, ByteArray.toList_eq]
theorem less_key (x y : Ev) (h : keqB x y = false) : lessB x y = Op.bytesLess x.key.toList y.key.toList := by
  rw [keq_iff] at h
  unfold lessB evCmp cmpK or3
  rw [cmp_less, h, ByteArray.toList_eq, ByteArray.toList_eq]
  cases Op.bytesLess x.key.data.toList y.key.data.toList <;> simp
theorem less_time (x y : Ev) (h : keqB x y = true) (ht : x.time ≠ y.time) : lessB x y = decide (x.time < y.time) := by
  rw [keq_iff] at h
  unfold lessB evCmp cmpK or3
  rw [cmp_less, h, decide_eq_decide]
  unfold cmpI
  by_cases h1 : x.time < y.time
  · simp [h1]
  · have h2 : y.time < x.time := by omega
    simp [h1, h2]
theorem less_off (x y : Ev) (h : keqB x y = true) (ht : x.time = y.time) : lessB x y = decide ((x.off : Int) < (y.off : Int)) := by
  rw [keq_iff] at h
  unfold lessB evCmp cmpK or3
  rw [cmp_less, h, decide_eq_decide]
  unfold cmpI
  rw [ht]
  by_cases h1 : (x.off : Int) < (y.off : Int)
  · simp [h1]
  · by_cases h2 : (y.off : Int) < (x.off : Int)
    · simp [h1, h2]
    · simp [h1, h2]
end Go.Proofs.YtpobfgokikfmbaaDoor

set_option linter.unusedSimpArgs false
set_option linter.unusedVariables false
set_option maxRecDepth 8000
namespace Go.Proofs.YtpobfgokikfmbaaDoor
open Go.RowKit Go.WideShapes

/-- A slice value that holds some bytes, in a world. -/
def ByAt (w : World) (a : Option Addr) (l : List Nat) : Prop := ∀ (k x : Nat), l[k]? = some x → x < 256 ∧ ∃ g off, a = some ⟨g, off, none⟩ ∧ g < w.heap.size ∧ w.cell? ⟨g, off + k, none⟩ = some (.int .u8 (x : Int))
theorem ByAt.keep {w w' : World} {a : Option Addr} {l : List Nat} (h : ByAt w a l) (hb : Below w.heap.size w w') : ByAt w' a l := fun k x hx => by
  obtain ⟨h1, g, off, h2, h3, h4⟩ := h k x hx
  exact ⟨h1, g, off, h2, Nat.lt_of_lt_of_le h3 hb.size, (hb.cell (p := ⟨g, off + k, none⟩) h3).trans h4⟩
theorem ByAt.lt {w : World} {a : Option Addr} {l : List Nat} (h : ByAt w a l) : ∀ x ∈ l, x < 256 := fun x hx => by
  obtain ⟨k, hk⟩ := List.getElem?_of_mem hx
  exact (h k x hk).1
theorem ByAt.nil (w : World) (a : Option Addr) : ByAt w a [] := fun k x hx => by simp at hx
def bv (x : Nat) : Value := .int .u8 (x : Int)
def bys (l : List Nat) : List Value := l.map bv
theorem bys_length (l : List Nat) : (bys l).length = l.length := List.length_map ..
/-- A block of bytes that is known whole. -/
theorem ByAt.of_row {w : World} {g : Nat} {cs : Array Value} {t : TypeId} {fr : Nat × Nat} (l : List Nat) (hl : ∀ x ∈ l, x < 256) (hrow : w.heap[g]? = some (.cells cs t fr)) (hcs : (bys l).IsPrefix cs.toList) : ByAt w (some ⟨g, 0, none⟩) l := fun k x hx => by
  refine ⟨hl x (List.mem_of_getElem? hx), g, 0, rfl, (Array.getElem?_eq_some_iff.1 hrow).1, ?_⟩
  rw [cell_of_row w g (0 + k) cs t fr hrow, Nat.zero_add, ← Array.getElem?_toList]
  obtain ⟨r, hr⟩ := hcs
  have hk : k < (bys l).length := by rw [bys_length]; exact (List.getElem?_eq_some_iff.1 hx).1
  rw [← hr, List.getElem?_append_left hk]
  unfold bys; rw [List.getElem?_map, hx]; rfl
theorem heap_alloc_new' (w : World) (o : Obj) : (w.alloc o).heap[w.heap.size]? = some o := by show (w.heap.push o)[w.heap.size]? = _; simp
theorem ByAt.at {w w' : World} {a : Option Addr} {l : List Nat} (h : Hid (ByAt w a l)) (hb : Below w.heap.size w w') : Hid (ByAt w' a l) := h.out.keep hb
theorem alloc_eq (w : World) {c c' : Array Value} {t : TypeId} (h : c = c') : w.alloc (.cells c t) = w.alloc (.cells c' t) := by rw [h]
/-- The bytes of a list, all at one place. -/
theorem ByAt.spot {w : World} {a : Option Addr} {l : List Nat} (h : ByAt w a l) (h0 : 0 < l.length) : ∃ g off, a = some ⟨g, off, none⟩ ∧ g < w.heap.size ∧ ∀ (k x : Nat), l[k]? = some x → w.cell? ⟨g, off + k, none⟩ = some (.int .u8 (x : Int)) := by
  obtain ⟨-, g, off, rfl, hg, -⟩ := h 0 l[0] (List.getElem?_eq_getElem h0)
  refine ⟨g, off, rfl, hg, fun k x hx => ?_⟩
  obtain ⟨-, g', off', h2, -, hc⟩ := h k x hx
  cases h2
  exact hc
/-- A slice of bytes that the call owns: its block lies from B on. -/
def OwnS (w : World) (B : Nat) (A : Option Addr) (n cap : Nat) (l : List Nat) : Prop := w.ownsRow B 5 1 (.slice A n cap) n (bys l) ∧ ∀ x ∈ l, x < 256
theorem OwnS.len {w : World} {B n cap : Nat} {A : Option Addr} {l : List Nat} (h : OwnS w B A n cap l) : n = l.length := by have := h.1.1; rw [bys_length] at this; omega
theorem OwnS.caps {w : World} {B n cap : Nat} {A : Option Addr} {l : List Nat} (h : OwnS w B A n cap l) : n ≤ cap ∧ cap ≤ maxLen := by
  rcases h.1.2 with ⟨h1, h2⟩ | ⟨g, cap', cur, h1, -, -, h2, h3, -⟩
  · cases h1; exact ⟨Nat.le_refl _, Nat.zero_le _⟩
  · cases h1; exact ⟨h2, h3⟩
theorem OwnS.byAt {w : World} {B n cap : Nat} {A : Option Addr} {l : List Nat} (h : OwnS w B A n cap l) : ByAt w A l := by
  rcases h.1.2 with ⟨h1, h2⟩ | ⟨g, cap', cur, h1, hb, hrow, -, -, hs, ht⟩
  · have := h.len
    have hl : l = [] := List.eq_nil_of_length_eq_zero (by omega)
    subst hl; exact ByAt.nil _ _
  · cases h1
    exact ByAt.of_row l h.2 hrow ⟨cur.toList.drop (n * 1), by rw [← ht, List.take_append_drop]⟩
theorem OwnS.nil (w : World) (B : Nat) : OwnS w B none 0 0 [] := ⟨w.ownsRow_nil B _ 1, fun x hx => by cases hx⟩
theorem OwnS.keep {w w' : World} {B n cap : Nat} {A : Option Addr} {l : List Nat} (h : OwnS w B A n cap l) (hb : Below w.heap.size w w') : OwnS w' B A n cap l :=
  ⟨h.1.kept (row := none) ⟨hb.os, hb.tape, hb.output, hb.size, fun k hk _ => hb.block k hk⟩ (by rcases A with _ | a <;> simp [Value.ownBlock]), h.2⟩
theorem OwnS.more {w : World} {B n cap : Nat} {A : Option Addr} {l : List Nat} {B' : Nat} (h : OwnS w B A n cap l) (hB : B' ≤ B) : OwnS w B' A n cap l := by
  refine ⟨⟨h.1.1, ?_⟩, h.2⟩
  rcases h.1.2 with h1 | ⟨g, cap', cur, h1, hb, h2⟩
  · exact .inl h1
  · exact .inr ⟨g, cap', cur, h1, Nat.le_trans hB hb, h2⟩
theorem infoU8 : (Tryd.prog.info? 5).map (fun i => (i.zero, i.size, i.bytes)) = some (some (.int .u8 0), 1, 1) := by kernel_rfl
theorem bys_one (l : List Nat) : ∀ u ∈ bys l, u.oneCell' = true := fun u hu => by
  obtain ⟨x, -, rfl⟩ := List.mem_map.1 hu; rfl
theorem addr_add (g off j : Nat) : (⟨g, off, none⟩ : Addr).add j = ⟨g, off + j, none⟩ := by unfold Addr.add; split <;> simp_all
theorem bys_append (l m : List Nat) : bys (l ++ m) = bys l ++ bys m := List.map_append ..
theorem bys_at {w : World} {a : Addr} {l : List Nat} (h : ByAt w (some a) l) (j : Nat) (u : Value) (hu : (bys l)[j]? = some u) : w.cell? (a.add j) = some u := by
  unfold bys at hu
  rw [List.getElem?_map] at hu
  rcases hx : l[j]? with _ | x
  · rw [hx] at hu; cases hu
  · rw [hx] at hu
    obtain ⟨-, g, off, e, -, hc⟩ := h j x hx
    cases e
    rw [addr_add, hc]; exact hu
/-- append of bytes, the source nil, empty or not. -/
theorem run_append_by (w : World) (B : Nat) (A : Option Addr) (n cap : Nat) (l : List Nat) (hown : OwnS w B A n cap l) (a : Option Addr) (m c : Nat) (l2 : List Nat) (hm : m = l2.length) (h2 : ByAt w a l2)
    (hbytes : n + m ≤ 140737488355328) (hbase : B ≤ w.heap.size) (ty : TypeId) :
    ∃ A' cap' w', (Builtin.append_ #[22, 22] ty #[.slice A n cap, .slice a m c]).run Tryd.prog w = .ok (.slice A' (n + m) cap') w' ∧ OwnS w' B A' (n + m) cap' (l ++ l2) ∧ w.grownBy w' (A.map (·.block)) ∧
      (A'.map (·.block) = A.map (·.block) ∨ A'.map (·.block) = some w.heap.size) := by
  obtain ⟨i0, hi, hz0, hz1, hz2⟩ := info_parts infoU8
  have hlt : ∀ x ∈ l ++ l2, x < 256 := fun x hx => by
    rcases List.mem_append.1 hx with h | h
    · exact hown.2 x h
    · exact h2.lt x h
  rcases a with _ | ad
  · have hl2 : l2 = [] := by
      rcases l2 with _ | ⟨x, r⟩
      · rfl
      · obtain ⟨-, g, off, e, -⟩ := h2 0 x rfl; cases e
    subst hl2
    have h0 : m = 0 := hm
    subst h0
    refine ⟨A, cap, w, ?_, by rw [Nat.add_zero, List.append_nil]; exact hown, World.grownBy.refl w _, .inl rfl⟩
    rcases hown.1.2 with ⟨h1, h3⟩ | ⟨g, cap', cur, h1, _, _, hnc, _⟩
    · cases h1
      simp [Builtin.append_, run_underlying Tryd.underlying22, Go.sizeOf, typeInfo, hi, Builtin.lenOf, Builtin.firstCells]
    · cases h1
      simp [Builtin.append_, run_underlying Tryd.underlying22, Go.sizeOf, typeInfo, hi, Builtin.lenOf, Builtin.firstCells, hnc, storeCells]
  · obtain ⟨v', w', hr, h3, h4, h5, h6⟩ := run_append_own_at (P := Tryd.prog) w B 22 ty 5 i0 (.int .u8 0) 1 1 Tryd.underlying22 hi hz0 hz1 hz2 rfl (by decide) _ n (bys l) hown.1 ad m c (bys l2) (by rw [bys_length, hm, Nat.mul_one]) (bys_at h2) (bys_one l2) (by unfold maxLen; omega) (by omega) hbase
    rw [← bys_append] at h3
    rcases h3.2 with ⟨rfl, h0⟩ | ⟨g, cap', cur, rfl, hb, hrest⟩
    · have hn0 : n = 0 := by omega
      have hm0 : m = 0 := by omega
      subst hn0; subst hm0
      exact ⟨none, 0, w', hr, ⟨h3, hlt⟩, by rcases A with _ | _ <;> exact h4, by
        rcases A with _ | _
        · exact .inl rfl
        · exact h6⟩
    · exact ⟨_, _, w', hr, ⟨h3, hlt⟩, by rcases A with _ | _ <;> exact h4, by
        rcases A with _ | _ <;> exact h6⟩
theorem wpList_append_by {w : World} {ops : Array Oper} {rest : List Oper} {o : Oper} {a : Act} {Q : Exit → Act → World → Prop} (hgd : o.guard = none) (s x : Operand)
    (ho : o.op = .call { callee := .builtin .append, args := #[s, x], argTypes := #[22, 22] })
    (B : Nat) (A : Option Addr) (n cap : Nat) (l : List Nat) (hs : a.eval s = .slice A n cap) (hown : OwnS w B A n cap l) (b : Option Addr) (m c : Nat) (l2 : List Nat) (hx : a.eval x = .slice b m c) (hm : m = l2.length) (h2 : ByAt w b l2)
    (hbytes : n + m ≤ 140737488355328) (hbase : B ≤ w.heap.size)
    (h : ∀ A' cap' w', OwnS w' B A' (n + m) cap' (l ++ l2) → w.grownBy w' (A.map (·.block)) → (A'.map (·.block) = A.map (·.block) ∨ A'.map (·.block) = some w.heap.size) → wpList Tryd.prog ops Q rest (a.put o.dst (.slice A' (n + m) cap')) w') : wpList Tryd.prog ops Q (o :: rest) a w := by
  refine wpList_plain hgd fun K hK => ?_
  obtain ⟨A', cap', w', hr, h3, h4, h5⟩ := run_append_by w B A n cap l hown b m c l2 hm h2 hbytes hbase o.type
  unfold Oper.wp execOp
  simp only [ho, resolve, invoke, builtin, Sem.run_bind, Sem.run_pure, Result.andThen_ok, List.map_toArray, List.map_cons, List.map_nil, hs, hx, hr]
  exact hK _ _ (h A' cap' w' h3 h4 h5)
/-- A call that returns bytes of its own. -/
def RetS (w : World) (l : List Nat) (e : Ending) (w' : World) : Prop := ∃ A cap, e = .returned (.slice A l.length cap) ∧ OwnS w' w.heap.size A l.length cap l ∧ Below w.heap.size w w'
theorem cut_from (a : Option Addr) (len cap k : Nat) (hk : k ≤ len) (hc : len ≤ cap) :
    ∃ A C, (∀ w, (Instr.slice 22 (.slice a len cap) (some (.int .i64 (k : Int))) none none).run Tryd.prog w = .ok (.slice A (len - k) C) w) ∧ len - k ≤ C ∧ C ≤ cap ∧ ∀ w l, len = l.length → ByAt w a l → ByAt w A (l.drop k) := by
  refine ⟨if cap = k then a else a.map (·.add k), cap - k, fun w => ?_, by omega, by omega, fun w l hl h j x hx => ?_⟩
  · rw [run_slice_l w 22 a len cap Tryd.underlying22 .i64 (k : Int) (by omega) (by omega)]
    rw [show (Go.sizeOf (Tryd.prog.elem 22)).run Tryd.prog w = .ok 1 w from by kernel_rfl]
    simp [Result.andThen, sliced]
  · rw [List.getElem?_drop] at hx
    obtain ⟨h1, g, off, rfl, hg, hcell⟩ := h _ _ hx
    have hkl := (List.getElem?_eq_some_iff.1 hx).1
    rw [if_neg (by omega)]
    exact ⟨h1, g, off + k, by simp [addr_add], hg, by rw [Nat.add_assoc]; exact hcell⟩
theorem cut_to (a : Option Addr) (len cap k : Nat) (hk : k ≤ len) (hc : len ≤ cap) :
    ∃ A, (∀ w, (Instr.slice 22 (.slice a len cap) none (some (.int .i64 (k : Int))) none).run Tryd.prog w = .ok (.slice A k cap) w) ∧ ∀ w l, len = l.length → ByAt w a l → ByAt w A (l.take k) := by
  refine ⟨if cap = 0 then a else a.map (·.add 0), fun w => ?_, fun w l hl h j x hx => ?_⟩
  · rw [run_slice_h w 22 a len cap Tryd.underlying22 .i64 (k : Int) (by omega) (by omega)]
    rw [show (Go.sizeOf (Tryd.prog.elem 22)).run Tryd.prog w = .ok 1 w from by kernel_rfl]
    simp [Result.andThen, sliced]
  · rw [List.getElem?_take] at hx
    split at hx
    · obtain ⟨h1, g, off, rfl, hg, hcell⟩ := h _ _ hx
      exact ⟨h1, g, off, by simp [addr_add], hg, hcell⟩
    · cases hx
theorem cut_mid (a : Option Addr) (len cap i j : Nat) (hi : i ≤ j) (hj : j ≤ len) (hc : len ≤ cap) :
    ∃ A C, (∀ w, (Instr.slice 22 (.slice a len cap) (some (.int .i64 (i : Int))) (some (.int .i64 (j : Int))) none).run Tryd.prog w = .ok (.slice A (j - i) C) w) ∧ j - i ≤ C ∧ C ≤ cap ∧ ∀ w l, len = l.length → ByAt w a l → ByAt w A ((l.drop i).take (j - i)) := by
  refine ⟨if cap = i then a else a.map (·.add i), cap - i, fun w => ?_, by omega, by omega, fun w l hl h m x hx => ?_⟩
  · rw [run_slice_lh w 22 a len cap Tryd.underlying22 .i64 .i64 (i : Int) (j : Int) (by omega) (by omega) (by omega)]
    rw [show (Go.sizeOf (Tryd.prog.elem 22)).run Tryd.prog w = .ok 1 w from by kernel_rfl]
    simp [Result.andThen, sliced]
  · rw [List.getElem?_take] at hx
    split at hx
    · rw [List.getElem?_drop] at hx
      obtain ⟨h1, g, off, rfl, hg, hcell⟩ := h _ _ hx
      have hkl := (List.getElem?_eq_some_iff.1 hx).1
      rw [if_neg (by omega)]
      exact ⟨h1, g, off + i, by simp [addr_add], hg, by rw [Nat.add_assoc]; exact hcell⟩
    · cases hx
theorem below_drewN {B : Nat} {a w : World} (h : Below B a w) (n : Nat) : Below B a (w.drewN n) := ⟨h.os, h.tape, h.output, h.size, h.block⟩
theorem results_tmp4 {fn : Func} {t u v x : Tmp} (h : fn.results = #[.tmp t, .tmp u, .tmp v, .tmp x]) (tmps : Array Value) (P : Program) (w : World) :
    (results fn tmps).run P w = .ok (.tuple #[tmps.getD t undef, tmps.getD u undef, tmps.getD v undef, tmps.getD x undef]) w := by simp [results, h]
theorem drewN_by {w : World} {a : Option Addr} {l : List Nat} (h : Hid (ByAt w a l)) (n : Nat) : Hid (ByAt (w.drewN n) a l) := Lib.hid (h.out.keep (below_drewN (Below.refl _ _) n))
/-- Bytes as a string. -/
def strB (l : List Nat) : ByteArray := strOfNums (l.map Int.ofNat)
theorem strB_inj {l m : List Nat} (hl : ∀ x ∈ l, x < 256) (hm : ∀ x ∈ m, x < 256) (h : strB l = strB m) : l = m := by
  have h1 := congrArg (fun s : ByteArray => s.data.toList) h
  simp only [strB, strOfNums_data, List.map_map] at h1
  have h2 := congrArg (List.map UInt8.toNat) h1
  have key : ∀ r : List Nat, (∀ x ∈ r, x < 256) → (r.map ((fun n : Int => UInt8.ofNat n.toNat) ∘ Int.ofNat)).map UInt8.toNat = r := by
    intro r hr
    rw [List.map_map]
    conv => rhs; rw [← List.map_id r]
    apply List.map_congr_left
    intro x hx
    have := hr x hx
    simp [Function.comp]; omega
  rwa [key l hl, key m hm] at h2
theorem conv_by {w : World} {A : Option Addr} {l : List Nat} (n C : Nat) (h : ByAt w A l) (hn : n = l.length) : (convert 22 9 (.slice A n C)).run Tryd.prog w = .ok (.string (strB l)) w := by
  rcases l with _ | ⟨x, r⟩
  · subst hn
    rcases A with _ | ad
    · exact run_convert_bytes_nil w 22 5 Tryd.underlying22 Tryd.underlying5 _ _ 9 Tryd.underlying9
    · rw [run_convert_bytes_string w 22 9 5 _ _ C Tryd.underlying22 Tryd.underlying5 Tryd.underlying9]
      rw [run_bytesToString w ad _ C [] (by simpa using run_loadCells_list (P := Tryd.prog) w ad [] (fun j v hj => by simp at hj))]
      rfl
  · obtain ⟨g, off, rfl, -, hc⟩ := h.spot (by simp)
    refine run_convert_bytes_arg w 22 5 Tryd.underlying22 Tryd.underlying5 g off n C ((x :: r).map Int.ofNat) (by rw [List.length_map, hn]) (fun i hi => ?_) 9 Tryd.underlying9
    have hil : i < (x :: r).length := by omega
    rw [hc i ((x :: r)[i]) (List.getElem?_eq_getElem hil)]
    simp only [List.getD_eq_getElem?_getD, List.getElem?_map, List.getElem?_eq_getElem hil]; rfl
theorem beq_strB {l m : List Nat} (hl : ∀ x ∈ l, x < 256) (hm : ∀ x ∈ m, x < 256) : ((strB l).toList == (strB m).toList) = decide (l = m) := by
  rw [Bool.eq_iff_iff, beq_iff_eq, decide_eq_true_eq]
  constructor
  · intro h
    rw [ByteArray.toList_eq, ByteArray.toList_eq] at h
    exact strB_inj hl hm (bytes_inj h)
  · intro h; rw [h]
/-- A row of bytes that is known whole, with room behind. -/
structure Roomy (w : World) (B g n cap : Nat) (cs : List Value) (l : List Nat) : Prop where
  row : w.heap[g]? = some (.cells cs.toArray 5 (0, 0))
  size : cs.length = cap
  cap : cap ≤ maxLen
  first : cs.take n = bys l
  base : B ≤ g
  lt : ∀ x ∈ l, x < 256
theorem OwnS.of_row {w : World} {B g n cap : Nat} {cs : List Value} {l : List Nat} (hrow : w.heap[g]? = some (.cells cs.toArray 5 (0, 0))) (hs : cs.length = cap) (hc : cap ≤ maxLen) (hn : n = l.length) (hf : cs.take n = bys l) (hb : B ≤ g) (hl : ∀ x ∈ l, x < 256) : OwnS w B (some ⟨g, 0, none⟩) n cap l := by
  have hnc : n ≤ cap := by
    have := congrArg List.length hf
    rw [List.length_take, bys_length] at this
    omega
  exact ⟨⟨by rw [bys_length, hn]; omega, .inr ⟨g, cap, cs.toArray, rfl, hb, hrow, hnc, hc, by rw [List.size_toArray, hs, Nat.mul_one], by rw [Nat.mul_one]; exact hf⟩⟩, hl⟩
theorem row_set {w : World} {g : Nat} {cs : List Value} {t : TypeId} (h : w.heap[g]? = some (.cells cs.toArray t (0, 0))) (i : Nat) (u : Value) : (w.setCell ⟨g, i, none⟩ u).heap[g]? = some (.cells (cs.set i u).toArray t (0, 0)) := by
  simp [World.setCell, Array.getElem?_modify, h]
theorem row_cell {w : World} {g : Nat} {cs : List Value} {t : TypeId} (h : w.heap[g]? = some (.cells cs.toArray t (0, 0))) (i : Nat) (hi : i < cs.length) : w.cell? ⟨g, i, none⟩ = some cs[i] := by
  rw [cell_of_row w g i cs.toArray t (0, 0) h]
  simp [hi]
theorem row_frozen {w : World} {g : Nat} {cs : Array Value} {t : TypeId} (h : w.heap[g]? = some (.cells cs t (0, 0))) (i : Nat) : w.frozen? ⟨g, i, none⟩ = false := by simp [World.frozen?, h]
theorem ByAt.shift {w : World} {g n : Nat} {l m : List Nat} (h : ByAt w (some ⟨g, 0, none⟩) (l ++ m)) (hn : n = l.length) : ByAt w (some ⟨g, n, none⟩) m := fun k x hx => by
  obtain ⟨h1, g', off, e, hg, hc⟩ := h (n + k) x (by rw [List.getElem?_append_right (by omega), hn, Nat.add_sub_cancel_left]; exact hx)
  cases e
  exact ⟨h1, g, n, rfl, hg, by rw [Nat.zero_add] at hc; exact hc⟩
/-- Cuts of a row that is known whole. -/
theorem row_to (g n cap k : Nat) (hk : k ≤ cap) : ∀ w, (Instr.slice 22 (.slice (some ⟨g, 0, none⟩) n cap) none (some (.int .i64 (k : Int))) none).run Tryd.prog w = .ok (.slice (some ⟨g, 0, none⟩) k cap) w := fun w => by
  rw [run_slice_h w 22 _ n cap Tryd.underlying22 .i64 (k : Int) (by omega) (by omega)]
  rw [show (Go.sizeOf (Tryd.prog.elem 22)).run Tryd.prog w = .ok 1 w from by kernel_rfl]
  simp [Result.andThen, sliced, Addr.add]
theorem row_from (g n cap k : Nat) (hk : k ≤ n) (hc : k < cap) : ∀ w, (Instr.slice 22 (.slice (some ⟨g, 0, none⟩) n cap) (some (.int .i64 (k : Int))) none none).run Tryd.prog w = .ok (.slice (some ⟨g, k, none⟩) (n - k) (cap - k)) w := fun w => by
  rw [run_slice_l w 22 _ n cap Tryd.underlying22 .i64 (k : Int) (by omega) (by omega)]
  rw [show (Go.sizeOf (Tryd.prog.elem 22)).run Tryd.prog w = .ok 1 w from by kernel_rfl]
  simp only [Result.andThen, sliced, Int.toNat_natCast]
  rw [if_neg (by omega)]
  simp [addr_add]
theorem row_from' (g n cap k j : Nat) (hk : n = k + j) (hc : k < cap) : ∀ w, (Instr.slice 22 (.slice (some ⟨g, 0, none⟩) n cap) (some (.int .i64 (k : Int))) none none).run Tryd.prog w = .ok (.slice (some ⟨g, k, none⟩) j (cap - k)) w := fun w => by
  have h := row_from g n cap k (by omega) hc w
  rwa [show n - k = j by omega] at h
theorem sizeU8 : (Tryd.prog.info? 5).map (·.size) = some 1 := by kernel_rfl
theorem copy_src {w w1 : World} {b dp : Option Addr} {ad : Addr} {body : List Nat} (hd : dp = some ad) (HB : Hid (ByAt w b body)) (hb : Below w.heap.size w w1) (h0 : 0 < (bys body).length) : dp = some ad ∧ ∃ ad, b = some ad ∧ ∀ j v, (bys body)[j]? = some v → w1.cell? (ad.add j) = some v := by
  refine ⟨hd, ?_⟩
  have h := HB.out.keep hb
  rcases b with _ | ad
  · rw [bys_length] at h0
    obtain ⟨-, g, off, e, -⟩ := h 0 body[0] (List.getElem?_eq_getElem h0)
    cases e
  · exact ⟨ad, rfl, fun j v hj => bys_at h j v hj⟩
theorem row_new {w : World} {g : Nat} {o o' : Obj} (h : Hid (w.heap[g]? = some o)) : (w.alloc o').drew.heap[g]? = some o := (Below.heap_alloc w o' g (Array.getElem?_eq_some_iff.1 h.out).1).trans h.out
theorem splice_len {α : Type} (L cs : List α) (i : Nat) (h : i + cs.length ≤ L.length) : (splice L i cs).length = L.length := length_splice L i cs h
theorem setCell_size (w : World) (a : Addr) (u : Value) : (w.setCell a u).heap.size = w.heap.size := by simp [World.setCell]
theorem by_size {w : World} {B : Nat} {o : Obj} (h : Hid (B ≤ w.heap.size)) : B ≤ (w.alloc o).heap.size := by simp; exact Nat.le_succ_of_le h.out
/-- A row of the call's own, whole. -/
theorem OwnS.row {w : World} {B n cap : Nat} {A : Option Addr} {l : List Nat} (h : OwnS w B A n cap l) (hn : 0 < n) : ∃ g cs, A = some ⟨g, 0, none⟩ ∧ Roomy w B g n cap cs l := by
  rcases h.1.2 with ⟨h1, h2⟩ | ⟨g, cap', cur, h1, hb, hrow, -, hc, hs, ht⟩
  · omega
  · cases h1
    exact ⟨g, cur.toList, rfl, hrow, by rw [Array.length_toList, hs, Nat.mul_one], hc, by rw [← ht, Nat.mul_one], hb, h.2⟩
theorem Roomy.lt_heap {w : World} {B g n cap : Nat} {cs : List Value} {l : List Nat} (h : Roomy w B g n cap cs l) : g < w.heap.size := (Array.getElem?_eq_some_iff.1 h.row).1
theorem bys_set (l : List Nat) (i x : Nat) : bys (l.set i x) = (bys l).set i (bv x) := by unfold bys; rw [List.map_set]
/-- A byte is written. -/
theorem Roomy.set {w : World} {B g n cap : Nat} {cs : List Value} {l : List Nat} (h : Roomy w B g n cap cs l) (i x : Nat) (hx : x < 256) : Roomy (w.setCell ⟨g, i, none⟩ (.int .u8 (x : Int))) B g n cap (cs.set i (bv x)) (l.set i x) :=
  ⟨row_set h.row i _, by rw [List.length_set, h.size], h.cap, by rw [List.take_set, h.first, bys_set], h.base, fun y hy => by
    rcases List.mem_or_eq_of_mem_set hy with h1 | h1
    · exact h.lt y h1
    · omega⟩
theorem Roomy.own {w : World} {B g n cap : Nat} {cs : List Value} {l : List Nat} (h : Roomy w B g n cap cs l) (hn : n = l.length) : OwnS w B (some ⟨g, 0, none⟩) n cap l := OwnS.of_row h.row h.size h.cap hn h.first h.base h.lt
theorem Roomy.cell {w : World} {B g n cap : Nat} {cs : List Value} {l : List Nat} (h : Roomy w B g n cap cs l) (i x : Nat) (hx : l[i]? = some x) (hi : i < n) : w.cell? ⟨g, i, none⟩ = some (.int .u8 (x : Int)) ∧ w.frozen? ⟨g, i, none⟩ = false := by
  refine ⟨?_, row_frozen h.row i⟩
  rw [cell_of_row w g i cs.toArray _ (0, 0) h.row]
  have h1 : (cs.take n)[i]? = some (bv x) := by rw [h.first]; unfold bys; rw [List.getElem?_map, hx]; rfl
  rw [List.getElem?_take, if_pos hi] at h1
  rw [List.getElem?_toArray]; exact h1
theorem Roomy.le {w : World} {B g n cap : Nat} {cs : List Value} {l : List Nat} (h : Roomy w B g n cap cs l) (hn : n = l.length) : n ≤ cap := by
  have := congrArg List.length h.first
  rw [List.length_take, bys_length, h.size] at this
  omega
theorem conv_at {w w' : World} {A : Option Addr} {l : List Nat} (n C : Nat) (h : Hid (ByAt w A l)) (hb : Below w.heap.size w w') (hn : n = l.length) : (convert 22 9 (.slice A n C)).run Tryd.prog w' = .ok (.string (strB l)) w' := conv_by n C (h.out.keep hb) hn
theorem below_to {W w w' : World} (h : Below W.heap.size W w) (h' : Below w.heap.size w w') : Below W.heap.size W w' := h.trans (h'.mono h.size)
theorem Roomy.drew {w : World} {B g n cap : Nat} {cs : List Value} {l : List Nat} (h : Roomy w B g n cap cs l) : Roomy w.drew B g n cap cs l := ⟨h.row, h.size, h.cap, h.first, h.base, h.lt⟩
theorem by_one (w : World) (x : Nat) (hx : x < 256) : ByAt (w.alloc (.cells #[.int .u8 (x : Int)] 5)) (some ⟨w.heap.size, 0, none⟩) [x] :=
  ByAt.of_row _ (fun y hy => by simp at hy; omega) (heap_alloc_new' w _) ⟨[], rfl⟩
theorem OwnS.base {w : World} {B n cap : Nat} {A : Option Addr} {l : List Nat} (h : OwnS w B A n cap l) : ∀ k, A.map (·.block) = some k → B ≤ k := fun k hk => by
  rcases h.1.2 with ⟨h1, h2⟩ | ⟨g, cap', cur, h1, hb, _⟩
  · cases h1; cases hk
  · cases h1; simp at hk; omega
theorem strB_size (l : List Nat) : (strB l).size = l.length := by unfold strB; rw [strOfNums_size, List.length_map]
theorem strB_append (l m : List Nat) : strB l ++ strB m = strB (l ++ m) := by
  apply bytes_inj
  unfold strB
  rw [ByteArray.data_append, Array.toList_append, strOfNums_data, strOfNums_data, strOfNums_data, List.map_append, List.map_append]
end Go.Proofs.YtpobfgokikfmbaaDoor

set_option linter.unusedSimpArgs false
set_option linter.unusedVariables false
namespace Go.Proofs.YtpobfgokikfmbaaDoor
open Go.RowKit Go.WideShapes
/-- All that was there is as it was, but for some blocks. -/
structure Kept (S : Nat → Prop) (w w' : World) : Prop where
  os : w'.os = w.os
  tape : w'.tape = w.tape
  output : w'.output = w.output
  size : w.heap.size ≤ w'.heap.size
  block : ∀ k, k < w.heap.size → ¬ S k → w'.heap[k]? = w.heap[k]?
section
variable {S S' : Nat → Prop} {a b c w w' : World}
theorem Kept.refl (S : Nat → Prop) (w : World) : Kept S w w := ⟨rfl, rfl, rfl, Nat.le_refl _, fun _ _ _ => rfl⟩
theorem Kept.trans (h : Kept S a b) (k : Kept S b c) : Kept S a c :=
  ⟨k.os.trans h.os, k.tape.trans h.tape, k.output.trans h.output, Nat.le_trans h.size k.size, fun i hi hs => (k.block i (Nat.lt_of_lt_of_le hi h.size) hs).trans (h.block i hi hs)⟩
/-- What comes behind may write what is new, too. -/
theorem Kept.trans' (h : Kept S a b) (k : Kept S' b c) (hs : ∀ i, S' i → S i ∨ a.heap.size ≤ i) : Kept S a c :=
  ⟨k.os.trans h.os, k.tape.trans h.tape, k.output.trans h.output, Nat.le_trans h.size k.size, fun i hi hn => (k.block i (Nat.lt_of_lt_of_le hi h.size) (fun h2 => by
    rcases hs i h2 with h3 | h3
    · exact hn h3
    · omega)).trans (h.block i hi hn)⟩
theorem Kept.mono (h : Kept S w w') (hs : ∀ k, S k → S' k ∨ w.heap.size ≤ k) : Kept S' w w' := ⟨h.os, h.tape, h.output, h.size, fun k hk hn => h.block k hk fun h1 => by
    rcases hs k h1 with h3 | h3
    · exact hn h3
    · omega⟩
theorem Kept.of_below (h : Below w.heap.size w w') : Kept S w w' := ⟨h.os, h.tape, h.output, h.size, fun k hk _ => h.block k hk⟩
theorem Kept.below {B : Nat} (h : Kept S w w') (hB : B ≤ w.heap.size) (hs : ∀ k, S k → B ≤ k) : Below B w w' := ⟨h.os, h.tape, h.output, h.size, fun k hk => h.block k (by omega) (fun h1 => by have := hs k h1; omega)⟩
theorem Kept.setCell (h : Kept S a w) (p : Addr) (u : Value) (hp : S p.block ∨ a.heap.size ≤ p.block) : Kept S a (w.setCell p u) :=
  ⟨h.os, h.tape, h.output, by rw [show (w.setCell p u).heap.size = w.heap.size by simp [World.setCell]]; exact h.size, fun k hk hn => by
    rw [Below.heap_setCell _ _ _ _ (fun e => by
      rcases hp with h1 | h1
      · exact hn (e ▸ h1)
      · omega)]; exact h.block k hk hn⟩
theorem Kept.drewN (h : Kept S a w) (n : Nat) : Kept S a (w.drewN n) := ⟨h.os, h.tape, h.output, h.size, h.block⟩
theorem Kept.drew (h : Kept S a w) : Kept S a w.drew := ⟨h.os, h.tape, h.output, h.size, h.block⟩
theorem Kept.alloc (h : Kept S a w) (o : Obj) : Kept S a (w.alloc o) :=
  ⟨h.os, h.tape, h.output, by simp; exact Nat.le_succ_of_le h.size, fun k hk hn => by rw [Below.heap_alloc _ _ _ (Nat.lt_of_lt_of_le hk h.size)]; exact h.block k hk hn⟩
theorem Kept.cell (h : Kept S w w') {p : Addr} (hp : p.block < w.heap.size) (hs : ¬ S p.block) : w'.cell? p = w.cell? p := World.cell?_of_block (h.block p.block hp hs)
theorem Kept.frozen (h : Kept S w w') {p : Addr} (hp : p.block < w.heap.size) (hs : ¬ S p.block) : w'.frozen? p = w.frozen? p := World.frozen?_of_block (h.block p.block hp hs)
theorem Kept.heap (h : Kept S w w') {k : Nat} {o : Obj} (hk : w.heap[k]? = some o) (hs : ¬ S k) : w'.heap[k]? = some o := (h.block k (Array.getElem?_eq_some_iff.1 hk).1 hs).trans hk
end
end Go.Proofs.YtpobfgokikfmbaaDoor
