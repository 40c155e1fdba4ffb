/-
  Layer event: contracts of strings.Compare, cmp.Compare, cmp.Or, compare.
-/
import Derived.Laws.Cover2
import Derived.Laws.FloatBits
import Derived.Laws.Bits64b
import Derived.Laws.BitsAllLaws
import Derived.Test.YtjldamkmdkaiiaaGreatDoorRows
import Derived.WalkKit
import Derived.WalkSpells
import Derived.WalkLawsBesides
import Derived.Lib.Hide
import Derived.Lib.Bytealg
import Derived.BigRegion
import Derived.Deep.RegionHeld3
import Derived.Deep.Draws
import Derived.Outline
import Derived.Sort.Grow
namespace Go.Proofs.YtjldamkmdkaiiaaGreatDoor.Fl
open Ieee
def rung (b : Nat) : Nat := b % 9223372036854775808
def nan (b : Nat) : Bool := decide (9218868437227405312 < rung b)
def canon (b : Nat) : Nat := if nan b then 9221120237041090560 else b
def key (b : Nat) : Int := if 9223372036854775808 ≤ b then -(rung b : Int) else (rung b : Int)
def mant (r : Nat) : Nat := if r < 4503599627370496 then r else 4503599627370496 + r % 4503599627370496
def shf (r : Nat) : Nat := if r < 4503599627370496 then 0 else r / 4503599627370496 - 1
def val (r : Nat) : Nat := mant r * 2 ^ shf r
theorem signW : Format.signWeight double = 9223372036854775808 := by decide
theorem binadeW : Format.binade double = 4503599627370496 := by decide
theorem infW : Format.infRung double = 9218868437227405312 := by decide
theorem leastW : Format.leastPlace double = -1074 := by decide
theorem neg_eq (b : Nat) (hb : b < 18446744073709551616) : (b / 9223372036854775808 % 2 == 1) = decide (9223372036854775808 ≤ b) := by
 rw [Bool.eq_iff_iff, beq_iff_eq, decide_eq_true_eq]; omega
theorem read_num (b : Nat) (hb : b < 18446744073709551616) (h : rung b < 9218868437227405312) :
  double.read b = .number (decide (9223372036854775808 ≤ b)) (mant (rung b)) (-1074 + (shf (rung b) : Nat)) := by
 unfold Format.read
 simp only [signW, binadeW, infW, leastW, neg_eq b hb]
 unfold rung at h
 unfold mant shf rung
 by_cases h1 : b % 9223372036854775808 < 4503599627370496
 ·simp [h1]
 ·simp only [h1, h, if_true, if_false]
theorem read_inf (b : Nat) (hb : b < 18446744073709551616) (h : rung b = 9218868437227405312) :
  double.read b = .infinity (decide (9223372036854775808 ≤ b)) := by
 unfold Format.read
 simp only [signW, binadeW, infW, leastW, neg_eq b hb]
 unfold rung at h
 simp [h]
theorem read_nan (b : Nat) (h : nan b = true) : (double.read b).isNaN = true := by
 unfold Format.read
 simp only [signW, binadeW, infW, leastW]
 unfold nan rung at h
 simp only [decide_eq_true_eq] at h
 rw [if_neg (by omega), if_neg (by omega), if_neg (by omega)]
 rfl
theorem order_nan_l (a b : Nat) (h : nan a = true) : double.order a b = none := by
 have := read_nan a h
 unfold Format.order
 cases hr : double.read a <;> simp_all [Datum.isNaN, Datum.order]
theorem val_lt_of_lt {r q : Nat} (h : r < q) : val r < val q := by
 unfold val mant shf
 by_cases hq : q < 4503599627370496
 ·have hr : r < 4503599627370496 := by omega
  simp [hr, hq, h]
 ·rw [if_neg hq, if_neg hq]
  by_cases hr : r < 4503599627370496
  ·rw [if_pos hr, if_pos hr]
   have : 1 ≤ 2 ^ (q / 4503599627370496 - 1) := Nat.one_le_two_pow
   calc r * 2 ^ 0 = r := by simp
    _ < 4503599627370496 * 1 := by omega
    _ ≤ (4503599627370496 + q % 4503599627370496) * 2 ^ (q / 4503599627370496 - 1) := Nat.mul_le_mul (by omega) this
  ·rw [if_neg hr, if_neg hr]
   by_cases he : r / 4503599627370496 = q / 4503599627370496
   ·rw [he]
    exact Nat.mul_lt_mul_of_pos_right (by omega) (Nat.two_pow_pos _)
   ·have hlt : r / 4503599627370496 - 1 + 1 ≤ q / 4503599627370496 - 1 := by omega
    calc (4503599627370496 + r % 4503599627370496) * 2 ^ (r / 4503599627370496 - 1)
      < (4503599627370496 * 2) * 2 ^ (r / 4503599627370496 - 1) := Nat.mul_lt_mul_of_pos_right (by omega) (Nat.two_pow_pos _)
     _ = 4503599627370496 * 2 ^ (r / 4503599627370496 - 1 + 1) := by rw [Nat.pow_succ, Nat.mul_assoc, Nat.mul_comm 2]
     _ ≤ 4503599627370496 * 2 ^ (q / 4503599627370496 - 1) := Nat.mul_le_mul (Nat.le_refl _) (Nat.pow_le_pow_right (by decide) hlt)
     _ ≤ (4503599627370496 + q % 4503599627370496) * 2 ^ (q / 4503599627370496 - 1) := Nat.mul_le_mul (by omega) (Nat.le_refl _)
theorem val_lt_iff (r q : Nat) : val r < val q ↔ r < q := by
 constructor
 ·intro h
  by_cases hc : r < q
  ·exact hc
  ·exfalso
   rcases Nat.lt_or_eq_of_le (Nat.le_of_not_lt hc) with h1 | h1
   ·exact absurd (val_lt_of_lt h1) (by omega)
   ·subst h1; omega
 ·exact val_lt_of_lt
theorem shiftLeft_mul (m a : Nat) : m <<< a = m * 2 ^ a := Nat.shiftLeft_eq m a
theorem cmp_int (a b c d : Int) (h1 : a < b ↔ c < d) (h2 : a = b ↔ c = d) : compare a b = compare c d := by
 show compareOfLessAndEq a b = compareOfLessAndEq c d
 unfold compareOfLessAndEq
 by_cases x : a < b
 ·rw [if_pos x, if_pos (h1.1 x)]
 ·rw [if_neg x, if_neg (fun h => x (h1.2 h))]
  by_cases y : a = b
  ·rw [if_pos y, if_pos (h2.1 y)]
  ·rw [if_neg y, if_neg (fun h => y (h2.2 h))]
def sg (n : Bool) (m : Nat) : Int := if n then -(m : Int) else (m : Int)
theorem cmp_sg (n k : Bool) (a b c d : Nat) (h1 : a < b ↔ c < d) (h2 : b < a ↔ d < c) (h0 : a = 0 ↔ c = 0) (h3 : b = 0 ↔ d = 0) :
  compare (sg n a) (sg k b) = compare (sg n c) (sg k d) := by
 unfold sg
 apply cmp_int <;> cases n <;> cases k <;> simp <;> omega
theorem scaled_lt (m s n t : Nat) : (m <<< (s - min s t) < n <<< (t - min s t)) ↔ m * 2 ^ s < n * 2 ^ t := by
 rw [shiftLeft_mul, shiftLeft_mul]
 have hp : 0 < 2 ^ min s t := Nat.two_pow_pos _
 have e1 : m * 2 ^ s = m * 2 ^ (s - min s t) * 2 ^ min s t := by rw [Nat.mul_assoc, ← Nat.pow_add, Nat.sub_add_cancel (Nat.min_le_left ..)]
 have e2 : n * 2 ^ t = n * 2 ^ (t - min s t) * 2 ^ min s t := by rw [Nat.mul_assoc, ← Nat.pow_add, Nat.sub_add_cancel (Nat.min_le_right ..)]
 rw [e1, e2]
 exact (Nat.mul_lt_mul_right hp).symm
theorem shl_zero_iff (m a : Nat) : m <<< a = 0 ↔ m = 0 := by
 rw [shiftLeft_mul]
 constructor
 ·intro h
  rcases Nat.mul_eq_zero.1 h with h | h
  ·exact h
  ·exact absurd h (Nat.pos_iff_ne_zero.1 (Nat.two_pow_pos a))
 ·intro h; subst h; simp
theorem mant_zero_iff (r : Nat) : mant r = 0 ↔ r = 0 := by
 unfold mant; split <;> omega
theorem min_place (s t : Nat) : ((-1074 + (s : Int)) - min (-1074 + (s : Int)) (-1074 + (t : Int))).toNat = s - min s t := by omega
theorem min_place' (s t : Nat) : ((-1074 + (t : Int)) - min (-1074 + (s : Int)) (-1074 + (t : Int))).toNat = t - min s t := by omega
theorem cmp_lt {a b : Int} (h : a < b) : compare a b = .lt := by
 show compareOfLessAndEq a b = .lt
 unfold compareOfLessAndEq; rw [if_pos h]
theorem cmp_gt {a b : Int} (h : b < a) : compare a b = .gt := by
 show compareOfLessAndEq a b = .gt
 unfold compareOfLessAndEq; rw [if_neg (by omega), if_neg (by omega)]
theorem cmp_inf_r (s t : Bool) (r i : Nat) (h : r < i) : (if t = true then Ordering.gt else Ordering.lt) = compare (sg s r) (sg t i) := by
 cases t
 ·rw [cmp_lt (by unfold sg; cases s <;> simp <;> omega)]; simp
 ·rw [cmp_gt (by unfold sg; cases s <;> simp <;> omega)]; simp
theorem cmp_inf_l (s t : Bool) (r i : Nat) (h : r < i) : (if t = true then Ordering.lt else Ordering.gt) = compare (sg t i) (sg s r) := by
 cases t
 ·rw [cmp_gt (by unfold sg; cases s <;> simp <;> omega)]; simp
 ·rw [cmp_lt (by unfold sg; cases s <;> simp <;> omega)]; simp
theorem order_key (a b : Nat) (ha : a < 18446744073709551616) (hb : b < 18446744073709551616) (na : nan a = false) (nb : nan b = false) :
  double.order a b = some (compare (key a) (key b)) := by
 have ka : key a = sg (decide (9223372036854775808 ≤ a)) (rung a) := by unfold key sg; by_cases h : 9223372036854775808 ≤ a <;> simp [h]
 have kb : key b = sg (decide (9223372036854775808 ≤ b)) (rung b) := by unfold key sg; by_cases h : 9223372036854775808 ≤ b <;> simp [h]
 rw [ka, kb]
 simp only [nan, decide_eq_false_iff_not] at na nb
 unfold Format.order
 rcases Nat.lt_or_eq_of_le (Nat.le_of_not_lt na) with h1 | h1 <;> rcases Nat.lt_or_eq_of_le (Nat.le_of_not_lt nb) with h2 | h2
 ·rw [read_num a ha h1, read_num b hb h2]
  simp only [Datum.order, Ieee.signed]
  rw [min_place, min_place']
  refine congrArg some ?_
  show compare (sg _ _) (sg _ _) = _
  refine cmp_sg _ _ _ _ _ _ ?_ ?_ ?_ ?_
  ·exact (scaled_lt ..).trans (val_lt_iff ..)
  ·rw [Nat.min_comm]; exact (scaled_lt ..).trans (val_lt_iff ..)
  ·rw [shl_zero_iff, mant_zero_iff]
  ·rw [shl_zero_iff, mant_zero_iff]
 ·rw [read_num a ha h1, read_inf b hb h2, h2]
  simp only [Datum.order]
  exact congrArg some (cmp_inf_r _ _ _ _ h1)
 ·rw [read_inf a ha h1, read_num b hb h2, h1]
  simp only [Datum.order]
  exact congrArg some (cmp_inf_l _ _ _ _ h2)
 ·rw [read_inf a ha h1, read_inf b hb h2, h1, h2]
  simp only [Datum.order]
  refine congrArg some ?_
  unfold sg
  by_cases x : 9223372036854775808 ≤ b <;> by_cases y : 9223372036854775808 ≤ a <;> simp [x, y, compare, compareOfLessAndEq]
theorem ne_self (b : Nat) (hb : b < 18446744073709551616) : (double.order b b != some .eq) = nan b := by
 cases h : nan b
 ·rw [order_key b b hb hb h h]; simp [compare, compareOfLessAndEq]
 ·rw [order_nan_l b b h]; rfl
theorem canon_lt (b : Nat) (hb : b < 18446744073709551616) : canon b < 18446744073709551616 := by unfold canon; split <;> omega
theorem canon_canon (b : Nat) : canon (canon b) = canon b := by
 unfold canon
 cases h : nan b
 ·simp [h]
 ·simp [nan, rung]
/-! What Go's operations on bits give. -/
end Go.Proofs.YtjldamkmdkaiiaaGreatDoor.Fl
namespace Go.Proofs.YtjldamkmdkaiiaaGreatDoor
open Go.RowKit
theorem ret_eq {v v' : Value} (h : v = v') : Ending.returned v = Ending.returned v' := by rw [h]
theorem fb_run (n : Int) (w : World) : (callFunc 163 #[.int .u64 n]).run Tryz.prog w = .ok (.value (.float .f64 n.toNat)) w := by
 rw [run_callFunc_extern Tryz.func163 (by kernel_rfl) (by kernel_rfl) (by kernel_rfl) (e := Extern.MathFloatBits.float64frombits) (by kernel_rfl)]
 rfl
theorem tb_run (b : Nat) (w : World) : (callFunc 76 #[.float .f64 b]).run Tryz.prog w = .ok (.value (.int .u64 b)) w := by
 rw [run_callFunc_extern Tryz.func76 (by kernel_rfl) (by kernel_rfl) (by kernel_rfl) (e := Extern.MathFloatBits.float64bits) (by kernel_rfl)]
 rfl
set_option maxHeartbeats 400000 in
theorem isNaN_any (b : Nat) (hb : b < 18446744073709551616) (w : World) :
  Calls Tryz.prog 162 #[.float .f64 b] w fun e w' => e = .returned (.bool (Fl.nan b)) ∧ w = w' := by
 have xf := fb_run
 have xt := tb_run
 go_enter Tryz.func162, Tryz.ntmps162
 go_wp2
 go_ret
 exact ⟨ret_eq (congrArg Value.bool (Fl.ne_self b hb)), rfl⟩
set_option maxHeartbeats 400000 in
theorem canon_any (b : Nat) (hb : b < 18446744073709551616) (w : World) :
  Calls Tryz.prog 130 #[.float .f64 b] w fun e w' => e = .returned (.float .f64 (Fl.canon b)) ∧ w = w' := by
 cases h : Fl.nan b
 all_goals
  have h2 : Hid (Fl.nan b = _) := h
  have xf := fb_run
  have xt := tb_run
  go_enter Tryz.func130, Tryz.ntmps130
  go_wp2_with (go_at_call 162; refine (isNaN_any _ hb _).mono ?_; rintro e w' ⟨rfl, rfl⟩)
  go_ret
  exact ⟨ret_eq (by simp [Fl.canon, h2.out]), rfl⟩
set_option maxHeartbeats 400000 in
theorem bits_any (b : Nat) (hb : b < 18446744073709551616) (w : World) :
  Calls Tryz.prog 99 #[.float .f64 b] w fun e w' => e = .returned (.int .u64 (Fl.canon b : Nat)) ∧ w = w' := by
 have xt := tb_run
 go_enter Tryz.func99, Tryz.ntmps99
 go_wp2_with (go_at_call 130; refine (canon_any _ hb _).mono ?_; rintro e w' ⟨rfl, rfl⟩)
 go_ret
 exact ⟨rfl, rfl⟩
set_option maxHeartbeats 400000 in
theorem of_any (b : Nat) (hb : b < 18446744073709551616) (w : World) :
  Calls Tryz.prog 182 #[.int .u64 b] w fun e w' => e = .returned (.float .f64 (Fl.canon b)) ∧ w = w' := by
 have xf := fb_run
 go_enter Tryz.func182, Tryz.ntmps182
 go_wp2_with (go_at_call 130; refine (canon_any _ hb _).mono ?_; rintro e w' ⟨rfl, rfl⟩)
 go_ret
 exact ⟨rfl, rfl⟩
set_option maxHeartbeats 400000 in
theorem refBits_any (b : Nat) (hb : b < 18446744073709551616) (w : World) :
  Calls Tryz.prog 63 #[.float .f64 b] w fun e w' => e = .returned (.int .u64 (Fl.canon b : Nat)) ∧ w = w' := by
 have xt := tb_run
 go_enter Tryz.func63, Tryz.ntmps63
 go_wp2
 all_goals
  go_ret
  refine ⟨ret_eq ?_, rfl⟩
  unfold Fl.canon Fl.nan Fl.rung
 ·rename_i h1 h2
  have h3 : (b : Int) % 4503599627370496 ≠ 0 := bne_iff_ne.1 h2
  rw [if_pos (by rw [decide_eq_true_eq]; omega)]; rfl
 ·rename_i h1 h2
  have h3 : (b : Int) % 4503599627370496 = 0 := by simpa using h2
  rw [if_neg (by rw [decide_eq_true_eq]; omega)]; rfl
 ·rename_i h1
  rw [if_neg (by rw [decide_eq_true_eq]; omega)]; rfl
theorem cast_beq (x y : Nat) : ((x : Int) == (y : Int)) = decide (x = y) := by
 rw [Bool.eq_iff_iff, beq_iff_eq, decide_eq_true_eq]; omega
set_option maxHeartbeats 400000 in
theorem refSame_any (a b : Nat) (ha : a < 18446744073709551616) (hb : b < 18446744073709551616) (w : World) :
  Calls Tryz.prog 48 #[.float .f64 a, .float .f64 b] w fun e w' => e = .returned (.bool (decide (Fl.canon a = Fl.canon b))) ∧ w = w' := by
 go_enter Tryz.func48, Tryz.ntmps48
 go_wp2_with (go_at_call 63; refine (refBits_any _ (by assumption) _).mono ?_; rintro e w' ⟨rfl, rfl⟩)
 go_ret
 exact ⟨ret_eq (congrArg Value.bool (cast_beq _ _)), rfl⟩
end Go.Proofs.YtjldamkmdkaiiaaGreatDoor
set_option linter.unusedSimpArgs false
set_option linter.unusedVariables false
namespace Go.Proofs.YtjldamkmdkaiiaaGreatDoor
open Go.RowKit Go.Sort
structure Ev where
 off : Nat
 part : Int
 time : Int
 key : ByteArray
 val : Nat
instance : Inhabited Ev := ⟨⟨0, 0, 0, ByteArray.empty, 0⟩⟩
def Ev.cells (x : Ev) : List Value := [.int .u64 (x.off : Int), .int .i64 x.part, .int .i64 x.time, .string x.key, .float .f64 x.val]
def cmpI (a b : Int) : Int := if a < b then -1 else if b < a then 1 else 0
def or3 (a b c : Int) : Int := if a ≠ 0 then a else if b ≠ 0 then b else c
def cmpK (a b : ByteArray) : Int := Lib.compareBytes a.data.toList b.data.toList
def evCmp (x y : Ev) : Int := or3 (cmpK x.key y.key) (cmpI x.time y.time) (cmpI (x.off : Int) (y.off : Int))
theorem cmpstr_run (a b : ByteArray) (w : World) : (callFunc 64 #[.string a, .string b]).run Tryz.prog w = .ok (.value (.int .i64 (cmpK a b))) w := by
 rw [run_callFunc_extern Tryz.func64 (by kernel_rfl) (by kernel_rfl) (by kernel_rfl) (e := Extern.BytealgCompare.compare) (by kernel_rfl), Lib.run_compareString]
 rfl
set_option maxHeartbeats 400000 in
theorem compareString_any (a b : ByteArray) (w : World) : Calls Tryz.prog 53 #[.string a, .string b] w fun e w' => e = .returned (.int .i64 (cmpK a b)) ∧ w = w' := by
 have xr := fun w => cmpstr_run a b w
 generalize cmpK a b = r at *
 go_enter Tryz.func53, Tryz.ntmps53
 go_wp2
 go_ret
 exact ⟨rfl, rfl⟩
set_option maxHeartbeats 400000 in
theorem strCompare_any (a b : ByteArray) (w : World) : Calls Tryz.prog 40 #[.string a, .string b] w fun e w' => e = .returned (.int .i64 (cmpK a b)) ∧ w = w' := by
 have h := fun w => compareString_any a b w
 generalize cmpK a b = r at *
 have H := Lib.hid h
 clear h
 go_enter Tryz.func40, Tryz.ntmps40
 go_wp2_with (go_at_call 53; refine (H.out _).mono ?_; rintro e w' ⟨rfl, rfl⟩)
 go_ret
 exact ⟨rfl, rfl⟩
set_option maxHeartbeats 400000 in
theorem isNaNI_any (a : Int) (w : World) : Calls Tryz.prog 106 #[.int .i64 a] w fun e w' => e = .returned (.bool false) ∧ w = w' := by
 go_enter Tryz.func106, Tryz.ntmps106
 go_wp2
 go_ret
 exact ⟨rfl, rfl⟩
set_option maxHeartbeats 400000 in
theorem isNaNU_any (a : Int) (w : World) : Calls Tryz.prog 107 #[.int .u64 a] w fun e w' => e = .returned (.bool false) ∧ w = w' := by
 go_enter Tryz.func107, Tryz.ntmps107
 go_wp2
 go_ret
 exact ⟨rfl, rfl⟩
theorem cmpI_lt {a b : Int} (h : a < b) : cmpI a b = -1 := if_pos h
theorem cmpI_gt {a b : Int} (h : b < a) : cmpI a b = 1 := by unfold cmpI; rw [if_neg (by omega), if_pos h]
theorem cmpI_eq {a b : Int} (h1 : ¬ a < b) (h2 : ¬ b < a) : cmpI a b = 0 := by unfold cmpI; rw [if_neg h1, if_neg h2]
set_option maxHeartbeats 400000 in
theorem cmpInt_any (a b : Int) (w : World) : Calls Tryz.prog 85 #[.int .i64 (a : Int), .int .i64 (b : Int)] w fun e w' => e = .returned (.int .i64 (cmpI (a : Int) (b : Int))) ∧ w = w' := by
 have hc : ((a : Int) < b ∧ Hid (cmpI (a : Int) (b : Int) = -1)) ∨ ((b : Int) < a ∧ Hid (cmpI (a : Int) (b : Int) = 1)) ∨ ((¬ (a : Int) < b ∧ ¬ (b : Int) < a) ∧ Hid (cmpI (a : Int) (b : Int) = 0)) := by
  by_cases h1 : (a : Int) < b
  ·exact .inl ⟨h1, Lib.hid (cmpI_lt h1)⟩
  ·by_cases h2 : (b : Int) < a
   ·exact .inr (.inl ⟨h2, Lib.hid (cmpI_gt h2)⟩)
   ·exact .inr (.inr ⟨⟨h1, h2⟩, Lib.hid (cmpI_eq h1 h2)⟩)
 generalize cmpI (a : Int) (b : Int) = r at *
 rcases hc with ⟨h1, hr⟩ | ⟨h1, hr⟩ | ⟨⟨h1, h2⟩, hr⟩
 all_goals
  go_enter Tryz.func85, Tryz.ntmps85
  go_wp2_with (go_at_call 106; refine (isNaNI_any _ _).mono ?_; rintro e w' ⟨rfl, rfl⟩)
  go_ret
  exact ⟨ret_eq (by rw [hr.out]; rfl), rfl⟩
set_option maxHeartbeats 400000 in
theorem cmpUint_any (a b : Nat) (w : World) : Calls Tryz.prog 86 #[.int .u64 (a : Int), .int .u64 (b : Int)] w fun e w' => e = .returned (.int .i64 (cmpI (a : Int) (b : Int))) ∧ w = w' := by
 have hc : ((a : Int) < b ∧ Hid (cmpI (a : Int) (b : Int) = -1)) ∨ ((b : Int) < a ∧ Hid (cmpI (a : Int) (b : Int) = 1)) ∨ ((¬ (a : Int) < b ∧ ¬ (b : Int) < a) ∧ Hid (cmpI (a : Int) (b : Int) = 0)) := by
  by_cases h1 : (a : Int) < b
  ·exact .inl ⟨h1, Lib.hid (cmpI_lt h1)⟩
  ·by_cases h2 : (b : Int) < a
   ·exact .inr (.inl ⟨h2, Lib.hid (cmpI_gt h2)⟩)
   ·exact .inr (.inr ⟨⟨h1, h2⟩, Lib.hid (cmpI_eq h1 h2)⟩)
 generalize cmpI (a : Int) (b : Int) = r at *
 rcases hc with ⟨h1, hr⟩ | ⟨h1, hr⟩ | ⟨⟨h1, h2⟩, hr⟩
 all_goals
  go_enter Tryz.func86, Tryz.ntmps86
  go_wp2_with (go_at_call 107; refine (isNaNU_any _ _).mono ?_; rintro e w' ⟨rfl, rfl⟩)
  go_ret
  exact ⟨ret_eq (by rw [hr.out]; rfl), rfl⟩
set_option maxHeartbeats 1000000 in
theorem or_any (g : Nat) (a b c r : Int) (hr : or3 a b c = r) (w : World) (h0 : w.cell? ⟨g, 0, none⟩ = some (.int .i64 a)) (h1 : w.cell? ⟨g, 1, none⟩ = some (.int .i64 b)) (h2 : w.cell? ⟨g, 2, none⟩ = some (.int .i64 c)) :
  Calls Tryz.prog 84 #[.slice (some ⟨g, 0, none⟩) 3 3] w fun e w' => e = .returned (.int .i64 r) ∧ w = w' := by
 have HR := Lib.hid hr
 clear hr
 go_enter Tryz.func84, Tryz.ntmps84
 go_wp2
 go_loop [8] (fun i => (i = .int .i64 0) ∨ (i = .int .i64 1 ∧ a = 0) ∨ (i = .int .i64 2 ∧ a = 0 ∧ b = 0) ∨ (i = .int .i64 3 ∧ a = 0 ∧ b = 0 ∧ c = 0)) (fun i => (3 - intOf i).toNat)
 case atStart => exact Or.inl rfl
 case round =>
  rcases hrel with rfl | ⟨rfl, ha⟩ | ⟨rfl, ha, hb⟩ | ⟨rfl, ha, hb, hc⟩
  ·by_cases ha : a = 0
   ·have ha' : (a == 0) = true := by simpa using ha
    have HA := Lib.hid ha
    clear ha
    go_wp2
    go_round
    case rel => exact Or.inr (Or.inl ⟨rfl, HA.out⟩)
    case measure => simp [intOf]
   ·have ha' : (a != 0) = true := by simpa using ha
    go_wp2
    go_ret
    exact ⟨ret_eq (by rw [← HR.out]; unfold or3; rw [if_pos ha]; rfl), rfl⟩
  ·have HA := Lib.hid ha
   clear ha
   by_cases hb : b = 0
   ·have HB := Lib.hid hb
    have hb' : (b == 0) = true := by simpa using hb
    clear hb
    go_wp2
    go_round
    case rel => exact Or.inr (Or.inr (Or.inl ⟨rfl, HA.out, HB.out⟩))
    case measure => simp [intOf]
   ·go_wp2
    go_ret
    exact ⟨ret_eq (by rw [← HR.out]; unfold or3; rw [if_neg (by rw [HA.out]; decide), if_pos hb]; rfl), rfl⟩
  ·have HA := Lib.hid ha
   have HB := Lib.hid hb
   clear ha hb
   by_cases hc : c = 0
   ·have HC := Lib.hid hc
    have hc' : (c == 0) = true := by simpa using hc
    clear hc
    go_wp2
    go_round
    case rel => exact Or.inr (Or.inr (Or.inr ⟨rfl, HA.out, HB.out, HC.out⟩))
    case measure => simp [intOf]
   ·go_wp2
    go_ret
    exact ⟨ret_eq (by rw [← HR.out]; unfold or3; rw [if_neg (by rw [HA.out]; decide), if_neg (by rw [HB.out]; decide)]; rfl), rfl⟩
  ·have HA := Lib.hid ha
   have HB := Lib.hid hb
   have HC := Lib.hid hc
   clear ha hb hc
   go_wp2
   go_ret
   exact ⟨ret_eq (by rw [← HR.out]; unfold or3; rw [if_neg (by rw [HA.out]; decide), if_neg (by rw [HB.out]; decide), HC.out]; rfl), rfl⟩
end Go.Proofs.YtjldamkmdkaiiaaGreatDoor
