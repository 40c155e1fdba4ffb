/-
  A slice of events that came in, opened: beside a tied card's frame. Made by gen_po.py out of event/XPk and event/XPe.
-/
import Derived.Laws.Cover2
import Derived.Laws.FloatBits
import Derived.Laws.Bits64b
import Derived.Laws.BitsAllLaws
import Derived.Test.YtjldamkmdkaiiaaGreatDoorRows
import Derived.WalkKit
import Derived.WalkSpells
import Derived.WalkLawsBesides
import Derived.Lib.Hide
import Derived.Lib.Bytealg
import Derived.BigRegion
import Derived.Deep.RegionHeld3
import Derived.Deep.Draws
import Derived.Outline
import Derived.Sort.Grow
import Derived.Shelf.SlSortCmp.InsertionK
import Derived.Shelf.SlicesE.Clone
import Derived.Lib.OwnBridge
import Derived.Deep.DeepCutAuto
import Derived.Test.YtjldamkmdkaiiaaGreatDoorGlK
import Derived.Test.YtjldamkmdkaiiaaGreatDoorTkK
namespace Go.Proofs.YtjldamkmdkaiiaaGreatDoor.Fl
open Ieee
def rung (b : Nat) : Nat := b % 9223372036854775808
def nan (b : Nat) : Bool := decide (9218868437227405312 < rung b)
def canon (b : Nat) : Nat := if nan b then 9221120237041090560 else b
def key (b : Nat) : Int := if 9223372036854775808 ≤ b then -(rung b : Int) else (rung b : Int)
def mant (r : Nat) : Nat := if r < 4503599627370496 then r else 4503599627370496 + r % 4503599627370496
def shf (r : Nat) : Nat := if r < 4503599627370496 then 0 else r / 4503599627370496 - 1
def val (r : Nat) : Nat := mant r * 2 ^ shf r
theorem signW : Format.signWeight double = 9223372036854775808 := by decide
theorem binadeW : Format.binade double = 4503599627370496 := by decide
theorem infW : Format.infRung double = 9218868437227405312 := by decide
theorem leastW : Format.leastPlace double = -1074 := by decide
theorem neg_eq (b : Nat) (hb : b < 18446744073709551616) : (b / 9223372036854775808 % 2 == 1) = decide (9223372036854775808 ≤ b) := by
 rw [Bool.eq_iff_iff, beq_iff_eq, decide_eq_true_eq]; omega
theorem read_num (b : Nat) (hb : b < 18446744073709551616) (h : rung b < 9218868437227405312) :
  double.read b = .number (decide (9223372036854775808 ≤ b)) (mant (rung b)) (-1074 + (shf (rung b) : Nat)) := by
 unfold Format.read
 simp only [signW, binadeW, infW, leastW, neg_eq b hb]
 unfold rung at h
 unfold mant shf rung
 by_cases h1 : b % 9223372036854775808 < 4503599627370496
 ·simp [h1]
 ·simp only [h1, h, if_true, if_false]
theorem read_inf (b : Nat) (hb : b < 18446744073709551616) (h : rung b = 9218868437227405312) :
  double.read b = .infinity (decide (9223372036854775808 ≤ b)) := by
 unfold Format.read
 simp only [signW, binadeW, infW, leastW, neg_eq b hb]
 unfold rung at h
 simp [h]
theorem read_nan (b : Nat) (h : nan b = true) : (double.read b).isNaN = true := by
 unfold Format.read
 simp only [signW, binadeW, infW, leastW]
 unfold nan rung at h
 simp only [decide_eq_true_eq] at h
 rw [if_neg (by omega), if_neg (by omega), if_neg (by omega)]
 rfl
theorem order_nan_l (a b : Nat) (h : nan a = true) : double.order a b = none := by
 have := read_nan a h
 unfold Format.order
 cases hr : double.read a <;> simp_all [Datum.isNaN, Datum.order]
theorem val_lt_of_lt {r q : Nat} (h : r < q) : val r < val q := by
 unfold val mant shf
 by_cases hq : q < 4503599627370496
 ·have hr : r < 4503599627370496 := by omega
  simp [hr, hq, h]
 ·rw [if_neg hq, if_neg hq]
  by_cases hr : r < 4503599627370496
  ·rw [if_pos hr, if_pos hr]
   have : 1 ≤ 2 ^ (q / 4503599627370496 - 1) := Nat.one_le_two_pow
   calc r * 2 ^ 0 = r := by simp
    _ < 4503599627370496 * 1 := by omega
    _ ≤ (4503599627370496 + q % 4503599627370496) * 2 ^ (q / 4503599627370496 - 1) := Nat.mul_le_mul (by omega) this
  ·rw [if_neg hr, if_neg hr]
   by_cases he : r / 4503599627370496 = q / 4503599627370496
   ·rw [he]
    exact Nat.mul_lt_mul_of_pos_right (by omega) (Nat.two_pow_pos _)
   ·have hlt : r / 4503599627370496 - 1 + 1 ≤ q / 4503599627370496 - 1 := by omega
    calc (4503599627370496 + r % 4503599627370496) * 2 ^ (r / 4503599627370496 - 1)
      < (4503599627370496 * 2) * 2 ^ (r / 4503599627370496 - 1) := Nat.mul_lt_mul_of_pos_right (by omega) (Nat.two_pow_pos _)
     _ = 4503599627370496 * 2 ^ (r / 4503599627370496 - 1 + 1) := by rw [Nat.pow_succ, Nat.mul_assoc, Nat.mul_comm 2]
     _ ≤ 4503599627370496 * 2 ^ (q / 4503599627370496 - 1) := Nat.mul_le_mul (Nat.le_refl _) (Nat.pow_le_pow_right (by decide) hlt)
     _ ≤ (4503599627370496 + q % 4503599627370496) * 2 ^ (q / 4503599627370496 - 1) := Nat.mul_le_mul (by omega) (Nat.le_refl _)
theorem val_lt_iff (r q : Nat) : val r < val q ↔ r < q := by
 constructor
 ·intro h
  by_cases hc : r < q
  ·exact hc
  ·exfalso
   rcases Nat.lt_or_eq_of_le (Nat.le_of_not_lt hc) with h1 | h1
   ·exact absurd (val_lt_of_lt h1) (by omega)
   ·subst h1; omega
 ·exact val_lt_of_lt
theorem shiftLeft_mul (m a : Nat) : m <<< a = m * 2 ^ a := Nat.shiftLeft_eq m a
theorem cmp_int (a b c d : Int) (h1 : a < b ↔ c < d) (h2 : a = b ↔ c = d) : compare a b = compare c d := by
 show compareOfLessAndEq a b = compareOfLessAndEq c d
 unfold compareOfLessAndEq
 by_cases x : a < b
 ·rw [if_pos x, if_pos (h1.1 x)]
 ·rw [if_neg x, if_neg (fun h => x (h1.2 h))]
  by_cases y : a = b
  ·rw [if_pos y, if_pos (h2.1 y)]
  ·rw [if_neg y, if_neg (fun h => y (h2.2 h))]
def sg (n : Bool) (m : Nat) : Int := if n then -(m : Int) else (m : Int)
theorem cmp_sg (n k : Bool) (a b c d : Nat) (h1 : a < b ↔ c < d) (h2 : b < a ↔ d < c) (h0 : a = 0 ↔ c = 0) (h3 : b = 0 ↔ d = 0) :
  compare (sg n a) (sg k b) = compare (sg n c) (sg k d) := by
 unfold sg
 apply cmp_int <;> cases n <;> cases k <;> simp <;> omega
theorem scaled_lt (m s n t : Nat) : (m <<< (s - min s t) < n <<< (t - min s t)) ↔ m * 2 ^ s < n * 2 ^ t := by
 rw [shiftLeft_mul, shiftLeft_mul]
 have hp : 0 < 2 ^ min s t := Nat.two_pow_pos _
 have e1 : m * 2 ^ s = m * 2 ^ (s - min s t) * 2 ^ min s t := by rw [Nat.mul_assoc, ← Nat.pow_add, Nat.sub_add_cancel (Nat.min_le_left ..)]
 have e2 : n * 2 ^ t = n * 2 ^ (t - min s t) * 2 ^ min s t := by rw [Nat.mul_assoc, ← Nat.pow_add, Nat.sub_add_cancel (Nat.min_le_right ..)]
 rw [e1, e2]
 exact (Nat.mul_lt_mul_right hp).symm
theorem shl_zero_iff (m a : Nat) : m <<< a = 0 ↔ m = 0 := by
 rw [shiftLeft_mul]
 constructor
 ·intro h
  rcases Nat.mul_eq_zero.1 h with h | h
  ·exact h
  ·exact absurd h (Nat.pos_iff_ne_zero.1 (Nat.two_pow_pos a))
 ·intro h; subst h; simp
theorem mant_zero_iff (r : Nat) : mant r = 0 ↔ r = 0 := by
 unfold mant; split <;> omega
theorem min_place (s t : Nat) : ((-1074 + (s : Int)) - min (-1074 + (s : Int)) (-1074 + (t : Int))).toNat = s - min s t := by omega
theorem min_place' (s t : Nat) : ((-1074 + (t : Int)) - min (-1074 + (s : Int)) (-1074 + (t : Int))).toNat = t - min s t := by omega
theorem cmp_lt {a b : Int} (h : a < b) : compare a b = .lt := by
 show compareOfLessAndEq a b = .lt
 unfold compareOfLessAndEq; rw [if_pos h]
theorem cmp_gt {a b : Int} (h : b < a) : compare a b = .gt := by
 show compareOfLessAndEq a b = .gt
 unfold compareOfLessAndEq; rw [if_neg (by omega), if_neg (by omega)]
theorem cmp_inf_r (s t : Bool) (r i : Nat) (h : r < i) : (if t = true then Ordering.gt else Ordering.lt) = compare (sg s r) (sg t i) := by
 cases t
 ·rw [cmp_lt (by unfold sg; cases s <;> simp <;> omega)]; simp
 ·rw [cmp_gt (by unfold sg; cases s <;> simp <;> omega)]; simp
theorem cmp_inf_l (s t : Bool) (r i : Nat) (h : r < i) : (if t = true then Ordering.lt else Ordering.gt) = compare (sg t i) (sg s r) := by
 cases t
 ·rw [cmp_gt (by unfold sg; cases s <;> simp <;> omega)]; simp
 ·rw [cmp_lt (by unfold sg; cases s <;> simp <;> omega)]; simp
theorem order_key (a b : Nat) (ha : a < 18446744073709551616) (hb : b < 18446744073709551616) (na : nan a = false) (nb : nan b = false) :
  double.order a b = some (compare (key a) (key b)) := by
 have ka : key a = sg (decide (9223372036854775808 ≤ a)) (rung a) := by unfold key sg; by_cases h : 9223372036854775808 ≤ a <;> simp [h]
 have kb : key b = sg (decide (9223372036854775808 ≤ b)) (rung b) := by unfold key sg; by_cases h : 9223372036854775808 ≤ b <;> simp [h]
 rw [ka, kb]
 simp only [nan, decide_eq_false_iff_not] at na nb
 unfold Format.order
 rcases Nat.lt_or_eq_of_le (Nat.le_of_not_lt na) with h1 | h1 <;> rcases Nat.lt_or_eq_of_le (Nat.le_of_not_lt nb) with h2 | h2
 ·rw [read_num a ha h1, read_num b hb h2]
  simp only [Datum.order, Ieee.signed]
  rw [min_place, min_place']
  refine congrArg some ?_
  show compare (sg _ _) (sg _ _) = _
  refine cmp_sg _ _ _ _ _ _ ?_ ?_ ?_ ?_
  ·exact (scaled_lt ..).trans (val_lt_iff ..)
  ·rw [Nat.min_comm]; exact (scaled_lt ..).trans (val_lt_iff ..)
  ·rw [shl_zero_iff, mant_zero_iff]
  ·rw [shl_zero_iff, mant_zero_iff]
 ·rw [read_num a ha h1, read_inf b hb h2, h2]
  simp only [Datum.order]
  exact congrArg some (cmp_inf_r _ _ _ _ h1)
 ·rw [read_inf a ha h1, read_num b hb h2, h1]
  simp only [Datum.order]
  exact congrArg some (cmp_inf_l _ _ _ _ h2)
 ·rw [read_inf a ha h1, read_inf b hb h2, h1, h2]
  simp only [Datum.order]
  refine congrArg some ?_
  unfold sg
  by_cases x : 9223372036854775808 ≤ b <;> by_cases y : 9223372036854775808 ≤ a <;> simp [x, y, compare, compareOfLessAndEq]
theorem ne_self (b : Nat) (hb : b < 18446744073709551616) : (double.order b b != some .eq) = nan b := by
 cases h : nan b
 ·rw [order_key b b hb hb h h]; simp [compare, compareOfLessAndEq]
 ·rw [order_nan_l b b h]; rfl
theorem canon_lt (b : Nat) (hb : b < 18446744073709551616) : canon b < 18446744073709551616 := by unfold canon; split <;> omega
theorem canon_canon (b : Nat) : canon (canon b) = canon b := by
 unfold canon
 cases h : nan b
 ·simp [h]
 ·simp [nan, rung]
/-! What Go's operations on bits give. -/
end Go.Proofs.YtjldamkmdkaiiaaGreatDoor.Fl
namespace Go.Proofs.YtjldamkmdkaiiaaGreatDoor
open Go.RowKit
theorem ret_eq {v v' : Value} (h : v = v') : Ending.returned v = Ending.returned v' := by rw [h]
theorem fb_run (n : Int) (w : World) : (callFunc 163 #[.int .u64 n]).run Tryz.prog w = .ok (.value (.float .f64 n.toNat)) w := by
 rw [run_callFunc_extern Tryz.func163 (by kernel_rfl) (by kernel_rfl) (by kernel_rfl) (e := Extern.MathFloatBits.float64frombits) (by kernel_rfl)]
 rfl
theorem tb_run (b : Nat) (w : World) : (callFunc 76 #[.float .f64 b]).run Tryz.prog w = .ok (.value (.int .u64 b)) w := by
 rw [run_callFunc_extern Tryz.func76 (by kernel_rfl) (by kernel_rfl) (by kernel_rfl) (e := Extern.MathFloatBits.float64bits) (by kernel_rfl)]
 rfl
set_option maxHeartbeats 400000 in
theorem isNaN_any (b : Nat) (hb : b < 18446744073709551616) (w : World) :
  Calls Tryz.prog 162 #[.float .f64 b] w fun e w' => e = .returned (.bool (Fl.nan b)) ∧ w = w' := by
 have xf := fb_run
 have xt := tb_run
 go_enter Tryz.func162, Tryz.ntmps162
 go_wp2
 go_ret
 exact ⟨ret_eq (congrArg Value.bool (Fl.ne_self b hb)), rfl⟩
set_option maxHeartbeats 400000 in
theorem canon_any (b : Nat) (hb : b < 18446744073709551616) (w : World) :
  Calls Tryz.prog 130 #[.float .f64 b] w fun e w' => e = .returned (.float .f64 (Fl.canon b)) ∧ w = w' := by
 cases h : Fl.nan b
 all_goals
  have h2 : Hid (Fl.nan b = _) := h
  have xf := fb_run
  have xt := tb_run
  go_enter Tryz.func130, Tryz.ntmps130
  go_wp2_with (go_at_call 162; refine (isNaN_any _ hb _).mono ?_; rintro e w' ⟨rfl, rfl⟩)
  go_ret
  exact ⟨ret_eq (by simp [Fl.canon, h2.out]), rfl⟩
set_option maxHeartbeats 400000 in
theorem bits_any (b : Nat) (hb : b < 18446744073709551616) (w : World) :
  Calls Tryz.prog 99 #[.float .f64 b] w fun e w' => e = .returned (.int .u64 (Fl.canon b : Nat)) ∧ w = w' := by
 have xt := tb_run
 go_enter Tryz.func99, Tryz.ntmps99
 go_wp2_with (go_at_call 130; refine (canon_any _ hb _).mono ?_; rintro e w' ⟨rfl, rfl⟩)
 go_ret
 exact ⟨rfl, rfl⟩
set_option maxHeartbeats 400000 in
theorem of_any (b : Nat) (hb : b < 18446744073709551616) (w : World) :
  Calls Tryz.prog 182 #[.int .u64 b] w fun e w' => e = .returned (.float .f64 (Fl.canon b)) ∧ w = w' := by
 have xf := fb_run
 go_enter Tryz.func182, Tryz.ntmps182
 go_wp2_with (go_at_call 130; refine (canon_any _ hb _).mono ?_; rintro e w' ⟨rfl, rfl⟩)
 go_ret
 exact ⟨rfl, rfl⟩
end Go.Proofs.YtjldamkmdkaiiaaGreatDoor
set_option linter.unusedSimpArgs false
set_option linter.unusedVariables false
namespace Go.Proofs.YtjldamkmdkaiiaaGreatDoor
open Go.RowKit Go.Sort
structure Ev where
 off : Nat
 part : Int
 time : Int
 key : ByteArray
 val : Nat
instance : Inhabited Ev := ⟨⟨0, 0, 0, ByteArray.empty, 0⟩⟩
def Ev.cells (x : Ev) : List Value := [.int .u64 (x.off : Int), .int .i64 x.part, .int .i64 x.time, .string x.key, .float .f64 x.val]
def cmpI (a b : Int) : Int := if a < b then -1 else if b < a then 1 else 0
def or3 (a b c : Int) : Int := if a ≠ 0 then a else if b ≠ 0 then b else c
def cmpK (a b : ByteArray) : Int := Lib.compareBytes a.data.toList b.data.toList
def evCmp (x y : Ev) : Int := or3 (cmpK x.key y.key) (cmpI x.time y.time) (cmpI (x.off : Int) (y.off : Int))
theorem cmpstr_run (a b : ByteArray) (w : World) : (callFunc 64 #[.string a, .string b]).run Tryz.prog w = .ok (.value (.int .i64 (cmpK a b))) w := by
 rw [run_callFunc_extern Tryz.func64 (by kernel_rfl) (by kernel_rfl) (by kernel_rfl) (e := Extern.BytealgCompare.compare) (by kernel_rfl), Lib.run_compareString]
 rfl
set_option maxHeartbeats 400000 in
theorem compareString_any (a b : ByteArray) (w : World) : Calls Tryz.prog 53 #[.string a, .string b] w fun e w' => e = .returned (.int .i64 (cmpK a b)) ∧ w = w' := by
 have xr := fun w => cmpstr_run a b w
 generalize cmpK a b = r at *
 go_enter Tryz.func53, Tryz.ntmps53
 go_wp2
 go_ret
 exact ⟨rfl, rfl⟩
set_option maxHeartbeats 400000 in
theorem strCompare_any (a b : ByteArray) (w : World) : Calls Tryz.prog 40 #[.string a, .string b] w fun e w' => e = .returned (.int .i64 (cmpK a b)) ∧ w = w' := by
 have h := fun w => compareString_any a b w
 generalize cmpK a b = r at *
 have H := Lib.hid h
 clear h
 go_enter Tryz.func40, Tryz.ntmps40
 go_wp2_with (go_at_call 53; refine (H.out _).mono ?_; rintro e w' ⟨rfl, rfl⟩)
 go_ret
 exact ⟨rfl, rfl⟩
set_option maxHeartbeats 400000 in
theorem isNaNI_any (a : Int) (w : World) : Calls Tryz.prog 106 #[.int .i64 a] w fun e w' => e = .returned (.bool false) ∧ w = w' := by
 go_enter Tryz.func106, Tryz.ntmps106
 go_wp2
 go_ret
 exact ⟨rfl, rfl⟩
set_option maxHeartbeats 400000 in
theorem isNaNU_any (a : Int) (w : World) : Calls Tryz.prog 107 #[.int .u64 a] w fun e w' => e = .returned (.bool false) ∧ w = w' := by
 go_enter Tryz.func107, Tryz.ntmps107
 go_wp2
 go_ret
 exact ⟨rfl, rfl⟩
theorem cmpI_lt {a b : Int} (h : a < b) : cmpI a b = -1 := if_pos h
theorem cmpI_gt {a b : Int} (h : b < a) : cmpI a b = 1 := by unfold cmpI; rw [if_neg (by omega), if_pos h]
theorem cmpI_eq {a b : Int} (h1 : ¬ a < b) (h2 : ¬ b < a) : cmpI a b = 0 := by unfold cmpI; rw [if_neg h1, if_neg h2]
set_option maxHeartbeats 400000 in
theorem cmpInt_any (a b : Int) (w : World) : Calls Tryz.prog 85 #[.int .i64 (a : Int), .int .i64 (b : Int)] w fun e w' => e = .returned (.int .i64 (cmpI (a : Int) (b : Int))) ∧ w = w' := by
 have hc : ((a : Int) < b ∧ Hid (cmpI (a : Int) (b : Int) = -1)) ∨ ((b : Int) < a ∧ Hid (cmpI (a : Int) (b : Int) = 1)) ∨ ((¬ (a : Int) < b ∧ ¬ (b : Int) < a) ∧ Hid (cmpI (a : Int) (b : Int) = 0)) := by
  by_cases h1 : (a : Int) < b
  ·exact .inl ⟨h1, Lib.hid (cmpI_lt h1)⟩
  ·by_cases h2 : (b : Int) < a
   ·exact .inr (.inl ⟨h2, Lib.hid (cmpI_gt h2)⟩)
   ·exact .inr (.inr ⟨⟨h1, h2⟩, Lib.hid (cmpI_eq h1 h2)⟩)
 generalize cmpI (a : Int) (b : Int) = r at *
 rcases hc with ⟨h1, hr⟩ | ⟨h1, hr⟩ | ⟨⟨h1, h2⟩, hr⟩
 all_goals
  go_enter Tryz.func85, Tryz.ntmps85
  go_wp2_with (go_at_call 106; refine (isNaNI_any _ _).mono ?_; rintro e w' ⟨rfl, rfl⟩)
  go_ret
  exact ⟨ret_eq (by rw [hr.out]; rfl), rfl⟩
set_option maxHeartbeats 400000 in
theorem cmpUint_any (a b : Nat) (w : World) : Calls Tryz.prog 86 #[.int .u64 (a : Int), .int .u64 (b : Int)] w fun e w' => e = .returned (.int .i64 (cmpI (a : Int) (b : Int))) ∧ w = w' := by
 have hc : ((a : Int) < b ∧ Hid (cmpI (a : Int) (b : Int) = -1)) ∨ ((b : Int) < a ∧ Hid (cmpI (a : Int) (b : Int) = 1)) ∨ ((¬ (a : Int) < b ∧ ¬ (b : Int) < a) ∧ Hid (cmpI (a : Int) (b : Int) = 0)) := by
  by_cases h1 : (a : Int) < b
  ·exact .inl ⟨h1, Lib.hid (cmpI_lt h1)⟩
  ·by_cases h2 : (b : Int) < a
   ·exact .inr (.inl ⟨h2, Lib.hid (cmpI_gt h2)⟩)
   ·exact .inr (.inr ⟨⟨h1, h2⟩, Lib.hid (cmpI_eq h1 h2)⟩)
 generalize cmpI (a : Int) (b : Int) = r at *
 rcases hc with ⟨h1, hr⟩ | ⟨h1, hr⟩ | ⟨⟨h1, h2⟩, hr⟩
 all_goals
  go_enter Tryz.func86, Tryz.ntmps86
  go_wp2_with (go_at_call 107; refine (isNaNU_any _ _).mono ?_; rintro e w' ⟨rfl, rfl⟩)
  go_ret
  exact ⟨ret_eq (by rw [hr.out]; rfl), rfl⟩
set_option maxHeartbeats 1000000 in
theorem or_any (g : Nat) (a b c r : Int) (hr : or3 a b c = r) (w : World) (h0 : w.cell? ⟨g, 0, none⟩ = some (.int .i64 a)) (h1 : w.cell? ⟨g, 1, none⟩ = some (.int .i64 b)) (h2 : w.cell? ⟨g, 2, none⟩ = some (.int .i64 c)) :
  Calls Tryz.prog 84 #[.slice (some ⟨g, 0, none⟩) 3 3] w fun e w' => e = .returned (.int .i64 r) ∧ w = w' := by
 have HR := Lib.hid hr
 clear hr
 go_enter Tryz.func84, Tryz.ntmps84
 go_wp2
 go_loop [8] (fun i => (i = .int .i64 0) ∨ (i = .int .i64 1 ∧ a = 0) ∨ (i = .int .i64 2 ∧ a = 0 ∧ b = 0) ∨ (i = .int .i64 3 ∧ a = 0 ∧ b = 0 ∧ c = 0)) (fun i => (3 - intOf i).toNat)
 case atStart => exact Or.inl rfl
 case round =>
  rcases hrel with rfl | ⟨rfl, ha⟩ | ⟨rfl, ha, hb⟩ | ⟨rfl, ha, hb, hc⟩
  ·by_cases ha : a = 0
   ·have ha' : (a == 0) = true := by simpa using ha
    have HA := Lib.hid ha
    clear ha
    go_wp2
    go_round
    case rel => exact Or.inr (Or.inl ⟨rfl, HA.out⟩)
    case measure => simp [intOf]
   ·have ha' : (a != 0) = true := by simpa using ha
    go_wp2
    go_ret
    exact ⟨ret_eq (by rw [← HR.out]; unfold or3; rw [if_pos ha]; rfl), rfl⟩
  ·have HA := Lib.hid ha
   clear ha
   by_cases hb : b = 0
   ·have HB := Lib.hid hb
    have hb' : (b == 0) = true := by simpa using hb
    clear hb
    go_wp2
    go_round
    case rel => exact Or.inr (Or.inr (Or.inl ⟨rfl, HA.out, HB.out⟩))
    case measure => simp [intOf]
   ·go_wp2
    go_ret
    exact ⟨ret_eq (by rw [← HR.out]; unfold or3; rw [if_neg (by rw [HA.out]; decide), if_pos hb]; rfl), rfl⟩
  ·have HA := Lib.hid ha
   have HB := Lib.hid hb
   clear ha hb
   by_cases hc : c = 0
   ·have HC := Lib.hid hc
    have hc' : (c == 0) = true := by simpa using hc
    clear hc
    go_wp2
    go_round
    case rel => exact Or.inr (Or.inr (Or.inr ⟨rfl, HA.out, HB.out, HC.out⟩))
    case measure => simp [intOf]
   ·go_wp2
    go_ret
    exact ⟨ret_eq (by rw [← HR.out]; unfold or3; rw [if_neg (by rw [HA.out]; decide), if_neg (by rw [HB.out]; decide)]; rfl), rfl⟩
  ·have HA := Lib.hid ha
   have HB := Lib.hid hb
   have HC := Lib.hid hc
   clear ha hb hc
   go_wp2
   go_ret
   exact ⟨ret_eq (by rw [← HR.out]; unfold or3; rw [if_neg (by rw [HA.out]; decide), if_neg (by rw [HB.out]; decide), HC.out]; rfl), rfl⟩
structure Bx (g h : Nat) (x y : Ev) (w : World) : Prop where
 rx : w.heap[g]? = some (.cells #[.int .u64 (x.off : Int), .int .i64 x.part, .int .i64 x.time, .string x.key, .float .f64 x.val] 51 (0, 0))
 ry : w.heap[h]? = some (.cells #[.int .u64 (y.off : Int), .int .i64 y.part, .int .i64 y.time, .string y.key, .float .f64 y.val] 51 (0, 0))
theorem Bx.cx {g h : Nat} {x y : Ev} {w : World} (H : Bx g h x y w) (j : Nat) (v : Value) (hv : (#[.int .u64 (x.off : Int), .int .i64 x.part, .int .i64 x.time, .string x.key, .float .f64 x.val] : Array Value)[j]? = some v) : w.cell? ⟨g, j, none⟩ = some v := by
 rw [cell_of_row w g j _ _ _ H.rx]; exact hv
theorem Bx.cy {g h : Nat} {x y : Ev} {w : World} (H : Bx g h x y w) (j : Nat) (v : Value) (hv : (#[.int .u64 (y.off : Int), .int .i64 y.part, .int .i64 y.time, .string y.key, .float .f64 y.val] : Array Value)[j]? = some v) : w.cell? ⟨h, j, none⟩ = some v := by
 rw [cell_of_row w h j _ _ _ H.ry]; exact hv
theorem row_alloc' {w : World} {g : Nat} {o : Obj} (h : w.heap[g]? = some o) (q : Obj) : (w.alloc q).heap[g]? = some o := (Below.heap_alloc _ _ _ (Array.getElem?_eq_some_iff.1 h).1).trans h
theorem Bx.alloc {g h : Nat} {x y : Ev} {w : World} (H : Bx g h x y w) (o : Obj) : Bx g h x y (w.alloc o) := ⟨row_alloc' H.rx o, row_alloc' H.ry o⟩
theorem heap_new (w : World) (o : Obj) : (w.alloc o).heap[w.heap.size]? = some o := by show (w.heap.push o)[w.heap.size]? = _; simp
theorem Bx.start (w : World) (x y : Ev) : Bx w.heap.size (w.heap.size + 1) x y ((w.alloc (.cells #[.int .u64 (x.off : Int), .int .i64 x.part, .int .i64 x.time, .string x.key, .float .f64 x.val] 51)).alloc (.cells #[.int .u64 (y.off : Int), .int .i64 y.part, .int .i64 y.time, .string y.key, .float .f64 y.val] 51)).drew :=
 ⟨row_alloc' (by show (w.heap.push _)[w.heap.size]? = _; simp) _, by have h := heap_new (w.alloc (.cells #[.int .u64 (x.off : Int), .int .i64 x.part, .int .i64 x.time, .string x.key, .float .f64 x.val] 51)) (.cells #[.int .u64 (y.off : Int), .int .i64 y.part, .int .i64 y.time, .string y.key, .float .f64 y.val] 51); rw [show (w.alloc (.cells #[.int .u64 (x.off : Int), .int .i64 x.part, .int .i64 x.time, .string x.key, .float .f64 x.val] 51)).heap.size = w.heap.size + 1 from by simp] at h; exact h⟩
def Grew (w w' : World) : Prop := ∃ q os, w' = grow (w.drewN q) os
theorem Grew.refl (w : World) : Grew w w := ⟨0, #[], by rw [grow_empty]; rfl⟩
theorem drewN_grow' (w : World) (os : Array Obj) (n : Nat) : (grow w os).drewN n = grow (w.drewN n) os := rfl
theorem drewN_add (w : World) (m n : Nat) : (w.drewN m).drewN n = w.drewN (m + n) := by
 unfold World.drewN; simp; omega
theorem Grew.trans {a b c : World} (h : Grew a b) (h' : Grew b c) : Grew a c := by
 obtain ⟨q, os, rfl⟩ := h
 obtain ⟨q', os', rfl⟩ := h'
 exact ⟨q + q', os ++ os', by rw [drewN_grow', drewN_add, grow_grow]⟩
theorem Grew.alloc {a b : World} (h : Grew a b) (o : Obj) : Grew a (b.alloc o) := h.trans ⟨0, #[o], by rw [alloc_eq_grow]; rfl⟩
theorem Grew.drew {a b : World} (h : Grew a b) : Grew a b.drew := h.trans ⟨1, #[], by rw [grow_empty]; rfl⟩
set_option maxHeartbeats 2000000 in
theorem compare_any (x y : Ev) (w : World) : Calls Tryz.prog 71 #[.agg #[.int .u64 (x.off : Int), .int .i64 x.part, .int .i64 x.time, .string x.key, .float .f64 x.val], .agg #[.int .u64 (y.off : Int), .int .i64 y.part, .int .i64 y.time, .string y.key, .float .f64 y.val]] w fun e w' => e = .returned (.int .i64 (evCmp x y)) ∧ Grew w w' := by
 have h1 := fun w => strCompare_any x.key y.key w
 have h2 := fun w => cmpInt_any x.time y.time w
 have h3 := fun w => cmpUint_any x.off y.off w
 have hr : or3 (cmpK x.key y.key) (cmpI x.time y.time) (cmpI (x.off : Int) (y.off : Int)) = evCmp x y := rfl
 generalize evCmp x y = r at *
 generalize cmpK x.key y.key = c1 at *
 generalize cmpI x.time y.time = c2 at *
 generalize cmpI (x.off : Int) (y.off : Int) = c3 at *
 have HR := Lib.hid hr
 have H1 := Lib.hid h1
 have H2 := Lib.hid h2
 have H3 := Lib.hid h3
 clear h1 h2 h3 hr
 have HS := Lib.hid (Bx.start w x y)
 have HW : Hid (∀ o, Grew w (((w.alloc (.cells #[.int .u64 (x.off : Int), .int .i64 x.part, .int .i64 x.time, .string x.key, .float .f64 x.val] 51)).alloc (.cells #[.int .u64 (y.off : Int), .int .i64 y.part, .int .i64 y.time, .string y.key, .float .f64 y.val] 51)).drew.alloc o)) := Lib.hid fun o => (((Grew.refl w).alloc _).alloc _).drew.alloc o
 go_enter Tryz.func71, Tryz.ntmps71
 go_wp2
 have hS := HS.out
 clear HS
 generalize World.alloc (World.alloc w _) _ = wz at *
 generalize w.heap.size + 1 = h at *
 generalize w.heap.size = g at *
 refine wp_region_held_drew (S := Bx g h x y) (by kernel_rfl) hS (fun hHeld => ?_)
 refine tks 0 (.pointer (some ⟨g, 3, none⟩)) rfl hHeld ?_
 try dsimp only
 try simp only [Act.put, List.setIfInBounds_toArray, List.set_cons_zero, List.set_cons_succ]
 refine tk 1 (.string x.key) rfl (Or.inl ⟨by rfl, fun w hw => by have hc : w.cell? ⟨g, 3, none⟩ = some (.string x.key) := hw.cx 3 _ rfl; go_simp⟩) hHeld ?_
 try dsimp only
 try simp only [Act.put, List.setIfInBounds_toArray, List.set_cons_zero, List.set_cons_succ]
 refine tks 2 (.pointer (some ⟨h, 3, none⟩)) rfl hHeld ?_
 try dsimp only
 try simp only [Act.put, List.setIfInBounds_toArray, List.set_cons_zero, List.set_cons_succ]
 refine tk 3 (.string y.key) rfl (Or.inl ⟨by rfl, fun w hw => by have hc : w.cell? ⟨h, 3, none⟩ = some (.string y.key) := hw.cy 3 _ rfl; go_simp⟩) hHeld ?_
 try dsimp only
 try simp only [Act.put, List.setIfInBounds_toArray, List.set_cons_zero, List.set_cons_succ]
 refine tks 5 (.pointer (some ⟨g, 2, none⟩)) rfl hHeld ?_
 try dsimp only
 try simp only [Act.put, List.setIfInBounds_toArray, List.set_cons_zero, List.set_cons_succ]
 refine tk 6 (.int .i64 x.time) rfl (Or.inl ⟨by rfl, fun w hw => by have hc : w.cell? ⟨g, 2, none⟩ = some (.int .i64 x.time) := hw.cx 2 _ rfl; go_simp⟩) hHeld ?_
 try dsimp only
 try simp only [Act.put, List.setIfInBounds_toArray, List.set_cons_zero, List.set_cons_succ]
 refine tks 7 (.pointer (some ⟨h, 2, none⟩)) rfl hHeld ?_
 try dsimp only
 try simp only [Act.put, List.setIfInBounds_toArray, List.set_cons_zero, List.set_cons_succ]
 refine tk 8 (.int .i64 y.time) rfl (Or.inl ⟨by rfl, fun w hw => by have hc : w.cell? ⟨h, 2, none⟩ = some (.int .i64 y.time) := hw.cy 2 _ rfl; go_simp⟩) hHeld ?_
 try dsimp only
 try simp only [Act.put, List.setIfInBounds_toArray, List.set_cons_zero, List.set_cons_succ]
 refine tks 10 (.pointer (some ⟨g, 0, none⟩)) rfl hHeld ?_
 try dsimp only
 try simp only [Act.put, List.setIfInBounds_toArray, List.set_cons_zero, List.set_cons_succ]
 refine tk 11 (.int .u64 (x.off : Int)) rfl (Or.inl ⟨by rfl, fun w hw => by have hc : w.cell? ⟨g, 0, none⟩ = some (.int .u64 (x.off : Int)) := hw.cx 0 _ rfl; go_simp⟩) hHeld ?_
 try dsimp only
 try simp only [Act.put, List.setIfInBounds_toArray, List.set_cons_zero, List.set_cons_succ]
 refine tks 12 (.pointer (some ⟨h, 0, none⟩)) rfl hHeld ?_
 try dsimp only
 try simp only [Act.put, List.setIfInBounds_toArray, List.set_cons_zero, List.set_cons_succ]
 refine tk 13 (.int .u64 (y.off : Int)) rfl (Or.inl ⟨by rfl, fun w hw => by have hc : w.cell? ⟨h, 0, none⟩ = some (.int .u64 (y.off : Int)) := hw.cy 0 _ rfl; go_simp⟩) hHeld ?_
 try dsimp only
 try simp only [Act.put, List.setIfInBounds_toArray, List.set_cons_zero, List.set_cons_succ]
 refine rd1 4 rfl (fun K hK => ?_)
 go_simp
 refine (H1.out _).mono ?_
 rintro e w' ⟨rfl, rfl⟩
 refine hK.out _ _ hHeld (fun hHeld => ?_)
 clear hK K
 try dsimp only
 try simp only [Act.put, List.setIfInBounds_toArray, List.set_cons_zero, List.set_cons_succ]
 refine rd1 9 rfl (fun K hK => ?_)
 go_simp
 refine (H2.out _).mono ?_
 rintro e w' ⟨rfl, rfl⟩
 refine hK.out _ _ hHeld (fun hHeld => ?_)
 clear hK K
 try dsimp only
 try simp only [Act.put, List.setIfInBounds_toArray, List.set_cons_zero, List.set_cons_succ]
 refine rd1 14 rfl (fun K hK => ?_)
 go_simp
 refine (H3.out _).mono ?_
 rintro e w' ⟨rfl, rfl⟩
 refine hK.out _ _ hHeld (fun hHeld => ?_)
 clear hK K
 try dsimp only
 try simp only [Act.put, List.setIfInBounds_toArray, List.set_cons_zero, List.set_cons_succ]
 refine rd1 15 rfl (fun K hK => ?_)
 go_simp
 refine hK.out _ _ (hHeld.alloc _) (fun hHeld => ?_)
 clear hK K
 try dsimp only
 try simp only [Act.put, List.setIfInBounds_toArray, List.set_cons_zero, List.set_cons_succ]
 refine rd1 16 rfl (fun K hK => ?_)
 go_simp
 refine (or_any _ c1 c2 c3 r HR.out _ (by simp [World.cell?_alloc_new]) (by simp [World.cell?_alloc_new]) (by simp [World.cell?_alloc_new])).mono ?_
 rintro e w' ⟨rfl, rfl⟩
 refine hK.out _ _ hHeld (fun hHeld => ?_)
 clear hK K
 try dsimp only
 try simp only [Act.put, List.setIfInBounds_toArray, List.set_cons_zero, List.set_cons_succ]
 refine rd1 17 rfl (fun K hK => ?_)
 go_simp
 refine hK.out _ _ hHeld (fun hHeld => ?_)
 clear hK K
 refine wpAnyH_done (by kernel_rfl) ?_ _
 go_wp2
 go_ret
 exact ⟨rfl, HW.out _⟩
def insLays_ren : Go.Shelf.Ren := ⟨fun | 20 => 104 | n => n, fun | 24 => 51 | 22 => 22 | 3 => 3 | 25 => 112 | 4 => 4 | 0 => 0 | n => n, fun n => n⟩
theorem insLays : Go.Proofs.SlLaysF0.n20 Tryz.prog insLays_ren := {
 mixed := by kernel_rfl
 f20 := ⟨Tryz.f104.name, by decide, Tryz.func104.trans (congrArg some (by kernel_rfl))⟩
 t0 := Tryz.underlying0
 a0 := Tryz.isAgg0
 z0 := Tryz.sizeOf0
 v0 := Tryz.zeroValue0
 t3 := Tryz.underlying3
 a3 := Tryz.isAgg3
 z3 := Tryz.sizeOf3
 v3 := Tryz.zeroValue3
 t4 := Tryz.underlying4
 a4 := Tryz.isAgg4
 z4 := Tryz.sizeOf4
 v4 := Tryz.zeroValue4
 t22 := Tryz.underlying22
 a22 := Tryz.isAgg22
 z22 := Tryz.sizeOf22
 v22 := Tryz.zeroValue22
 t25 := Tryz.underlying112
 a25 := Tryz.isAgg112
 z25 := Tryz.sizeOf112
 v25 := Tryz.zeroValue112 }
def cloLays_ren : Go.Shelf.Ren := ⟨fun | 41 => 69 | n => n, fun | 22 => 22 | 23 => 51 | 4 => 4 | n => n, fun n => n⟩
theorem cloLays : Go.Proofs.SlLaysE0.n41 Tryz.prog cloLays_ren := {
 mixed := by kernel_rfl
 f41 := ⟨Tryz.f69.name, by decide, Tryz.func69.trans (congrArg some (by kernel_rfl))⟩
 t4 := Tryz.underlying4
 a4 := Tryz.isAgg4
 z4 := Tryz.sizeOf4
 v4 := Tryz.zeroValue4
 t22 := Tryz.underlying22
 a22 := Tryz.isAgg22
 z22 := Tryz.sizeOf22
 v22 := Tryz.zeroValue22 }
theorem cells_len (x : Ev) : x.cells.length = 5 := rfl
theorem cells_one (x : Ev) : ∀ v ∈ x.cells, v.oneCell' = true := fun v hv => by
 simp only [Ev.cells, List.mem_cons, List.not_mem_nil, or_false] at hv
 rcases hv with rfl | rfl | rfl | rfl | rfl <;> rfl
def evs (l : List Ev) : List Value := l.flatMap Ev.cells
theorem evs_length (l : List Ev) : (evs l).length = l.length * 5 := by
 induction l with
 | nil => rfl
 | cons x r ih => unfold evs at *; rw [List.flatMap_cons, List.length_append, ih, cells_len, List.length_cons]; omega
theorem evs_one (l : List Ev) : ∀ v ∈ evs l, v.oneCell' = true := fun v hv => by
 obtain ⟨x, -, hx⟩ := List.mem_flatMap.1 hv
 exact cells_one x v hx
theorem evs_get (l : List Ev) (k j : Nat) (hj : j < 5) : (evs l)[k * 5 + j]? = (l[k]?).bind fun x => x.cells[j]? := by
 induction l generalizing k with
 | nil => simp [evs]
 | cons x r ih =>
  unfold evs at *
  rw [List.flatMap_cons]
  rcases k with _ | k
  ·rw [List.getElem?_append_left (by rw [cells_len]; omega)]; simp
  ·rw [List.getElem?_append_right (by rw [cells_len]; omega), cells_len, show (k + 1) * 5 + j - 5 = k * 5 + j by omega, ih]; simp
def EvAt (w : World) (a : Option Addr) (l : List Ev) : Prop := ∀ (j : Nat) (v : Value), (evs l)[j]? = some v → ∃ g off, a = some ⟨g, off, none⟩ ∧ g < w.heap.size ∧ w.cell? ⟨g, off + j, none⟩ = some v
theorem EvAt.keep {w w' : World} {a : Option Addr} {l : List Ev} (h : EvAt w a l) (hb : Below w.heap.size w w') : EvAt w' a l := fun j v hv => by
 obtain ⟨g, off, h2, h3, h4⟩ := h j v hv
 exact ⟨g, off, h2, Nat.lt_of_lt_of_le h3 hb.size, (hb.cell (p := ⟨g, off + j, none⟩) h3).trans h4⟩
theorem infoEv : (Tryz.prog.info? 51).map (fun i => (i.zero, i.size, i.bytes)) = some (some (.agg #[.int .u64 0, .int .i64 0, .int .i64 0, .string ByteArray.empty, .float .f64 0]), 5, 48) := by kernel_rfl
def OwnE (w : World) (B : Nat) (A : Option Addr) (n cap : Nat) (l : List Ev) : Prop := w.ownsRow B 51 5 (.slice A n cap) n (evs l)
theorem clone_some (g off n c : Nat) (l : List Ev) (hn : n = l.length) (hb : n ≤ 1000) (w : World) (H : Hid (EvAt w (some ⟨g, off, none⟩) l)) :
  Calls Tryz.prog 69 #[.slice (some ⟨g, off, none⟩) n c] w fun e w' => ∃ v', e = .returned v' ∧ w'.ownsRow w.heap.size 51 5 v' n (evs l) ∧ v' ≠ .slice none 0 0 ∧ Below w.heap.size w w' := by
 obtain ⟨i0, hi, hz0, hz1, hz2⟩ := info_parts infoEv
 have h := AnyE.slices_Clone cloLays i0 _ 5 48 hi hz0 hz1 hz2 rfl (by decide) Tryz.sizeOf51 g off n c (evs l) w (by rw [evs_length, hn]) (by unfold maxLen; omega) (by omega) (fun j u hu => by
  obtain ⟨g', off', e, -, hc⟩ := H.out j u hu
  cases e
  exact hc) (evs_one l)
 change Calls Tryz.prog 69 _ _ _ at h
 exact h
theorem flatK_evs (l : List Ev) : (flatK Ev.cells 5 l.toArray).toList = evs l := by
 apply List.ext_getElem?
 intro t
 by_cases ht : t < l.length * 5
 ·have h1 := get_flatK Ev.cells 5 l.toArray t (by simpa using ht)
  have h2 := evs_get l (t / 5) (t % 5) (by omega)
  rw [show t / 5 * 5 + t % 5 = t by omega] at h2
  rw [h2]
  have h3 : t / 5 < l.length := by omega
  rw [List.getElem?_eq_getElem h3]
  rw [getElem!_pos _ t (by simpa using ht)] at h1
  rw [Array.getElem?_toList, Array.getElem?_eq_getElem (by simpa using ht), h1]
  simp only [Option.bind_some]
  rw [show l.toArray[t / 5]! = l[t / 5] from by simp [getElem!_pos, h3]]
  rw [getElem!_pos _ (t % 5) (by rw [cells_len]; omega), List.getElem?_eq_getElem (by rw [cells_len]; omega)]
 ·rw [List.getElem?_eq_none (by simp; omega), List.getElem?_eq_none (by rw [evs_length]; omega)]
theorem holds_own {w : World} {B n : Nat} {v : Value} {l : List Ev} (h : w.ownsRow B 51 5 v n (evs l)) (hv : v ≠ .slice none 0 0) :
  ∃ g cap, v = .slice (some ⟨g, 0, none⟩) n cap ∧ B ≤ g ∧ g < w.heap.size ∧ n = l.length ∧ HoldsK Ev.cells 5 w g 0 l.toArray := by
 have hl : n = l.length := by have := h.1; rw [evs_length] at this; omega
 rcases h.2 with ⟨e0, _⟩ | ⟨g, cap, cur, rfl, hb, hg, hn, hm, hs, ht⟩
 ·exact absurd e0 hv
 ·refine ⟨g, cap, rfl, hb, (Array.getElem?_eq_some_iff.1 hg).1, hl, fun j hj => ?_⟩
  have hj' : j < l.length * 5 := by simpa using hj
  refine ⟨?_, by simp [World.frozen?, hg]⟩
  rw [cell_of_row w g (0 + j) cur 51 (0, 0) hg, Nat.zero_add, ← Array.getElem?_toList]
  have e1 : (cur.toList.take (n * 5))[j]? = (evs l)[j]? := by rw [ht]
  rw [List.getElem?_take, if_pos (by omega)] at e1
  rw [e1, ← flatK_evs, Array.getElem?_toList, getElem!_pos _ j hj, Array.getElem?_eq_getElem hj]; rfl
theorem own_put {w : World} {B n g cap q : Nat} {l m : List Ev} (h : w.ownsRow B 51 5 (.slice (some ⟨g, 0, none⟩) n cap) n (evs l)) (hm : m.length = l.length) (os : Array Obj) :
  OwnE (sortWorldK Ev.cells 5 w g 0 q m.toArray os) B (some ⟨g, 0, none⟩) n cap m := by
 have hl : n = l.length := by have := h.1; rw [evs_length] at this; omega
 rcases h.2 with ⟨e0, _⟩ | ⟨g', cap', cur, e0, hb, hg, hn, hmx, hs, ht⟩
 ·cases e0
 ·cases e0
  refine ⟨by rw [evs_length]; omega, .inr ⟨g, cap, putCells id 0 (flatK Ev.cells 5 m.toArray) cur, rfl, hb, ?_, hn, hmx, by simpa [putCells] using hs, ?_⟩⟩
  ·show (grow (putRowK Ev.cells 5 (Sort.ahead w q) g 0 m.toArray) os).heap[g]? = _
   have hlt := (Array.getElem?_eq_some_iff.1 hg).1
   rw [heap_grow_old _ _ (by simpa [putRowK, putRow, mapBlock, Sort.ahead] using hlt)]
   simp [putRowK, putRow, mapBlock, Sort.ahead, Array.getElem?_modify, hg, onCells]
  ·have hfl := flatK_evs m
   apply List.ext_getElem?
   intro j
   rw [List.getElem?_take, Array.getElem?_toList]
   by_cases hj : j < n * 5
   ·have hjc : j < cur.size := by have := Nat.mul_le_mul_right 5 hn; omega
    have hjf : j < (flatK Ev.cells 5 m.toArray).size := by simp; omega
    simp only [if_pos hj, putCells, Array.getElem?_mapIdx, Array.getElem?_eq_getElem hjc, Option.map_some]
    rw [if_pos (by simp; omega), ← hfl, Array.getElem?_toList, Array.getElem?_eq_getElem hjf]
    simp only [Nat.sub_zero, id]
    rw [getElem!_pos (flatK Ev.cells 5 m.toArray) j hjf]
   ·rw [if_neg hj, List.getElem?_eq_none (by rw [evs_length]; omega)]
theorem below_grow {B : Nat} {w0 w : World} (h : Below B w0 w) (hB : B ≤ w.heap.size) (os : Array Obj) : Below B w0 (grow w os) :=
 ⟨h.os, h.tape, h.output, Nat.le_trans h.size (by simp), fun k hk => by rw [heap_grow_old _ _ (Nat.lt_of_lt_of_le hk hB)]; exact h.block k hk⟩
theorem below_sortW {B : Nat} {w0 w : World} {g q : Nat} {d : Array Ev} {os : Array Obj} (h : Below B w0 w) (hB : B ≤ w.heap.size) (hg : B ≤ g) : Below B w0 (sortWorldK Ev.cells 5 w g 0 q d os) :=
 below_grow (Lib.below_putRow h hg) (by simpa [putRow, mapBlock, Sort.ahead] using hB) os
theorem enters_cmp : ∀ args w, (callFunc 71 args).run Tryz.prog w = .ok (.enter 71 args) w := enters_of Tryz.func71 (by kernel_rfl) rfl
theorem cmp_lays (blk off size : Nat) (w : World) : CmpLays Tryz.prog 71 #[] Ev.cells 5 evCmp blk off size w := fun m os dk _ x y => compare_any x y _
theorem ins_any (blk cap a b : Nat) (d : Array Ev) (w : World) (hH : HoldsK Ev.cells 5 w blk 0 d) (hblk : blk < w.heap.size) (hab : a ≤ b) (hb : b ≤ d.size) (hsz : d.size < 4611686018427387904) :
  Calls Tryz.prog 104 #[.slice (some ⟨blk, 0, none⟩) d.size cap, .int .i64 a, .int .i64 b, .func (.func 71) #[] #[]] w fun e w' => e = .returned (.tuple #[]) ∧ ∃ n os, w' = sortWorldK Ev.cells 5 w blk 0 n (insertionSort (ltOf evCmp) d a b) os := by
 have h := AnyQ.insertionSortCmpFunc insLays 5 Tryz.isAgg51 Tryz.sizeOf51 Ev.cells cells_len cells_one evCmp 71 #[] blk 0 cap a b d w enters_cmp (cmp_lays blk 0 d.size w) hH hblk hab hb hsz
 change Calls Tryz.prog 104 _ _ _ at h
 exact h
def SortW (w : World) (g : Nat) (d : Array Ev) (w' : World) : Prop := ∃ q os, w' = sortWorldK Ev.cells 5 w g 0 q d os
def RetE (w : World) (n : Nat) (l : List Ev) (e : Ending) (w' : World) : Prop := ∃ g cap, e = .returned (.slice (some ⟨g, 0, none⟩) n cap) ∧ OwnE w' w.heap.size (some ⟨g, 0, none⟩) n cap l ∧ Below w.heap.size w w'
theorem evAt_new (w : World) (l : List Ev) (cs : Array Value) (hcs : cs.toList = evs l) (t : TypeId) : EvAt (w.alloc (.cells cs t)) (some ⟨w.heap.size, 0, none⟩) l := fun j v hv => by
 refine ⟨w.heap.size, 0, rfl, by simp, ?_⟩
 rw [Nat.zero_add, cell_of_row _ _ _ _ _ _ (heap_new w _), ← Array.getElem?_toList, hcs]; exact hv
theorem Grew.below {w w' : World} (h : Grew w w') : Below w.heap.size w w' := by
 obtain ⟨q, os, rfl⟩ := h
 have h : Below w.heap.size w (w.drewN q) := ⟨rfl, rfl, rfl, Nat.le_refl _, fun _ _ => rfl⟩
 exact below_grow h h.size os
def lessB (x y : Ev) : Bool := decide (evCmp x y < 0)
set_option maxHeartbeats 1000000 in
theorem evLess_any (x y : Ev) (w : World) : Calls Tryz.prog 136 #[.agg #[.int .u64 (x.off : Int), .int .i64 x.part, .int .i64 x.time, .string x.key, .float .f64 x.val], .agg #[.int .u64 (y.off : Int), .int .i64 y.part, .int .i64 y.time, .string y.key, .float .f64 y.val]] w fun e w' => e = .returned (.bool (lessB x y)) ∧ Below w.heap.size w w' := by
 have HC := Lib.hid fun w => compare_any x y w
 have hl : decide (evCmp x y < 0) = lessB x y := rfl
 have HL := Lib.hid hl
 clear hl
 generalize evCmp x y = r at *
 go_enter Tryz.func136, Tryz.ntmps136
 go_wp2_with (go_at_call 71; refine (HC.out _).mono ?_; rintro e w' ⟨rfl, hg⟩; have HG := Lib.hid hg; clear hg)
 go_ret
 exact ⟨ret_eq (by rw [← HL.out]; rfl), (((Below.refl w.heap.size w).alloc (Nat.le_refl _) _).alloc (by simp) _).trans (HG.out.below.mono (by simp; omega))⟩
def formB (x : Ev) (p : Int) : Bool := decide (0 ≤ x.part) && decide (x.part < p) && decide (-1099511627776 ≤ x.time) && decide (x.time ≤ 1099511627776) && decide (x.key.size ≤ 32) && decide (x.off < 1099511627776)
set_option maxHeartbeats 1000000 in
theorem form_any (x : Ev) (p : Int) (w : World) : Calls Tryz.prog 44 #[.agg #[.int .u64 (x.off : Int), .int .i64 x.part, .int .i64 x.time, .string x.key, .float .f64 x.val], .int .i64 p] w fun e w' => e = .returned (.bool (formB x p)) ∧ Below w.heap.size w w' := by
 go_enter Tryz.func44, Tryz.ntmps44
 go_wp2
 all_goals
  go_ret
  refine ⟨ret_eq ?_, (Below.refl w.heap.size w).alloc (Nat.le_refl _) _⟩
  exact congrArg Value.bool (by unfold formB; rw [Bool.eq_iff_iff]; simp only [Bool.and_eq_true, decide_eq_true_eq, Bool.false_eq_true, false_iff]; omega)
set_option maxHeartbeats 1000000 in
theorem refForm_any (x : Ev) (p : Int) (w : World) : Calls Tryz.prog 22 #[.agg #[.int .u64 (x.off : Int), .int .i64 x.part, .int .i64 x.time, .string x.key, .float .f64 x.val], .int .i64 p] w fun e w' => e = .returned (.bool (formB x p)) ∧ Below w.heap.size w w' := by
 go_enter Tryz.func22, Tryz.ntmps22
 go_wp2
 all_goals
  go_ret
  refine ⟨ret_eq ?_, (Below.refl w.heap.size w).alloc (Nat.le_refl _) _⟩
  exact congrArg Value.bool (by unfold formB; rw [Bool.eq_iff_iff]; simp only [Bool.and_eq_true, decide_eq_true_eq, Bool.false_eq_true, false_iff]; omega)
end Go.Proofs.YtjldamkmdkaiiaaGreatDoor
set_option maxRecDepth 8000
namespace Go.Proofs.YtjldamkmdkaiiaaGreatDoor
open Go.ChangeShapes Go.WideShapes Go.ChangeAt Go.RowKit
section
variable {H : Type} {enc : TypeId × Value → H} {P : Program}
theorem trod_float' {w : World} {base : Nat} {spare : Nat → Bool} {held : Bool} {fuel : Nat} {cs : List Value} {x : DataW H × List MemPlace} {t : TypeId} (ht : P.underlying t = some (.float .f64)) (h : DataW.trod enc P w base spare held fuel t cs = some x) :
  ∃ b, cs = [.float .f64 b] ∧ (Lit.float .f64 b).wf = true := by
 cases fuel with
 | zero => simp [DataW.trod] at h
 | succ n =>
  unfold DataW.trod at h
  rw [ht] at h
  split at h <;> simp_all
end
section
variable {H : Type} {enc : TypeId × Value → H} {W : World} {base : Nat} {spare : Nat → Bool} {held : Bool}
theorem ev_cells {fuel : Nat} {cs : List Value} {y : DataW H × List MemPlace} (h : DataW.trod enc Tryz.prog W base spare held fuel 51 cs = some y) : ∃ x : Ev, cs = x.cells ∧ x.val < 18446744073709551616 := by
 obtain ⟨xs, n, -, -, hl, hxl, hg⟩ := DataW.trod_struct Tryz.underlying51 h
 have hC : Tryz.prog.cellsOf 51 = 5 := by kernel_rfl
 have hx5 : xs.length = 5 := hxl
 rw [hC] at hl
 have one : ∀ (i : Nat) (c : Value) (f : Field), cs[i]? = some c → i < 5 → f.offset = i → Tryz.prog.cellsOf f.type = 1 → DataW.trod enc Tryz.prog W base spare held n f.type ((cs.drop f.offset).take (Tryz.prog.cellsOf f.type)) = xs[i]? → ∃ y, DataW.trod enc Tryz.prog W base spare held n f.type [c] = some y := by
  intro i c f hc hi ho hk hf
  rw [ho, hk] at hf
  have e : (cs.drop i).take 1 = [c] := by
   obtain ⟨h1, h2⟩ := List.getElem?_eq_some_iff.1 hc
   rw [List.drop_eq_getElem_cons h1, h2]; rfl
  rw [e, List.getElem?_eq_getElem (by omega)] at hf
  exact ⟨_, hf⟩
 match cs, hl with
 | [c0, c1, c2, c3, c4], _ =>
  obtain ⟨y0, t0⟩ := one 0 c0 _ rfl (by decide) rfl (by kernel_rfl) (hg 0 _ rfl)
  obtain ⟨y1, t1⟩ := one 1 c1 _ rfl (by decide) rfl (by kernel_rfl) (hg 1 _ rfl)
  obtain ⟨y2, t2⟩ := one 2 c2 _ rfl (by decide) rfl (by kernel_rfl) (hg 2 _ rfl)
  obtain ⟨y3, t3⟩ := one 3 c3 _ rfl (by decide) rfl (by kernel_rfl) (hg 3 _ rfl)
  obtain ⟨y4, t4⟩ := one 4 c4 _ rfl (by decide) rfl (by kernel_rfl) (hg 4 _ rfl)
  obtain ⟨n0, e0, -, w0⟩ := DataW.trod_int (k := .u64) Tryz.underlying48 t0
  obtain ⟨n1, e1, -, -⟩ := DataW.trod_int (k := .i64) Tryz.underlying3 t1
  obtain ⟨n2, e2, -, -⟩ := DataW.trod_int (k := .i64) Tryz.underlying2 t2
  obtain ⟨s3, e3, -, -⟩ := DataW.trod_string Tryz.underlying9 t3
  obtain ⟨b4, e4, w4⟩ := trod_float' Tryz.underlying49 t4
  cases e0; cases e1; cases e2; cases e3; cases e4
  have h0 : 0 ≤ n0 := by
   have h : 0 ≤ n0 ∧ n0 ≤ 18446744073709551615 := by simpa [Lit.wf, IntKind.min, IntKind.max, IntKind.signed, IntKind.bits] using w0
   exact h.1
  refine ⟨⟨n0.toNat, n1, n2, s3, b4⟩, ?_, by simpa [Lit.wf] using w4⟩
  unfold Ev.cells
  rw [Int.toNat_of_nonneg h0]
end
section
variable {H : Type} {enc : TypeId × Value → H} {W : World}
end
end Go.Proofs.YtjldamkmdkaiiaaGreatDoor
