/-
  Layer event: awake; Less, Before, Form, Same.
-/
import Derived.Laws.Cover2
import Derived.Laws.FloatBits
import Derived.Laws.Bits64b
import Derived.Laws.BitsAllLaws
import Derived.Test.YtifabkbdiiolfaaGreatDoorRows
import Derived.WalkKit
import Derived.WalkSpells
import Derived.WalkLawsBesides
import Derived.Lib.Hide
import Derived.Lib.Bytealg
import Derived.BigRegion
import Derived.Deep.RegionHeld3
import Derived.Deep.Draws
import Derived.Outline
import Derived.Sort.Grow
import Derived.Shelf.SlSortCmp.InsertionK
import Derived.Shelf.SlicesE.Clone
import Derived.Lib.OwnBridge
import Derived.Deep.DeepCutAuto
namespace Go.Proofs.YtifabkbdiiolfaaGreatDoor.Fl
open Ieee
/-- The word's magnitude: all but the sign. -/
def rung (b : Nat) : Nat := b % 9223372036854775808
/-- Is it no number? -/
def nan (b : Nat) : Bool := decide (9218868437227405312 < rung b)
/-- The one word of what is no number. -/
def canon (b : Nat) : Nat := if nan b then 9221120237041090560 else b
/-- The word as a whole number with a sign. -/
def key (b : Nat) : Int := if 9223372036854775808 ≤ b then -(rung b : Int) else (rung b : Int)
def mant (r : Nat) : Nat := if r < 4503599627370496 then r else 4503599627370496 + r % 4503599627370496
def shf (r : Nat) : Nat := if r < 4503599627370496 then 0 else r / 4503599627370496 - 1
def val (r : Nat) : Nat := mant r * 2 ^ shf r
theorem signW : Format.signWeight double = 9223372036854775808 := by decide
theorem binadeW : Format.binade double = 4503599627370496 := by decide
theorem infW : Format.infRung double = 9218868437227405312 := by decide
theorem leastW : Format.leastPlace double = -1074 := by decide
theorem neg_eq (b : Nat) (hb : b < 18446744073709551616) : (b / 9223372036854775808 % 2 == 1) = decide (9223372036854775808 ≤ b) := by
 rw [Bool.eq_iff_iff, beq_iff_eq, decide_eq_true_eq]; omega
theorem read_num (b : Nat) (hb : b < 18446744073709551616) (h : rung b < 9218868437227405312) :
  double.read b = .number (decide (9223372036854775808 ≤ b)) (mant (rung b)) (-1074 + (shf (rung b) : Nat)) := by
 unfold Format.read
 simp only [signW, binadeW, infW, leastW, neg_eq b hb]
 unfold rung at h
 unfold mant shf rung
 by_cases h1 : b % 9223372036854775808 < 4503599627370496
 ·simp [h1]
 ·simp only [h1, h, if_true, if_false]
theorem read_inf (b : Nat) (hb : b < 18446744073709551616) (h : rung b = 9218868437227405312) :
  double.read b = .infinity (decide (9223372036854775808 ≤ b)) := by
 unfold Format.read
 simp only [signW, binadeW, infW, leastW, neg_eq b hb]
 unfold rung at h
 simp [h]
theorem read_nan (b : Nat) (h : nan b = true) : (double.read b).isNaN = true := by
 unfold Format.read
 simp only [signW, binadeW, infW, leastW]
 unfold nan rung at h
 simp only [decide_eq_true_eq] at h
 rw [if_neg (by omega), if_neg (by omega), if_neg (by omega)]
 rfl
theorem order_nan_l (a b : Nat) (h : nan a = true) : double.order a b = none := by
 have := read_nan a h
 unfold Format.order
 cases hr : double.read a <;> simp_all [Datum.isNaN, Datum.order]
theorem val_lt_of_lt {r q : Nat} (h : r < q) : val r < val q := by
 unfold val mant shf
 by_cases hq : q < 4503599627370496
 ·have hr : r < 4503599627370496 := by omega
  simp [hr, hq, h]
 ·rw [if_neg hq, if_neg hq]
  by_cases hr : r < 4503599627370496
  ·rw [if_pos hr, if_pos hr]
   have : 1 ≤ 2 ^ (q / 4503599627370496 - 1) := Nat.one_le_two_pow
   calc r * 2 ^ 0 = r := by simp
    _ < 4503599627370496 * 1 := by omega
    _ ≤ (4503599627370496 + q % 4503599627370496) * 2 ^ (q / 4503599627370496 - 1) := Nat.mul_le_mul (by omega) this
  ·rw [if_neg hr, if_neg hr]
   by_cases he : r / 4503599627370496 = q / 4503599627370496
   ·rw [he]
    exact Nat.mul_lt_mul_of_pos_right (by omega) (Nat.two_pow_pos _)
   ·have hlt : r / 4503599627370496 - 1 + 1 ≤ q / 4503599627370496 - 1 := by omega
    calc (4503599627370496 + r % 4503599627370496) * 2 ^ (r / 4503599627370496 - 1)
      < (4503599627370496 * 2) * 2 ^ (r / 4503599627370496 - 1) := Nat.mul_lt_mul_of_pos_right (by omega) (Nat.two_pow_pos _)
     _ = 4503599627370496 * 2 ^ (r / 4503599627370496 - 1 + 1) := by rw [Nat.pow_succ, Nat.mul_assoc, Nat.mul_comm 2]
     _ ≤ 4503599627370496 * 2 ^ (q / 4503599627370496 - 1) := Nat.mul_le_mul (Nat.le_refl _) (Nat.pow_le_pow_right (by decide) hlt)
     _ ≤ (4503599627370496 + q % 4503599627370496) * 2 ^ (q / 4503599627370496 - 1) := Nat.mul_le_mul (by omega) (Nat.le_refl _)
theorem val_lt_iff (r q : Nat) : val r < val q ↔ r < q := by
 constructor
 ·intro h
  by_cases hc : r < q
  ·exact hc
  ·exfalso
   rcases Nat.lt_or_eq_of_le (Nat.le_of_not_lt hc) with h1 | h1
   ·exact absurd (val_lt_of_lt h1) (by omega)
   ·subst h1; omega
 ·exact val_lt_of_lt
theorem shiftLeft_mul (m a : Nat) : m <<< a = m * 2 ^ a := Nat.shiftLeft_eq m a
theorem cmp_int (a b c d : Int) (h1 : a < b ↔ c < d) (h2 : a = b ↔ c = d) : compare a b = compare c d := by
 show compareOfLessAndEq a b = compareOfLessAndEq c d
 unfold compareOfLessAndEq
 by_cases x : a < b
 ·rw [if_pos x, if_pos (h1.1 x)]
 ·rw [if_neg x, if_neg (fun h => x (h1.2 h))]
  by_cases y : a = b
  ·rw [if_pos y, if_pos (h2.1 y)]
  ·rw [if_neg y, if_neg (fun h => y (h2.2 h))]
/-- A number with its sign. -/
def sg (n : Bool) (m : Nat) : Int := if n then -(m : Int) else (m : Int)
theorem cmp_sg (n k : Bool) (a b c d : Nat) (h1 : a < b ↔ c < d) (h2 : b < a ↔ d < c) (h0 : a = 0 ↔ c = 0) (h3 : b = 0 ↔ d = 0) :
  compare (sg n a) (sg k b) = compare (sg n c) (sg k d) := by
 unfold sg
 apply cmp_int <;> cases n <;> cases k <;> simp <;> omega
theorem scaled_lt (m s n t : Nat) : (m <<< (s - min s t) < n <<< (t - min s t)) ↔ m * 2 ^ s < n * 2 ^ t := by
 rw [shiftLeft_mul, shiftLeft_mul]
 have hp : 0 < 2 ^ min s t := Nat.two_pow_pos _
 have e1 : m * 2 ^ s = m * 2 ^ (s - min s t) * 2 ^ min s t := by rw [Nat.mul_assoc, ← Nat.pow_add, Nat.sub_add_cancel (Nat.min_le_left ..)]
 have e2 : n * 2 ^ t = n * 2 ^ (t - min s t) * 2 ^ min s t := by rw [Nat.mul_assoc, ← Nat.pow_add, Nat.sub_add_cancel (Nat.min_le_right ..)]
 rw [e1, e2]
 exact (Nat.mul_lt_mul_right hp).symm
theorem shl_zero_iff (m a : Nat) : m <<< a = 0 ↔ m = 0 := by
 rw [shiftLeft_mul]
 constructor
 ·intro h
  rcases Nat.mul_eq_zero.1 h with h | h
  ·exact h
  ·exact absurd h (Nat.pos_iff_ne_zero.1 (Nat.two_pow_pos a))
 ·intro h; subst h; simp
theorem mant_zero_iff (r : Nat) : mant r = 0 ↔ r = 0 := by
 unfold mant; split <;> omega
theorem min_place (s t : Nat) : ((-1074 + (s : Int)) - min (-1074 + (s : Int)) (-1074 + (t : Int))).toNat = s - min s t := by omega
theorem min_place' (s t : Nat) : ((-1074 + (t : Int)) - min (-1074 + (s : Int)) (-1074 + (t : Int))).toNat = t - min s t := by omega
theorem cmp_lt {a b : Int} (h : a < b) : compare a b = .lt := by
 show compareOfLessAndEq a b = .lt
 unfold compareOfLessAndEq; rw [if_pos h]
theorem cmp_gt {a b : Int} (h : b < a) : compare a b = .gt := by
 show compareOfLessAndEq a b = .gt
 unfold compareOfLessAndEq; rw [if_neg (by omega), if_neg (by omega)]
theorem cmp_inf_r (s t : Bool) (r i : Nat) (h : r < i) : (if t = true then Ordering.gt else Ordering.lt) = compare (sg s r) (sg t i) := by
 cases t
 ·rw [cmp_lt (by unfold sg; cases s <;> simp <;> omega)]; simp
 ·rw [cmp_gt (by unfold sg; cases s <;> simp <;> omega)]; simp
theorem cmp_inf_l (s t : Bool) (r i : Nat) (h : r < i) : (if t = true then Ordering.lt else Ordering.gt) = compare (sg t i) (sg s r) := by
 cases t
 ·rw [cmp_gt (by unfold sg; cases s <;> simp <;> omega)]; simp
 ·rw [cmp_lt (by unfold sg; cases s <;> simp <;> omega)]; simp
/-- THE ORDER of what is no NaN is the order of the keys. -/
theorem order_key (a b : Nat) (ha : a < 18446744073709551616) (hb : b < 18446744073709551616) (na : nan a = false) (nb : nan b = false) :
  double.order a b = some (compare (key a) (key b)) := by
 have ka : key a = sg (decide (9223372036854775808 ≤ a)) (rung a) := by unfold key sg; by_cases h : 9223372036854775808 ≤ a <;> simp [h]
 have kb : key b = sg (decide (9223372036854775808 ≤ b)) (rung b) := by unfold key sg; by_cases h : 9223372036854775808 ≤ b <;> simp [h]
 rw [ka, kb]
 simp only [nan, decide_eq_false_iff_not] at na nb
 unfold Format.order
 rcases Nat.lt_or_eq_of_le (Nat.le_of_not_lt na) with h1 | h1 <;> rcases Nat.lt_or_eq_of_le (Nat.le_of_not_lt nb) with h2 | h2
 ·rw [read_num a ha h1, read_num b hb h2]
  simp only [Datum.order, Ieee.signed]
  rw [min_place, min_place']
  refine congrArg some ?_
  show compare (sg _ _) (sg _ _) = _
  refine cmp_sg _ _ _ _ _ _ ?_ ?_ ?_ ?_
  ·exact (scaled_lt ..).trans (val_lt_iff ..)
  ·rw [Nat.min_comm]; exact (scaled_lt ..).trans (val_lt_iff ..)
  ·rw [shl_zero_iff, mant_zero_iff]
  ·rw [shl_zero_iff, mant_zero_iff]
 ·rw [read_num a ha h1, read_inf b hb h2, h2]
  simp only [Datum.order]
  exact congrArg some (cmp_inf_r _ _ _ _ h1)
 ·rw [read_inf a ha h1, read_num b hb h2, h1]
  simp only [Datum.order]
  exact congrArg some (cmp_inf_l _ _ _ _ h2)
 ·rw [read_inf a ha h1, read_inf b hb h2, h1, h2]
  simp only [Datum.order]
  refine congrArg some ?_
  unfold sg
  by_cases x : 9223372036854775808 ≤ b <;> by_cases y : 9223372036854775808 ≤ a <;> simp [x, y, compare, compareOfLessAndEq]
/-- Go's 'x != x'. -/
theorem ne_self (b : Nat) (hb : b < 18446744073709551616) : (double.order b b != some .eq) = nan b := by
 cases h : nan b
 ·rw [order_key b b hb hb h h]; simp [compare, compareOfLessAndEq]
 ·rw [order_nan_l b b h]; rfl
theorem canon_lt (b : Nat) (hb : b < 18446744073709551616) : canon b < 18446744073709551616 := by unfold canon; split <;> omega
theorem canon_canon (b : Nat) : canon (canon b) = canon b := by
 unfold canon
 cases h : nan b
 ·simp [h]
 ·simp [nan, rung]
/-! What Go's operations on bits give. -/
end Go.Proofs.YtifabkbdiiolfaaGreatDoor.Fl

namespace Go.Proofs.YtifabkbdiiolfaaGreatDoor
open Go.RowKit
theorem ret_eq {v v' : Value} (h : v = v') : Ending.returned v = Ending.returned v' := by rw [h]
theorem fb_run (n : Int) (w : World) : (callFunc 165 #[.int .u64 n]).run Tryz.prog w = .ok (.value (.float .f64 n.toNat)) w := by
 rw [run_callFunc_extern Tryz.func165 (by kernel_rfl) (by kernel_rfl) (by kernel_rfl) (e := Extern.MathFloatBits.float64frombits) (by kernel_rfl)]
 rfl
theorem tb_run (b : Nat) (w : World) : (callFunc 131 #[.float .f64 b]).run Tryz.prog w = .ok (.value (.int .u64 b)) w := by
 rw [run_callFunc_extern Tryz.func131 (by kernel_rfl) (by kernel_rfl) (by kernel_rfl) (e := Extern.MathFloatBits.float64bits) (by kernel_rfl)]
 rfl
set_option maxHeartbeats 400000 in
theorem isNaN_any (b : Nat) (hb : b < 18446744073709551616) (w : World) :
  Calls Tryz.prog 164 #[.float .f64 b] w fun e w' => e = .returned (.bool (Fl.nan b)) ∧ w = w' := by
 have xf := fb_run
 have xt := tb_run
 go_enter Tryz.func164, Tryz.ntmps164
 go_wp2
 go_ret
 exact ⟨ret_eq (congrArg Value.bool (Fl.ne_self b hb)), rfl⟩
set_option maxHeartbeats 400000 in
theorem canon_any (b : Nat) (hb : b < 18446744073709551616) (w : World) :
  Calls Tryz.prog 132 #[.float .f64 b] w fun e w' => e = .returned (.float .f64 (Fl.canon b)) ∧ w = w' := by
 cases h : Fl.nan b
 all_goals
  have h2 : Hid (Fl.nan b = _) := h
  have xf := fb_run
  have xt := tb_run
  go_enter Tryz.func132, Tryz.ntmps132
  go_wp2_with (go_at_call 164; refine (isNaN_any _ hb _).mono ?_; rintro e w' ⟨rfl, rfl⟩)
  go_ret
  exact ⟨ret_eq (by simp [Fl.canon, h2.out]), rfl⟩
set_option maxHeartbeats 400000 in
theorem bits_any (b : Nat) (hb : b < 18446744073709551616) (w : World) :
  Calls Tryz.prog 105 #[.float .f64 b] w fun e w' => e = .returned (.int .u64 (Fl.canon b : Nat)) ∧ w = w' := by
 have xt := tb_run
 go_enter Tryz.func105, Tryz.ntmps105
 go_wp2_with (go_at_call 132; refine (canon_any _ hb _).mono ?_; rintro e w' ⟨rfl, rfl⟩)
 go_ret
 exact ⟨rfl, rfl⟩
set_option maxHeartbeats 400000 in
theorem of_any (b : Nat) (hb : b < 18446744073709551616) (w : World) :
  Calls Tryz.prog 193 #[.int .u64 b] w fun e w' => e = .returned (.float .f64 (Fl.canon b)) ∧ w = w' := by
 have xf := fb_run
 go_enter Tryz.func193, Tryz.ntmps193
 go_wp2_with (go_at_call 132; refine (canon_any _ hb _).mono ?_; rintro e w' ⟨rfl, rfl⟩)
 go_ret
 exact ⟨rfl, rfl⟩
set_option maxHeartbeats 400000 in
theorem refBits_any (b : Nat) (hb : b < 18446744073709551616) (w : World) :
  Calls Tryz.prog 112 #[.float .f64 b] w fun e w' => e = .returned (.int .u64 (Fl.canon b : Nat)) ∧ w = w' := by
 have xt := tb_run
 go_enter Tryz.func112, Tryz.ntmps112
 go_wp2
 all_goals
  go_ret
  refine ⟨ret_eq ?_, rfl⟩
  unfold Fl.canon Fl.nan Fl.rung
 ·rename_i h1 h2
  have h3 : (b : Int) % 4503599627370496 ≠ 0 := bne_iff_ne.1 h2
  rw [if_pos (by rw [decide_eq_true_eq]; omega)]; rfl
 ·rename_i h1 h2
  have h3 : (b : Int) % 4503599627370496 = 0 := by simpa using h2
  rw [if_neg (by rw [decide_eq_true_eq]; omega)]; rfl
 ·rename_i h1
  rw [if_neg (by rw [decide_eq_true_eq]; omega)]; rfl
theorem cast_beq (x y : Nat) : ((x : Int) == (y : Int)) = decide (x = y) := by
 rw [Bool.eq_iff_iff, beq_iff_eq, decide_eq_true_eq]; omega
set_option maxHeartbeats 400000 in
theorem refSame_any (a b : Nat) (ha : a < 18446744073709551616) (hb : b < 18446744073709551616) (w : World) :
  Calls Tryz.prog 85 #[.float .f64 a, .float .f64 b] w fun e w' => e = .returned (.bool (decide (Fl.canon a = Fl.canon b))) ∧ w = w' := by
 go_enter Tryz.func85, Tryz.ntmps85
 go_wp2_with (go_at_call 112; refine (refBits_any _ (by assumption) _).mono ?_; rintro e w' ⟨rfl, rfl⟩)
 go_ret
 exact ⟨ret_eq (congrArg Value.bool (cast_beq _ _)), rfl⟩
end Go.Proofs.YtifabkbdiiolfaaGreatDoor

set_option linter.unusedSimpArgs false
set_option linter.unusedVariables false
namespace Go.Proofs.YtifabkbdiiolfaaGreatDoor
open Go.RowKit Go.Sort
/-- An event. -/
structure Ev where
 off : Nat
 part : Int
 time : Int
 key : ByteArray
 val : Nat
instance : Inhabited Ev := ⟨⟨0, 0, 0, ByteArray.empty, 0⟩⟩
def Ev.cells (x : Ev) : List Value := [.int .u64 (x.off : Int), .int .i64 x.part, .int .i64 x.time, .string x.key, .float .f64 x.val]
/-- -1, 0 or 1. -/
def cmpI (a b : Int) : Int := if a < b then -1 else if b < a then 1 else 0
def or3 (a b c : Int) : Int := if a ≠ 0 then a else if b ≠ 0 then b else c
def cmpK (a b : ByteArray) : Int := Lib.compareBytes a.data.toList b.data.toList
def evCmp (x y : Ev) : Int := or3 (cmpK x.key y.key) (cmpI x.time y.time) (cmpI (x.off : Int) (y.off : Int))
end Go.Proofs.YtifabkbdiiolfaaGreatDoor

namespace Go.Proofs.YtifabkbdiiolfaaGreatDoor
open Go.RowKit Go.Sort
/-- Two events in two boxes. -/
structure Bx (g h : Nat) (x y : Ev) (w : World) : Prop where
 rx : w.heap[g]? = some (.cells #[.int .u64 (x.off : Int), .int .i64 x.part, .int .i64 x.time, .string x.key, .float .f64 x.val] 45 (0, 0))
 ry : w.heap[h]? = some (.cells #[.int .u64 (y.off : Int), .int .i64 y.part, .int .i64 y.time, .string y.key, .float .f64 y.val] 45 (0, 0))
theorem row_alloc' {w : World} {g : Nat} {o : Obj} (h : w.heap[g]? = some o) (q : Obj) : (w.alloc q).heap[g]? = some o := (Below.heap_alloc _ _ _ (Array.getElem?_eq_some_iff.1 h).1).trans h
theorem Bx.alloc {g h : Nat} {x y : Ev} {w : World} (H : Bx g h x y w) (o : Obj) : Bx g h x y (w.alloc o) := ⟨row_alloc' H.rx o, row_alloc' H.ry o⟩
theorem heap_new (w : World) (o : Obj) : (w.alloc o).heap[w.heap.size]? = some o := by show (w.heap.push o)[w.heap.size]? = _; simp
theorem Bx.start (w : World) (x y : Ev) : Bx w.heap.size (w.heap.size + 1) x y ((w.alloc (.cells #[.int .u64 (x.off : Int), .int .i64 x.part, .int .i64 x.time, .string x.key, .float .f64 x.val] 45)).alloc (.cells #[.int .u64 (y.off : Int), .int .i64 y.part, .int .i64 y.time, .string y.key, .float .f64 y.val] 45)).drew :=
 ⟨row_alloc' (by show (w.heap.push _)[w.heap.size]? = _; simp) _, by have h := heap_new (w.alloc (.cells #[.int .u64 (x.off : Int), .int .i64 x.part, .int .i64 x.time, .string x.key, .float .f64 x.val] 45)) (.cells #[.int .u64 (y.off : Int), .int .i64 y.part, .int .i64 y.time, .string y.key, .float .f64 y.val] 45); rw [show (w.alloc (.cells #[.int .u64 (x.off : Int), .int .i64 x.part, .int .i64 x.time, .string x.key, .float .f64 x.val] 45)).heap.size = w.heap.size + 1 from by simp] at h; exact h⟩
/-- Draws and new blocks, and nothing else. -/
def Grew (w w' : World) : Prop := ∃ q os, w' = grow (w.drewN q) os
theorem Grew.refl (w : World) : Grew w w := ⟨0, #[], by rw [grow_empty]; rfl⟩
theorem drewN_grow' (w : World) (os : Array Obj) (n : Nat) : (grow w os).drewN n = grow (w.drewN n) os := rfl
theorem drewN_add (w : World) (m n : Nat) : (w.drewN m).drewN n = w.drewN (m + n) := by
 unfold World.drewN; simp; omega
theorem Grew.trans {a b c : World} (h : Grew a b) (h' : Grew b c) : Grew a c := by
 obtain ⟨q, os, rfl⟩ := h
 obtain ⟨q', os', rfl⟩ := h'
 exact ⟨q + q', os ++ os', by rw [drewN_grow', drewN_add, grow_grow]⟩
theorem Grew.alloc {a b : World} (h : Grew a b) (o : Obj) : Grew a (b.alloc o) := h.trans ⟨0, #[o], by rw [alloc_eq_grow]; rfl⟩
theorem Grew.drew {a b : World} (h : Grew a b) : Grew a b.drew := h.trans ⟨1, #[], by rw [grow_empty]; rfl⟩
end Go.Proofs.YtifabkbdiiolfaaGreatDoor

namespace Go.Proofs.YtifabkbdiiolfaaGreatDoor
open Go.RowKit Go.Sort
theorem cells_len (x : Ev) : x.cells.length = 5 := rfl
theorem cells_one (x : Ev) : ∀ v ∈ x.cells, v.oneCell' = true := fun v hv => by
 simp only [Ev.cells, List.mem_cons, List.not_mem_nil, or_false] at hv
 rcases hv with rfl | rfl | rfl | rfl | rfl <;> rfl
def evs (l : List Ev) : List Value := l.flatMap Ev.cells
theorem evs_length (l : List Ev) : (evs l).length = l.length * 5 := by
 induction l with
 | nil => rfl
 | cons x r ih => unfold evs at *; rw [List.flatMap_cons, List.length_append, ih, cells_len, List.length_cons]; omega
theorem evs_one (l : List Ev) : ∀ v ∈ evs l, v.oneCell' = true := fun v hv => by
 obtain ⟨x, -, hx⟩ := List.mem_flatMap.1 hv
 exact cells_one x v hx
theorem evs_get (l : List Ev) (k j : Nat) (hj : j < 5) : (evs l)[k * 5 + j]? = (l[k]?).bind fun x => x.cells[j]? := by
 induction l generalizing k with
 | nil => simp [evs]
 | cons x r ih =>
  unfold evs at *
  rw [List.flatMap_cons]
  rcases k with _ | k
  ·rw [List.getElem?_append_left (by rw [cells_len]; omega)]; simp
  ·rw [List.getElem?_append_right (by rw [cells_len]; omega), cells_len, show (k + 1) * 5 + j - 5 = k * 5 + j by omega, ih]; simp
/-- A slice value that holds some events, in a world. -/
def EvAt (w : World) (a : Option Addr) (l : List Ev) : Prop := ∀ (j : Nat) (v : Value), (evs l)[j]? = some v → ∃ g off, a = some ⟨g, off, none⟩ ∧ g < w.heap.size ∧ w.cell? ⟨g, off + j, none⟩ = some v
theorem EvAt.keep {w w' : World} {a : Option Addr} {l : List Ev} (h : EvAt w a l) (hb : Below w.heap.size w w') : EvAt w' a l := fun j v hv => by
 obtain ⟨g, off, h2, h3, h4⟩ := h j v hv
 exact ⟨g, off, h2, Nat.lt_of_lt_of_le h3 hb.size, (hb.cell (p := ⟨g, off + j, none⟩) h3).trans h4⟩
theorem infoEv : (Tryz.prog.info? 45).map (fun i => (i.zero, i.size, i.bytes)) = some (some (.agg #[.int .u64 0, .int .i64 0, .int .i64 0, .string ByteArray.empty, .float .f64 0]), 5, 48) := by kernel_rfl
/-- Events that a call owns. -/
def OwnE (w : World) (B : Nat) (A : Option Addr) (n cap : Nat) (l : List Ev) : Prop := w.ownsRow B 45 5 (.slice A n cap) n (evs l)
theorem below_grow {B : Nat} {w0 w : World} (h : Below B w0 w) (hB : B ≤ w.heap.size) (os : Array Obj) : Below B w0 (grow w os) :=
 ⟨h.os, h.tape, h.output, Nat.le_trans h.size (by simp), fun k hk => by rw [heap_grow_old _ _ (Nat.lt_of_lt_of_le hk hB)]; exact h.block k hk⟩
end Go.Proofs.YtifabkbdiiolfaaGreatDoor

namespace Go.Proofs.YtifabkbdiiolfaaGreatDoor
open Go.RowKit Go.Sort
theorem evAt_new (w : World) (l : List Ev) (cs : Array Value) (hcs : cs.toList = evs l) (t : TypeId) : EvAt (w.alloc (.cells cs t)) (some ⟨w.heap.size, 0, none⟩) l := fun j v hv => by
 refine ⟨w.heap.size, 0, rfl, by simp, ?_⟩
 rw [Nat.zero_add, cell_of_row _ _ _ _ _ _ (heap_new w _), ← Array.getElem?_toList, hcs]; exact hv
end Go.Proofs.YtifabkbdiiolfaaGreatDoor
