/-
  Layer event: the contracts of Less, Before, Form, Same.
-/
import Derived.Test.YtoeknpaogeelmaaEe
set_option linter.unusedSimpArgs false
set_option linter.unusedVariables false
namespace Go.Proofs.Ytoeknpaogeelmaa
open Go.RowKit Go.Sort

theorem Grew.below {w w' : World} (h : Grew w w') : Below w.heap.size w w' := by
  obtain ⟨q, os, rfl⟩ := h
  have h : Below w.heap.size w (w.drewN q) := ⟨rfl, rfl, rfl, Nat.le_refl _, fun _ _ => rfl⟩
  exact below_grow h h.size os
def lessB (x y : Ev) : Bool := decide (evCmp x y < 0)
set_option maxHeartbeats 1000000 in
theorem evLess_any (x y : Ev) (w : World) : Calls Try.prog 21 #[.agg #[.int .u64 (x.off : Int), .int .i64 x.part, .int .i64 x.time, .string x.key, .float .f64 x.val], .agg #[.int .u64 (y.off : Int), .int .i64 y.part, .int .i64 y.time, .string y.key, .float .f64 y.val]] w fun e w' => e = .returned (.bool (lessB x y)) ∧ Below w.heap.size w w' := by
  have HC := Lib.hid fun w => compare_any x y w
  have hl : decide (evCmp x y < 0) = lessB x y := rfl
  have HL := Lib.hid hl
  clear hl
  generalize evCmp x y = r at *
  go_enter Try.func21, Try.ntmps21
  go_wp2_with (go_at_call 24; refine (HC.out _).mono ?_; rintro e w' ⟨rfl, hg⟩; have HG := Lib.hid hg; clear hg)
  go_ret
  exact ⟨ret_eq (by rw [← HL.out]; rfl), (((Below.refl w.heap.size w).alloc (Nat.le_refl _) _).alloc (by simp) _).trans (HG.out.below.mono (by simp; omega))⟩
def formB (x : Ev) (p : Int) : Bool := decide (0 ≤ x.part) && decide (x.part < p) && decide (-1099511627776 ≤ x.time) && decide (x.time ≤ 1099511627776) && decide (x.key.size ≤ 32) && decide (x.off < 1099511627776)
def keqB (x y : Ev) : Bool := x.key.toList == y.key.toList
def sameB (x y : Ev) : Bool := decide ((x.off : Int) = (y.off : Int)) && decide (x.part = y.part) && decide (x.time = y.time) && keqB x y && decide (Fl.canon x.val = Fl.canon y.val)
def boxes2 (w : World) (x y : Ev) : World := (w.alloc (.cells #[.int .u64 (x.off : Int), .int .i64 x.part, .int .i64 x.time, .string x.key, .float .f64 x.val] 38)).alloc (.cells #[.int .u64 (y.off : Int), .int .i64 y.part, .int .i64 y.time, .string y.key, .float .f64 y.val] 38)
theorem boxes2_below (w : World) (x y : Ev) : Below w.heap.size w (boxes2 w x y) := ((Below.refl w.heap.size w).alloc (Nat.le_refl _) _).alloc (by simp) _
def parts4 (a b c d : Bool) (r s : Bool) : Prop := s = (a && b && c && d && r)
set_option maxHeartbeats 2000000 in
theorem refEvSame_any (x y : Ev) (hx : x.val < 18446744073709551616) (hy : y.val < 18446744073709551616) (w : World) : Calls Try.prog 14 #[.agg #[.int .u64 (x.off : Int), .int .i64 x.part, .int .i64 x.time, .string x.key, .float .f64 x.val], .agg #[.int .u64 (y.off : Int), .int .i64 y.part, .int .i64 y.time, .string y.key, .float .f64 y.val]] w fun e w' => e = .returned (.bool (sameB x y)) ∧ Below w.heap.size w w' := by
  have HB := Lib.hid (boxes2_below w x y)
  have HC := Lib.hid fun w => refSame_any x.val y.val hx hy w
  have hb : (x.key.toList == y.key.toList) = keqB x y := rfl
  have HS : Hid (parts4 (decide ((x.off : Int) = (y.off : Int))) (decide (x.part = y.part)) (decide (x.time = y.time)) (keqB x y) (decide (Fl.canon x.val = Fl.canon y.val)) (sameB x y)) := Lib.hid rfl
  generalize decide (Fl.canon x.val = Fl.canon y.val) = r at *
  generalize sameB x y = s at *
  clear hx hy
  generalize keqB x y = kb at *
  cases kb
  all_goals
    go_enter Try.func14, Try.ntmps14
    go_wp2_with (go_at_call 20; refine (HC.out _).mono ?_; rintro e w' ⟨rfl, rfl⟩)
    all_goals
      go_ret
      refine ⟨ret_eq ?_, ((Below.refl w.heap.size w).alloc (Nat.le_refl _) _).alloc (by simp) _⟩
      have h := HS.out
      unfold parts4 at h
      rw [h]
      exact congrArg Value.bool (by simp [*])
theorem cmp_less : ∀ a b : List UInt8, Lib.compareBytes a b = if (a == b) = true then 0 else if Op.bytesLess a b = true then -1 else 1
  | [], [] => rfl
  | [], _ :: _ => rfl
  | _ :: _, [] => rfl
  | a :: la, b :: lb => by
    have ih := cmp_less la lb
    unfold Lib.compareBytes Op.bytesLess
    by_cases h1 : a < b
    · have : a ≠ b := fun e => by rw [e] at h1; exact absurd h1 (UInt8.lt_irrefl _)
      simp [h1, this]
    · by_cases h2 : b < a
      · have : a ≠ b := fun e => by rw [e] at h2; exact absurd h2 (UInt8.lt_irrefl _)
        simp [h1, h2, this]
      · have : a = b := UInt8.le_antisymm (UInt8.not_lt.1 h2) (UInt8.not_lt.1 h1)
        subst this
        simp only [h1, h2, if_false, ih]
        simp
theorem keq_iff (x y : Ev) : keqB x y = (x.key.data.toList == y.key.data.toList) := by
  unfold keqB
  rw [ByteArray.toList_eq, ByteArray.toList_eq]
theorem less_key (x y : Ev) (h : keqB x y = false) : lessB x y = Op.bytesLess x.key.toList y.key.toList := by
  rw [keq_iff] at h
  unfold lessB evCmp cmpK or3
  rw [cmp_less, h, ByteArray.toList_eq, ByteArray.toList_eq]
  cases Op.bytesLess x.key.data.toList y.key.data.toList <;> simp
theorem less_time (x y : Ev) (h : keqB x y = true) (ht : x.time ≠ y.time) : lessB x y = decide (x.time < y.time) := by
  rw [keq_iff] at h
  unfold lessB evCmp cmpK or3
  rw [cmp_less, h, decide_eq_decide]
  unfold cmpI
  by_cases h1 : x.time < y.time
  · simp [h1]
  · have h2 : y.time < x.time := by omega
    simp [h1, h2]
theorem less_off (x y : Ev) (h : keqB x y = true) (ht : x.time = y.time) : lessB x y = decide ((x.off : Int) < (y.off : Int)) := by
  rw [keq_iff] at h
  unfold lessB evCmp cmpK or3
  rw [cmp_less, h, decide_eq_decide]
  unfold cmpI
  rw [ht]
  by_cases h1 : (x.off : Int) < (y.off : Int)
  · simp [h1]
  · by_cases h2 : (y.off : Int) < (x.off : Int)
    · simp [h1, h2]
    · simp [h1, h2]
set_option maxHeartbeats 2000000 in
theorem evBefore_any (x y : Ev) (w : World) : Calls Try.prog 15 #[.agg #[.int .u64 (x.off : Int), .int .i64 x.part, .int .i64 x.time, .string x.key, .float .f64 x.val], .agg #[.int .u64 (y.off : Int), .int .i64 y.part, .int .i64 y.time, .string y.key, .float .f64 y.val]] w fun e w' => e = .returned (.bool (lessB x y)) ∧ Grew w w' := by
  have HG : Hid (Grew w ((w.alloc (.cells #[.int .u64 (x.off : Int), .int .i64 x.part, .int .i64 x.time, .string x.key, .float .f64 x.val] 38)).alloc (.cells #[.int .u64 (y.off : Int), .int .i64 y.part, .int .i64 y.time, .string y.key, .float .f64 y.val] 38))) := Lib.hid (((Grew.refl w).alloc _).alloc _)
  have hb : (x.key.toList == y.key.toList) = keqB x y := rfl
  cases hk : keqB x y
  · rw [hk] at hb
    have HL := Lib.hid (less_key x y hk)
    clear hk
    generalize lessB x y = r at *
    go_enter Try.func15, Try.ntmps15
    go_wp2
    go_ret
    exact ⟨ret_eq (by rw [HL.out]; rfl), HG.out⟩
  · rw [hk] at hb
    by_cases ht : x.time = y.time
    · have HL := Lib.hid (less_off x y hk ht)
      have ht' : (x.time == y.time) = true := by simpa using ht
      have ht2 : (x.time != y.time) = false := by simpa using ht
      clear hk ht
      generalize lessB x y = r at *
      go_enter Try.func15, Try.ntmps15
      go_wp2
      go_ret
      exact ⟨ret_eq (by rw [HL.out]; simp), HG.out⟩
    · have HL := Lib.hid (less_time x y hk ht)
      have ht2 : (x.time != y.time) = true := by simpa using ht
      clear hk
      generalize lessB x y = r at *
      go_enter Try.func15, Try.ntmps15
      go_wp2
      go_ret
      exact ⟨ret_eq (by rw [HL.out]; rfl), HG.out⟩
end Go.Proofs.Ytoeknpaogeelmaa
