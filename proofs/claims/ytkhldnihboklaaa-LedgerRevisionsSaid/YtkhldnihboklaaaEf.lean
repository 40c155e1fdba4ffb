/-
  Layer event: the contracts of Less, Before, Form, Same.
-/
import Derived.Test.YtkhldnihboklaaaEe
set_option linter.unusedSimpArgs false
set_option linter.unusedVariables false
namespace Go.Proofs.Ytkhldnihboklaaa
open Go.RowKit Go.Sort

theorem Grew.below {w w' : World} (h : Grew w w') : Below w.heap.size w w' := by
  obtain ⟨q, os, rfl⟩ := h
  have h : Below w.heap.size w (w.drewN q) := ⟨rfl, rfl, rfl, Nat.le_refl _, fun _ _ => rfl⟩
  exact below_grow h h.size os
def lessB (x y : Ev) : Bool := decide (evCmp x y < 0)
def formB (x : Ev) (p : Int) : Bool := decide (0 ≤ x.part) && decide (x.part < p) && decide (-1099511627776 ≤ x.time) && decide (x.time ≤ 1099511627776) && decide (x.key.size ≤ 32) && decide (x.off < 1099511627776)
def keqB (x y : Ev) : Bool := x.key.toList == y.key.toList
def sameB (x y : Ev) : Bool := decide ((x.off : Int) = (y.off : Int)) && decide (x.part = y.part) && decide (x.time = y.time) && keqB x y && decide (Fl.canon x.val = Fl.canon y.val)
def parts4 (a b c d : Bool) (r s : Bool) : Prop := s = (a && b && c && d && r)
theorem cmp_less : ∀ a b : List UInt8, Lib.compareBytes a b = if (a == b) = true then 0 else if Op.bytesLess a b = true then -1 else 1
  | [], [] => rfl
  | [], _ :: _ => rfl
  | _ :: _, [] => rfl
  | a :: la, b :: lb => by
    have ih := cmp_less la lb
    unfold Lib.compareBytes Op.bytesLess
    by_cases h1 : a < b
    · have : a ≠ b := fun e => by rw [e] at h1; exact absurd h1 (UInt8.lt_irrefl _)
      simp [h1, this]
    · by_cases h2 : b < a
      · have : a ≠ b := fun e => by rw [e] at h2; exact absurd h2 (UInt8.lt_irrefl _)
        simp [h1, h2, this]
      · have : a = b := UInt8.le_antisymm (UInt8.not_lt.1 h2) (UInt8.not_lt.1 h1)
        subst this
        simp only [h1, h2, if_false, ih]
        simp
theorem keq_iff (x y : Ev) : keqB x y = (x.key.data.toList == y.key.data.toList) := by
  unfold keqB
  rw [ByteArray.toList_eq, ByteArray.toList_eq]
theorem less_key (x y : Ev) (h : keqB x y = false) : lessB x y = Op.bytesLess x.key.toList y.key.toList := by
  rw [keq_iff] at h
  unfold lessB evCmp cmpK or3
  rw [cmp_less, h, ByteArray.toList_eq, ByteArray.toList_eq]
  cases Op.bytesLess x.key.data.toList y.key.data.toList <;> simp
theorem less_time (x y : Ev) (h : keqB x y = true) (ht : x.time ≠ y.time) : lessB x y = decide (x.time < y.time) := by
  rw [keq_iff] at h
  unfold lessB evCmp cmpK or3
  rw [cmp_less, h, decide_eq_decide]
  unfold cmpI
  by_cases h1 : x.time < y.time
  · simp [h1]
  · have h2 : y.time < x.time := by omega
    simp [h1, h2]
theorem less_off (x y : Ev) (h : keqB x y = true) (ht : x.time = y.time) : lessB x y = decide ((x.off : Int) < (y.off : Int)) := by
  rw [keq_iff] at h
  unfold lessB evCmp cmpK or3
  rw [cmp_less, h, decide_eq_decide]
  unfold cmpI
  rw [ht]
  by_cases h1 : (x.off : Int) < (y.off : Int)
  · simp [h1]
  · by_cases h2 : (y.off : Int) < (x.off : Int)
    · simp [h1, h2]
    · simp [h1, h2]
end Go.Proofs.Ytkhldnihboklaaa
