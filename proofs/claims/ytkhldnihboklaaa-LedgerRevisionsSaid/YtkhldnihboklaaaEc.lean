/-
  Layer event: the library's contracts, laid; Sort at fewer than 20 events; awake.
-/
import Derived.Test.YtkhldnihboklaaaEb
import Derived.Shelf.SlSortCmp.InsertionK
import Derived.Shelf.SlicesE.Clone
import Derived.Lib.OwnBridge
set_option linter.unusedSimpArgs false
set_option linter.unusedVariables false
namespace Go.Proofs.Ytkhldnihboklaaa
open Go.RowKit Go.Sort

theorem cells_len (x : Ev) : x.cells.length = 5 := rfl
theorem cells_one (x : Ev) : ∀ v ∈ x.cells, v.oneCell' = true := fun v hv => by
  simp only [Ev.cells, List.mem_cons, List.not_mem_nil, or_false] at hv
  rcases hv with rfl | rfl | rfl | rfl | rfl <;> rfl
def evs (l : List Ev) : List Value := l.flatMap Ev.cells
theorem evs_length (l : List Ev) : (evs l).length = l.length * 5 := by
  induction l with
  | nil => rfl
  | cons x r ih => unfold evs at *; rw [List.flatMap_cons, List.length_append, ih, cells_len, List.length_cons]; omega
theorem evs_one (l : List Ev) : ∀ v ∈ evs l, v.oneCell' = true := fun v hv => by
  obtain ⟨x, -, hx⟩ := List.mem_flatMap.1 hv
  exact cells_one x v hx
theorem evs_get (l : List Ev) (k j : Nat) (hj : j < 5) : (evs l)[k * 5 + j]? = (l[k]?).bind fun x => x.cells[j]? := by
  induction l generalizing k with
  | nil => simp [evs]
  | cons x r ih =>
    unfold evs at *
    rw [List.flatMap_cons]
    rcases k with _ | k
    · rw [List.getElem?_append_left (by rw [cells_len]; omega)]; simp
    · rw [List.getElem?_append_right (by rw [cells_len]; omega), cells_len, show (k + 1) * 5 + j - 5 = k * 5 + j by omega, ih]; simp
/-- A slice value that holds some events, in a world. -/
def EvAt (w : World) (a : Option Addr) (l : List Ev) : Prop := ∀ (j : Nat) (v : Value), (evs l)[j]? = some v → ∃ g off, a = some ⟨g, off, none⟩ ∧ g < w.heap.size ∧ w.cell? ⟨g, off + j, none⟩ = some v
theorem EvAt.keep {w w' : World} {a : Option Addr} {l : List Ev} (h : EvAt w a l) (hb : Below w.heap.size w w') : EvAt w' a l := fun j v hv => by
  obtain ⟨g, off, h2, h3, h4⟩ := h j v hv
  exact ⟨g, off, h2, Nat.lt_of_lt_of_le h3 hb.size, (hb.cell (p := ⟨g, off + j, none⟩) h3).trans h4⟩
theorem flatK_evs (l : List Ev) : (flatK Ev.cells 5 l.toArray).toList = evs l := by
  apply List.ext_getElem?
  intro t
  by_cases ht : t < l.length * 5
  · have h1 := get_flatK Ev.cells 5 l.toArray t (by simpa using ht)
    have h2 := evs_get l (t / 5) (t % 5) (by omega)
    rw [show t / 5 * 5 + t % 5 = t by omega] at h2
    rw [h2]
    have h3 : t / 5 < l.length := by omega
    rw [List.getElem?_eq_getElem h3]
    rw [getElem!_pos _ t (by simpa using ht)] at h1
    rw [Array.getElem?_toList, Array.getElem?_eq_getElem (by simpa using ht), h1]
    simp only [Option.bind_some]
    rw [show l.toArray[t / 5]! = l[t / 5] from by simp [getElem!_pos, h3]]
    rw [getElem!_pos _ (t % 5) (by rw [cells_len]; omega), List.getElem?_eq_getElem (by rw [cells_len]; omega)]
  · rw [List.getElem?_eq_none (by simp; omega), List.getElem?_eq_none (by rw [evs_length]; omega)]
theorem below_grow {B : Nat} {w0 w : World} (h : Below B w0 w) (hB : B ≤ w.heap.size) (os : Array Obj) : Below B w0 (grow w os) :=
  ⟨h.os, h.tape, h.output, Nat.le_trans h.size (by simp), fun k hk => by rw [heap_grow_old _ _ (Nat.lt_of_lt_of_le hk hB)]; exact h.block k hk⟩
theorem below_sortW {B : Nat} {w0 w : World} {g q : Nat} {d : Array Ev} {os : Array Obj} (h : Below B w0 w) (hB : B ≤ w.heap.size) (hg : B ≤ g) : Below B w0 (sortWorldK Ev.cells 5 w g 0 q d os) :=
  below_grow (Lib.below_putRow h hg) (by simpa [putRow, mapBlock, Sort.ahead] using hB) os
end Go.Proofs.Ytkhldnihboklaaa
