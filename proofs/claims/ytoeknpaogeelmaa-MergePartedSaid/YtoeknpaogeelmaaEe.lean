/-
  Layer event: awake; Less, Before, Form, Same.
-/
import Derived.Test.YtoeknpaogeelmaaEd
set_option linter.unusedSimpArgs false
set_option linter.unusedVariables false
namespace Go.Proofs.Ytoeknpaogeelmaa
open Go.RowKit Go.Sort

def evB : Ev := ⟨0, 0, 1, { data := #[98] }, 0⟩
def evA2 : Ev := ⟨0, 0, 2, { data := #[97] }, 0⟩
def evA1 : Ev := ⟨0, 0, 1, { data := #[97] }, 0⟩
theorem sort_awake : evs (sortE [evB, evA2, evA1]) = evs [evA1, evA2, evB] := by kernel_rfl
theorem own_cell {w : World} {B n cap : Nat} {A : Option Addr} {l : List Ev} (h : OwnE w B A n cap l) (j : Nat) (v : Value) (hj : (evs l)[j]? = some v) (g : Nat) (hA : A = some ⟨g, 0, none⟩) : w.cell? ⟨g, j, none⟩ = some v := by
  subst hA
  have hl : n = l.length := by have := h.1; rw [evs_length] at this; omega
  rcases h.2 with ⟨e0, _⟩ | ⟨g', cap', cur, e0, hb, hg, hn, hm, hs, ht⟩
  · cases e0
  · cases e0
    rw [cell_of_row w g j cur _ (0, 0) hg, ← Array.getElem?_toList]
    have hjl := (List.getElem?_eq_some_iff.1 hj).1
    rw [evs_length] at hjl
    have e1 : (cur.toList.take (n * 5))[j]? = (evs l)[j]? := by rw [ht]
    rw [List.getElem?_take, if_pos (by omega)] at e1
    rw [e1]; exact hj
theorem evAt_new (w : World) (l : List Ev) (cs : Array Value) (hcs : cs.toList = evs l) (t : TypeId) : EvAt (w.alloc (.cells cs t)) (some ⟨w.heap.size, 0, none⟩) l := fun j v hv => by
  refine ⟨w.heap.size, 0, rfl, by simp, ?_⟩
  rw [Nat.zero_add, cell_of_row _ _ _ _ _ _ (heap_new w _), ← Array.getElem?_toList, hcs]; exact hv

end Go.Proofs.Ytoeknpaogeelmaa
