/-
  Layer event: awake; Less, Before, Form, Same.
-/
import Derived.Test.YtkhldnihboklaaaEd
set_option linter.unusedSimpArgs false
set_option linter.unusedVariables false
namespace Go.Proofs.Ytkhldnihboklaaa
open Go.RowKit Go.Sort

def evB : Ev := ⟨0, 0, 1, { data := #[98] }, 0⟩
def evA2 : Ev := ⟨0, 0, 2, { data := #[97] }, 0⟩
def evA1 : Ev := ⟨0, 0, 1, { data := #[97] }, 0⟩
theorem sort_awake : evs (sortE [evB, evA2, evA1]) = evs [evA1, evA2, evB] := by kernel_rfl
theorem evAt_new (w : World) (l : List Ev) (cs : Array Value) (hcs : cs.toList = evs l) (t : TypeId) : EvAt (w.alloc (.cells cs t)) (some ⟨w.heap.size, 0, none⟩) l := fun j v hv => by
  refine ⟨w.heap.size, 0, rfl, by simp, ?_⟩
  rw [Nat.zero_add, cell_of_row _ _ _ _ _ _ (heap_new w _), ← Array.getElem?_toList, hcs]; exact hv

end Go.Proofs.Ytkhldnihboklaaa
