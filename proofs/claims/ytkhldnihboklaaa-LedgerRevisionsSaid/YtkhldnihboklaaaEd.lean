/-
  Layer event: Sort at fewer than 20 events; awake.
-/
import Derived.Test.YtkhldnihboklaaaEc
import Derived.Deep.DeepCutAuto
set_option linter.unusedSimpArgs false
set_option linter.unusedVariables false
namespace Go.Proofs.Ytkhldnihboklaaa
open Go.RowKit Go.Sort

/-- The row as it is behind a sort. -/
def SortW (w : World) (g : Nat) (d : Array Ev) (w' : World) : Prop := ∃ q os, w' = sortWorldK Ev.cells 5 w g 0 q d os
def sortE (l : List Ev) : List Ev := (insertionSort (ltOf evCmp) l.toArray 0 l.length).toList

theorem insOuter_size (lt : Ev → Ev → Bool) (a b : Nat) : ∀ (k i : Nat) (d : Array Ev), b - i ≤ k → (insOuter lt a b i d).size = d.size
  | 0, i, d, h => by unfold insOuter; rw [if_neg (by omega)]
  | k + 1, i, d, h => by
    unfold insOuter
    split
    · rw [insOuter_size lt a b k (i + 1) _ (by omega)]
      have : ∀ (j : Nat) (d : Array Ev), (insInner lt a j d).size = d.size := by
        intro j
        induction j with
        | zero => intro d; rfl
        | succ j ih =>
          intro d
          unfold insInner
          split
          · rw [ih]; exact size_swp ..
          · rfl
      exact this i d
    · rfl
theorem sortE_len (l : List Ev) : (sortE l).length = l.length := by
  unfold sortE insertionSort
  rw [Array.length_toList, insOuter_size _ _ _ l.length _ _ (by omega)]; rfl
end Go.Proofs.Ytkhldnihboklaaa
