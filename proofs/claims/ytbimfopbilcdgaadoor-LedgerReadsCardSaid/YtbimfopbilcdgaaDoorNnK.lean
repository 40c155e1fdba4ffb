/-
  Layer ledger: the document's Add; the same lists of changes, and of panes.
-/
import Derived.Test.YtbimfopbilcdgaaDoorNlK
set_option linter.unusedSimpArgs false
set_option linter.unusedVariables false
set_option maxRecDepth 8000
namespace Go.Proofs.YtbimfopbilcdgaaDoor
open Go.RowKit Go.Sort

theorem telB_self (t : Tel) : telB t t = true := by unfold telB; simp
/-- What the document's Add ends with. -/
def RaEnd (W : World) (a : Option Addr) (n c : Nat) (l0 more : List Chg) (e : Ending) (w' : World) : Prop := Below W.heap.size W w' ∧ ((e = .returned (.tuple #[.slice a n c, .bool false]) ∧ accB l0 more = false) ∨
  (∃ (A : Option Addr) (N cap : Nat), e = .returned (.tuple #[.slice A N cap, .bool true]) ∧ accB l0 more = true ∧ OwnCh w' W.heap.size A N cap (l0 ++ more) ∧ N ≤ cap ∧ cap ≤ maxLen ∧ (A = none → cap = 0)))
/-- What its rounds hold. -/
def RRA (W : World) (n : Nat) (l0 more : List Chg) (u i : Value) (wr : World) : Prop := ∃ (k : Nat) (A : Option Addr) (N cap : Nat), k ≤ more.length ∧ i = .int .i64 k ∧ N = n + k ∧ u = .slice A N cap ∧ N ≤ cap ∧ cap ≤ maxLen ∧ (A = none → cap = 0) ∧ OwnCh wr W.heap.size A N cap (l0 ++ more.take k) ∧ accB l0 (more.take k) = true ∧ Below W.heap.size W wr
end Go.Proofs.YtbimfopbilcdgaaDoor
