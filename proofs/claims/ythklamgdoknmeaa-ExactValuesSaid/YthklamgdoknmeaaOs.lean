/-
  The law's own 'same', of a number and itself.
-/
import Derived.Test.YthklamgdoknmeaaOf
import Derived.Test.YthklamgdoknmeaaOp
set_option linter.unusedSimpArgs false
set_option linter.unusedVariables false
set_option maxRecDepth 8000
namespace Go.Proofs.Ythklamgdoknmeaa
open Go.RowKit Sm

set_option maxHeartbeats 1000000 in
theorem lawSame_self (x : Nat) (c : Bool) (hx : x < 18446744073709551616) (w : World) :
    Calls Try.prog 16 #[.float .f64 x, .bool c, .float .f64 x, .bool c] w fun e w' => e = .returned (.bool true) ∧ w = w' := by
  have hs := sm_gives x x hx hx rfl
  cases c
  all_goals
    go_enter Try.func16, Try.ntmps16
    go_wp2_with (go_at_call 39; (with_reducible refine (hs.at _).mono ?_); rintro e w' ⟨rfl, rfl⟩)
    go_ret
    exact ⟨rfl, rfl⟩
end Go.Proofs.Ythklamgdoknmeaa
