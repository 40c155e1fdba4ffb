/-
  The law's own 'same', of a number and itself.
-/
import Derived.Test.YtmnjkpomclaidaaOf
import Derived.Test.YtmnjkpomclaidaaOp
set_option linter.unusedSimpArgs false
set_option linter.unusedVariables false
namespace Go.Proofs.Ytmnjkpomclaidaa
open Go.RowKit Sm

set_option maxHeartbeats 1000000 in
theorem lawSame_self (x : Nat) (c : Bool) (hx : x < 18446744073709551616) (w : World) :
    Calls Try.prog 10 #[.float .f64 x, .bool c, .float .f64 x, .bool c] w fun e w' => e = .returned (.bool true) ∧ w = w' := by
  have hs := sm_gives x x hx hx rfl
  cases c
  all_goals
    go_enter Try.func10, Try.ntmps10
    go_wp2_with (go_at_call 30; (with_reducible refine (hs.at _).mono ?_); rintro e w' ⟨rfl, rfl⟩)
    go_ret
    exact ⟨rfl, rfl⟩
end Go.Proofs.Ytmnjkpomclaidaa
