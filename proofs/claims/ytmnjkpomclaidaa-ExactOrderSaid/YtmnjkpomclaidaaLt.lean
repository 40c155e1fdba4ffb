/-
  The law ExactTwo returns true: walked.
-/
import Derived.Test.YtmnjkpomclaidaaSk
import Derived.Test.YtmnjkpomclaidaaSz
set_option linter.unusedSimpArgs false
set_option linter.unusedVariables false
namespace Go.Proofs.Ytmnjkpomclaidaa
open Go.RowKit Sm

end Go.Proofs.Ytmnjkpomclaidaa
