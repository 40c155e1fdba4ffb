/-
  The law ExactTwo returns true: walked.
-/
import Derived.Test.YthklamgdoknmeaaSk
import Derived.Test.YthklamgdoknmeaaSz
set_option linter.unusedSimpArgs false
set_option linter.unusedVariables false
set_option maxRecDepth 8000
namespace Go.Proofs.Ythklamgdoknmeaa
open Go.RowKit Sm

end Go.Proofs.Ythklamgdoknmeaa
