/-
  Layer ledger: the same lists of changes.
-/
import Derived.Test.YtbimfopbilcdgaaDoorNnK
set_option linter.unusedSimpArgs false
set_option linter.unusedVariables false
set_option maxRecDepth 8000
namespace Go.Proofs.YtbimfopbilcdgaaDoor
open Go.RowKit Go.Sort

end Go.Proofs.YtbimfopbilcdgaaDoor
