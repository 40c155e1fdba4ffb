/-
  The document's Read, where the bytes are there.
-/
import Derived.Test.YtbimfopbilcdgaaDoorByK
import Derived.Test.YtbimfopbilcdgaaDoorGdK
set_option linter.unusedSimpArgs false
set_option linter.unusedVariables false
set_option maxRecDepth 8000
namespace Go.Proofs.YtbimfopbilcdgaaDoor
open Go.RowKit Go.WideShapes

end Go.Proofs.YtbimfopbilcdgaaDoor
