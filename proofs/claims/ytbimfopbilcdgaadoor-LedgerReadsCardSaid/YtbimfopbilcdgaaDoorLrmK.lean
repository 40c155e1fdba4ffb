/-
  The law LedgerReads: walked, with awake.
-/
import Derived.Test.YtbimfopbilcdgaaDoorLrhK
import Derived.Test.YtbimfopbilcdgaaDoorNsK
set_option linter.unusedSimpArgs false
set_option linter.unusedVariables false
set_option maxRecDepth 8000
namespace Go.Proofs.YtbimfopbilcdgaaDoor
open Go.RowKit Go.WideShapes Col
theorem ledgerReads_any (a : Option Addr) (lp : List Nat) (la ca : Nat) (hla : Hid (la = lp.length)) (hac : la ≤ ca) (hcm : ca ≤ maxLen) (W : World) (HA : Hid (ByAt W a lp)) (HG : Hid (HalvesAt W)) :
    Calls Tryd.prog 3 #[.slice a la ca] W fun e w' => e = .returned (.bool true) ∧ Below W.heap.size W w' :=
  ledgerReads_walk (Lib.hid lawake_any) a lp la ca hla hac hcm W HA HG
end Go.Proofs.YtbimfopbilcdgaaDoor
