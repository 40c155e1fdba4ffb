/-
  DERIVED. GIVEN WITH THE SEED: THE CARDS: each row of YtifabkbdiiolfaaDoorRows.lean that lists a variable, with what it lists TIED to the program's text (the seventh form; the later family's looks); each row that meets fmt, with fmt's text TOLD by the authors' own Lean function (tested against real Go, not proved from fmt's source: count such statements apart). THE CARD IS WHAT COUNTS. Prove the row's statement (the work); the ties are given (YtifabkbdiiolfaaDoorTie.lean); close each card by the builder's one call (the guide's Derived/Test/ToyasCard.lean, 'card_holds'). Laid BY PROGRAM, IN A SANDBOX (cutbox-door.mjs). By AI agents, Wed Nov 11 2026. No macro, syntax, notation, axiom, sorry.
-/
import Derived.Test.YtifabkbdiiolfaaDoorRows
import GoSem.ClaimSeven
namespace Go.Proofs.YtifabkbdiiolfaaDoor
namespace Rows

/-- THE TIED CARD OF 'headracelaw07.SegmentWrites'. -/
def segmentWritesCard : Claim7 := { stood := { row := segmentWritesRow, standIns := [], harness := (true, "6dc3ba4e15a78c9547840c3f3f619ae80d2d5e73fe239b722e1a69736dc19496"), looks := true }, kinds := [], alts := [], laidByText := true, laidKinds := [.data], laidTests := true, laidLooks := .later }
def SegmentWritesCardSaid : Prop := Claim7.holds Tryd.pinned (.plain (OpenSpec.ofChange segmentWritesSpec)) segmentWritesCard

/-- THE SECOND FORM's CARD OF 'headracelaw07.SegmentWrites'. -/
def segmentWritesUptoCard : Claim7 := { stood := { row := segmentWritesUptoRow, standIns := [], harness := (true, "6dc3ba4e15a78c9547840c3f3f619ae80d2d5e73fe239b722e1a69736dc19496"), looks := true }, kinds := [], alts := [], laidByText := true, laidKinds := [.data], laidTests := true, laidLooks := .later }
def SegmentWritesUptoCardSaid : Prop := Claim7.holds Tryd.pinned (.plain (OpenSpec.upto segmentWritesSpec)) segmentWritesUptoCard
end Rows
end Go.Proofs.YtifabkbdiiolfaaDoor
