/-
  DERIVED. GIVEN WITH THE SEED: THE CARDS: each row of YtenmjofbamihdaaDoorRows.lean that lists a variable, with what it lists TIED to the program's text (the seventh form; the later family's looks); each row that meets fmt, with fmt's text TOLD by the authors' own Lean function (tested against real Go, not proved from fmt's source: count such statements apart). THE CARD IS WHAT COUNTS. Prove the row's statement (the work); the ties are given (YtenmjofbamihdaaDoorTie.lean); close each card by the builder's one call (the guide's Derived/Test/ToyasCard.lean, 'card_holds'). Laid BY PROGRAM, IN A SANDBOX (cutbox-door.mjs). By AI agents, Wed Nov 11 2026. No macro, syntax, notation, axiom, sorry.
-/
import Derived.Test.YtenmjofbamihdaaDoorRows
import GoSem.ClaimSeven
namespace Go.Proofs.YtenmjofbamihdaaDoor
namespace Rows

/-- THE TIED CARD OF 'headracelaw07.SegmentWrites'. -/
def segmentWritesCard : Claim7 := { stood := { row := segmentWritesRow, standIns := [], harness := (true, "9273d867b6e875cbb3231d383740e0a063674b7618e53ff8058912e19fe73d71"), looks := true }, kinds := [], alts := [], laidByText := true, laidKinds := [.data], laidTests := true, laidLooks := .later }
def SegmentWritesCardSaid : Prop := Claim7.holds Tryd.pinned (.plain (OpenSpec.ofChange segmentWritesSpec)) segmentWritesCard

/-- THE TIED CARD OF 'headracelaw07.SegmentChunks'. -/
def segmentChunksCard : Claim7 := { stood := { row := segmentChunksRow, standIns := [], harness := (true, "9273d867b6e875cbb3231d383740e0a063674b7618e53ff8058912e19fe73d71"), looks := true }, kinds := [], alts := [], laidByText := true, laidKinds := [.data], laidTests := true, laidLooks := .later }
def SegmentChunksCardSaid : Prop := Claim7.holds Tryd.pinned (.plain (OpenSpec.ofChange segmentChunksSpec)) segmentChunksCard

/-- THE SECOND FORM's CARD OF 'headracelaw07.SegmentWrites'. -/
def segmentWritesUptoCard : Claim7 := { stood := { row := segmentWritesUptoRow, standIns := [], harness := (true, "9273d867b6e875cbb3231d383740e0a063674b7618e53ff8058912e19fe73d71"), looks := true }, kinds := [], alts := [], laidByText := true, laidKinds := [.data], laidTests := true, laidLooks := .later }
def SegmentWritesUptoCardSaid : Prop := Claim7.holds Tryd.pinned (.plain (OpenSpec.upto segmentWritesSpec)) segmentWritesUptoCard

/-- THE SECOND FORM's CARD OF 'headracelaw07.SegmentChunks'. -/
def segmentChunksUptoCard : Claim7 := { stood := { row := segmentChunksUptoRow, standIns := [], harness := (true, "9273d867b6e875cbb3231d383740e0a063674b7618e53ff8058912e19fe73d71"), looks := true }, kinds := [], alts := [], laidByText := true, laidKinds := [.data], laidTests := true, laidLooks := .later }
def SegmentChunksUptoCardSaid : Prop := Claim7.holds Tryd.pinned (.plain (OpenSpec.upto segmentChunksSpec)) segmentChunksUptoCard
end Rows
end Go.Proofs.YtenmjofbamihdaaDoor
