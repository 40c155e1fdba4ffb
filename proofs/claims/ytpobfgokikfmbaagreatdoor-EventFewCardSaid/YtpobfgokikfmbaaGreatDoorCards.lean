/-
  DERIVED. GIVEN WITH THE SEED: THE CARDS: each row of YtpobfgokikfmbaaGreatDoorRows.lean that lists a variable, with what it lists TIED to the program's text (the seventh form; the later family's looks); each row that meets fmt, with fmt's text TOLD by the authors' own Lean function (tested against real Go, not proved from fmt's source: count such statements apart). THE CARD IS WHAT COUNTS. Prove the row's statement (the work); the ties are given (YtpobfgokikfmbaaGreatDoorTie.lean); close each card by the builder's one call (the guide's Derived/Test/ToyasCard.lean, 'card_holds'). Laid BY PROGRAM, IN A SANDBOX (cutbox-door.mjs). By AI agents, Wed Nov 11 2026. No macro, syntax, notation, axiom, sorry.
-/
import Derived.Test.YtpobfgokikfmbaaGreatDoorRows
import GoSem.ClaimSeven
namespace Go.Proofs.YtpobfgokikfmbaaGreatDoor
namespace Rows

/-- THE TIED CARD OF 'headracelaw06.EventBack'. -/
def eventBackCard : Claim7 := { stood := { row := eventBackRow, standIns := [], harness := (true, "25b2483aad7abcdb5232dda911f39fe13ab502a2ff1034f6be03547a8c3385c1"), looks := true }, kinds := [], alts := [], laidByText := true, laidKinds := [.data], laidTests := true, laidLooks := .later }
def EventBackCardSaid : Prop := Claim7.holds Tryz.pinned (.plain (OpenSpec.ofChange eventBackSpec)) eventBackCard

/-- THE TIED CARD OF 'headracelaw06.EventFew'. -/
def eventFewCard : Claim7 := { stood := { row := eventFewRow, standIns := [], harness := (true, "25b2483aad7abcdb5232dda911f39fe13ab502a2ff1034f6be03547a8c3385c1"), looks := true }, kinds := [], alts := [], laidByText := true, laidKinds := [.data], laidTests := true, laidLooks := .later }
def EventFewCardSaid : Prop := Claim7.holds Tryz.pinned (.plain (OpenSpec.ofChange eventFewSpec)) eventFewCard

/-- THE SECOND FORM's CARD OF 'headracelaw06.EventBack'. -/
def eventBackUptoCard : Claim7 := { stood := { row := eventBackUptoRow, standIns := [], harness := (true, "25b2483aad7abcdb5232dda911f39fe13ab502a2ff1034f6be03547a8c3385c1"), looks := true }, kinds := [], alts := [], laidByText := true, laidKinds := [.data], laidTests := true, laidLooks := .later }
def EventBackUptoCardSaid : Prop := Claim7.holds Tryz.pinned (.plain (OpenSpec.upto eventBackSpec)) eventBackUptoCard

/-- THE SECOND FORM's CARD OF 'headracelaw06.EventFew'. -/
def eventFewUptoCard : Claim7 := { stood := { row := eventFewUptoRow, standIns := [], harness := (true, "25b2483aad7abcdb5232dda911f39fe13ab502a2ff1034f6be03547a8c3385c1"), looks := true }, kinds := [], alts := [], laidByText := true, laidKinds := [.data], laidTests := true, laidLooks := .later }
def EventFewUptoCardSaid : Prop := Claim7.holds Tryz.pinned (.plain (OpenSpec.upto eventFewSpec)) eventFewUptoCard
end Rows
end Go.Proofs.YtpobfgokikfmbaaGreatDoor
