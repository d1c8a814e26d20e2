/-
  DERIVED. GIVEN WITH THE SEED: THE CARDS: each row of YtojpkbonioglbaaGreatDoorRows.lean that lists a variable, with what it lists TIED to the program's text (the seventh form; the later family's looks); each row that meets fmt, with fmt's text TOLD by the authors' own Lean function (tested against real Go, not proved from fmt's source: count such statements apart). THE CARD IS WHAT COUNTS. Prove the row's statement (the work); the ties are given (YtojpkbonioglbaaGreatDoorTie.lean); close each card by the builder's one call (the guide's Derived/Test/ToyasCard.lean, 'card_holds'). Laid BY PROGRAM, IN A SANDBOX (cutbox-door.mjs). By AI agents, Wed Nov 11 2026. No macro, syntax, notation, axiom, sorry.
-/
import Derived.Test.YtojpkbonioglbaaGreatDoorRows
import GoSem.ClaimSeven
namespace Go.Proofs.YtojpkbonioglbaaGreatDoor
namespace Rows

/-- THE TIED CARD OF 'duepostlaw16.ReportBounds'. -/
def reportBoundsCard : Claim7 := { stood := { row := reportBoundsRow, standIns := [], harness := (true, "e8a57d121f75c0fc46d44958ca79c04a79072704500414cd9e11d4c3180ddeec"), looks := false }, kinds := [], alts := [], laidByText := true, laidKinds := [.data, .data, .data, .data, .data, .data, .pinned, .pinned], laidTests := true, laidLooks := .later }
def ReportBoundsCardSaid : Prop := Claim7.holds Tryz.pinned (.plain (OpenSpec.ofChange reportBoundsSpec)) reportBoundsCard

/-- THE TIED CARD OF 'duepostlaw16.ReportNull'. -/
def reportNullCard : Claim7 := { stood := { row := reportNullRow, standIns := [], harness := (true, "e8a57d121f75c0fc46d44958ca79c04a79072704500414cd9e11d4c3180ddeec"), looks := false }, kinds := [], alts := [], laidByText := true, laidKinds := [.data, .data, .data, .data, .data, .data, .pinned, .pinned], laidTests := true, laidLooks := .later }
def ReportNullCardSaid : Prop := Claim7.holds Tryz.pinned (.plain (OpenSpec.ofChange reportNullSpec)) reportNullCard

/-- THE TIED CARD OF 'duepostlaw16.ReportParts'. -/
def reportPartsCard : Claim7 := { stood := { row := reportPartsRow, standIns := [], harness := (true, "e8a57d121f75c0fc46d44958ca79c04a79072704500414cd9e11d4c3180ddeec"), looks := false }, kinds := [], alts := [], laidByText := true, laidKinds := [.data, .data, .data, .data, .data, .data, .pinned, .pinned], laidTests := true, laidLooks := .later }
def ReportPartsCardSaid : Prop := Claim7.holds Tryz.pinned (.plain (OpenSpec.ofChange reportPartsSpec)) reportPartsCard

/-- THE SECOND FORM's CARD OF 'duepostlaw16.ReportBounds'. -/
def reportBoundsUptoCard : Claim7 := { stood := { row := reportBoundsUptoRow, standIns := [], harness := (true, "e8a57d121f75c0fc46d44958ca79c04a79072704500414cd9e11d4c3180ddeec"), looks := false }, kinds := [], alts := [], laidByText := true, laidKinds := [.data, .data, .data, .data, .data, .data, .pinned, .pinned], laidTests := true, laidLooks := .later }
def ReportBoundsUptoCardSaid : Prop := Claim7.holds Tryz.pinned (.plain (OpenSpec.upto reportBoundsSpec)) reportBoundsUptoCard

/-- THE SECOND FORM's CARD OF 'duepostlaw16.ReportNull'. -/
def reportNullUptoCard : Claim7 := { stood := { row := reportNullUptoRow, standIns := [], harness := (true, "e8a57d121f75c0fc46d44958ca79c04a79072704500414cd9e11d4c3180ddeec"), looks := false }, kinds := [], alts := [], laidByText := true, laidKinds := [.data, .data, .data, .data, .data, .data, .pinned, .pinned], laidTests := true, laidLooks := .later }
def ReportNullUptoCardSaid : Prop := Claim7.holds Tryz.pinned (.plain (OpenSpec.upto reportNullSpec)) reportNullUptoCard

/-- THE SECOND FORM's CARD OF 'duepostlaw16.ReportParts'. -/
def reportPartsUptoCard : Claim7 := { stood := { row := reportPartsUptoRow, standIns := [], harness := (true, "e8a57d121f75c0fc46d44958ca79c04a79072704500414cd9e11d4c3180ddeec"), looks := false }, kinds := [], alts := [], laidByText := true, laidKinds := [.data, .data, .data, .data, .data, .data, .pinned, .pinned], laidTests := true, laidLooks := .later }
def ReportPartsUptoCardSaid : Prop := Claim7.holds Tryz.pinned (.plain (OpenSpec.upto reportPartsSpec)) reportPartsUptoCard
end Rows
end Go.Proofs.YtojpkbonioglbaaGreatDoor
