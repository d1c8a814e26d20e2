/-
  DERIVED. GIVEN WITH THE SEED: THE CARDS: each row of YtbecdncnidcmdaaGreatDoorRows.lean that lists a variable, with what it lists TIED to the program's text (the seventh form; the later family's looks); each row that meets fmt, with fmt's text TOLD by the authors' own Lean function (tested against real Go, not proved from fmt's source: count such statements apart). THE CARD IS WHAT COUNTS. Prove the row's statement (the work); the ties are given (YtbecdncnidcmdaaGreatDoorTie.lean); close each card by the builder's one call (the guide's Derived/Test/ToyasCard.lean, 'card_holds'). Laid BY PROGRAM, IN A SANDBOX (cutbox-door.mjs). By AI agents, Wed Nov 11 2026. No macro, syntax, notation, axiom, sorry.
-/
import Derived.Test.YtbecdncnidcmdaaGreatDoorRows
import GoSem.ClaimSeven
namespace Go.Proofs.YtbecdncnidcmdaaGreatDoor
namespace Rows

/-- THE TIED CARD OF 'duepostlaw10.EnvelopeStates'. -/
def envelopeStatesCard : Claim7 := { stood := { row := envelopeStatesRow, standIns := [], harness := (true, "15e9d4d9e4d260ee5a315d1ba134e992e85f7c22bf9ca5b537a3e504f2b9e640"), looks := true }, kinds := [], alts := [], laidByText := true, laidKinds := [.data, .data, .data, .data, .sentinel, .sentinel, .data, .data, .pinned], laidTests := true, laidLooks := .later }
def EnvelopeStatesCardSaid : Prop := Claim7.holds Tryz.pinned (.plain (OpenSpec.ofChange envelopeStatesSpec)) envelopeStatesCard

/-- THE TIED CARD OF 'duepostlaw11.QueueOpens'. -/
def queueOpensCard : Claim7 := { stood := { row := queueOpensRow, standIns := [], harness := (true, "15e9d4d9e4d260ee5a315d1ba134e992e85f7c22bf9ca5b537a3e504f2b9e640"), looks := true }, kinds := [], alts := [], laidByText := true, laidKinds := [.data, .data, .data, .data, .sentinel, .sentinel, .data, .data, .pinned], laidTests := true, laidLooks := .later }
def QueueOpensCardSaid : Prop := Claim7.holds Tryz.pinned (.plain (OpenSpec.ofChange queueOpensSpec)) queueOpensCard

/-- THE TIED CARD OF 'duepostlaw11.QueueFull'. -/
def queueFullCard : Claim7 := { stood := { row := queueFullRow, standIns := [], harness := (true, "15e9d4d9e4d260ee5a315d1ba134e992e85f7c22bf9ca5b537a3e504f2b9e640"), looks := true }, kinds := [], alts := [], laidByText := true, laidKinds := [.data, .data, .data, .data, .sentinel, .sentinel, .data, .data, .pinned], laidTests := true, laidLooks := .later }
def QueueFullCardSaid : Prop := Claim7.holds Tryz.pinned (.plain (OpenSpec.ofChange queueFullSpec)) queueFullCard

/-- THE TIED CARD OF 'duepostlaw11.QueueMarks'. -/
def queueMarksCard : Claim7 := { stood := { row := queueMarksRow, standIns := [], harness := (true, "15e9d4d9e4d260ee5a315d1ba134e992e85f7c22bf9ca5b537a3e504f2b9e640"), looks := true }, kinds := [], alts := [], laidByText := true, laidKinds := [.data, .data, .data, .data, .sentinel, .sentinel, .data, .data, .pinned], laidTests := true, laidLooks := .later }
def QueueMarksCardSaid : Prop := Claim7.holds Tryz.pinned (.plain (OpenSpec.ofChange queueMarksSpec)) queueMarksCard

/-- THE TIED CARD OF 'duepostlaw11.QueueNumbers'. -/
def queueNumbersCard : Claim7 := { stood := { row := queueNumbersRow, standIns := [], harness := (true, "15e9d4d9e4d260ee5a315d1ba134e992e85f7c22bf9ca5b537a3e504f2b9e640"), looks := true }, kinds := [], alts := [], laidByText := true, laidKinds := [.data, .data, .data, .data, .sentinel, .sentinel, .data, .data, .pinned], laidTests := true, laidLooks := .later }
def QueueNumbersCardSaid : Prop := Claim7.holds Tryz.pinned (.plain (OpenSpec.ofChange queueNumbersSpec)) queueNumbersCard

/-- THE SECOND FORM's CARD OF 'duepostlaw10.EnvelopeStates'. -/
def envelopeStatesUptoCard : Claim7 := { stood := { row := envelopeStatesUptoRow, standIns := [], harness := (true, "15e9d4d9e4d260ee5a315d1ba134e992e85f7c22bf9ca5b537a3e504f2b9e640"), looks := true }, kinds := [], alts := [], laidByText := true, laidKinds := [.data, .data, .data, .data, .sentinel, .sentinel, .data, .data, .pinned], laidTests := true, laidLooks := .later }
def EnvelopeStatesUptoCardSaid : Prop := Claim7.holds Tryz.pinned (.plain (OpenSpec.upto envelopeStatesSpec)) envelopeStatesUptoCard

/-- THE SECOND FORM's CARD OF 'duepostlaw11.QueueOpens'. -/
def queueOpensUptoCard : Claim7 := { stood := { row := queueOpensUptoRow, standIns := [], harness := (true, "15e9d4d9e4d260ee5a315d1ba134e992e85f7c22bf9ca5b537a3e504f2b9e640"), looks := true }, kinds := [], alts := [], laidByText := true, laidKinds := [.data, .data, .data, .data, .sentinel, .sentinel, .data, .data, .pinned], laidTests := true, laidLooks := .later }
def QueueOpensUptoCardSaid : Prop := Claim7.holds Tryz.pinned (.plain (OpenSpec.upto queueOpensSpec)) queueOpensUptoCard

/-- THE SECOND FORM's CARD OF 'duepostlaw11.QueueFull'. -/
def queueFullUptoCard : Claim7 := { stood := { row := queueFullUptoRow, standIns := [], harness := (true, "15e9d4d9e4d260ee5a315d1ba134e992e85f7c22bf9ca5b537a3e504f2b9e640"), looks := true }, kinds := [], alts := [], laidByText := true, laidKinds := [.data, .data, .data, .data, .sentinel, .sentinel, .data, .data, .pinned], laidTests := true, laidLooks := .later }
def QueueFullUptoCardSaid : Prop := Claim7.holds Tryz.pinned (.plain (OpenSpec.upto queueFullSpec)) queueFullUptoCard

/-- THE SECOND FORM's CARD OF 'duepostlaw11.QueueMarks'. -/
def queueMarksUptoCard : Claim7 := { stood := { row := queueMarksUptoRow, standIns := [], harness := (true, "15e9d4d9e4d260ee5a315d1ba134e992e85f7c22bf9ca5b537a3e504f2b9e640"), looks := true }, kinds := [], alts := [], laidByText := true, laidKinds := [.data, .data, .data, .data, .sentinel, .sentinel, .data, .data, .pinned], laidTests := true, laidLooks := .later }
def QueueMarksUptoCardSaid : Prop := Claim7.holds Tryz.pinned (.plain (OpenSpec.upto queueMarksSpec)) queueMarksUptoCard

/-- THE SECOND FORM's CARD OF 'duepostlaw11.QueueNumbers'. -/
def queueNumbersUptoCard : Claim7 := { stood := { row := queueNumbersUptoRow, standIns := [], harness := (true, "15e9d4d9e4d260ee5a315d1ba134e992e85f7c22bf9ca5b537a3e504f2b9e640"), looks := true }, kinds := [], alts := [], laidByText := true, laidKinds := [.data, .data, .data, .data, .sentinel, .sentinel, .data, .data, .pinned], laidTests := true, laidLooks := .later }
def QueueNumbersUptoCardSaid : Prop := Claim7.holds Tryz.pinned (.plain (OpenSpec.upto queueNumbersSpec)) queueNumbersUptoCard
end Rows
end Go.Proofs.YtbecdncnidcmdaaGreatDoor
