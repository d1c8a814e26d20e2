/-
  DERIVED. GIVEN WITH THE SEED: THE CARDS: each row of YtnjlioojpddleaaGreatDoorRows.lean that lists a variable, with what it lists TIED to the program's text (the seventh form; the later family's looks); each row that meets fmt, with fmt's text TOLD by the authors' own Lean function (tested against real Go, not proved from fmt's source: count such statements apart). THE CARD IS WHAT COUNTS. Prove the row's statement (the work); the ties are given (YtnjlioojpddleaaGreatDoorTie.lean); close each card by the builder's one call (the guide's Derived/Test/ToyasCard.lean, 'card_holds'). Laid BY PROGRAM, IN A SANDBOX (cutbox-door.mjs). By AI agents, Wed Nov 11 2026. No macro, syntax, notation, axiom, sorry.
-/
import Derived.Test.YtnjlioojpddleaaGreatDoorRows
import GoSem.ClaimSeven
namespace Go.Proofs.YtnjlioojpddleaaGreatDoor
namespace Rows

/-- THE TIED CARD OF 'duepostlaw10.EnvelopeStates'. -/
def envelopeStatesCard : Claim7 := { stood := { row := envelopeStatesRow, standIns := [], harness := (true, "d444bf4fce7c6706f5eca83b47f69f86b7d1a0226c15b4071fca288cf4b25398"), looks := true }, kinds := [], alts := [], laidByText := true, laidKinds := [.data, .data, .data, .data, .sentinel, .sentinel, .data, .data, .pinned], laidTests := true, laidLooks := .later }
def EnvelopeStatesCardSaid : Prop := Claim7.holds Tryz.pinned (.plain (OpenSpec.ofChange envelopeStatesSpec)) envelopeStatesCard

/-- THE TIED CARD OF 'duepostlaw10.EnvelopeBack'. -/
def envelopeBackCard : Claim7 := { stood := { row := envelopeBackRow, standIns := [], harness := (true, "d444bf4fce7c6706f5eca83b47f69f86b7d1a0226c15b4071fca288cf4b25398"), looks := true }, kinds := [], alts := [], laidByText := true, laidKinds := [.data, .data, .data, .data, .sentinel, .sentinel, .data, .data, .pinned], laidTests := true, laidLooks := .later }
def EnvelopeBackCardSaid : Prop := Claim7.holds Tryz.pinned (.plain (OpenSpec.ofChange envelopeBackSpec)) envelopeBackCard

/-- THE TIED CARD OF 'duepostlaw10.EnvelopeTurned'. -/
def envelopeTurnedCard : Claim7 := { stood := { row := envelopeTurnedRow, standIns := [], harness := (true, "d444bf4fce7c6706f5eca83b47f69f86b7d1a0226c15b4071fca288cf4b25398"), looks := true }, kinds := [], alts := [], laidByText := true, laidKinds := [.data, .data, .data, .data, .sentinel, .sentinel, .data, .data, .pinned], laidTests := true, laidLooks := .later }
def EnvelopeTurnedCardSaid : Prop := Claim7.holds Tryz.pinned (.plain (OpenSpec.ofChange envelopeTurnedSpec)) envelopeTurnedCard

/-- THE TIED CARD OF 'duepostlaw10.EnvelopeLimits'. -/
def envelopeLimitsCard : Claim7 := { stood := { row := envelopeLimitsRow, standIns := [], harness := (true, "d444bf4fce7c6706f5eca83b47f69f86b7d1a0226c15b4071fca288cf4b25398"), looks := true }, kinds := [], alts := [], laidByText := true, laidKinds := [.data, .data, .data, .data, .sentinel, .sentinel, .data, .data, .pinned], laidTests := true, laidLooks := .later }
def EnvelopeLimitsCardSaid : Prop := Claim7.holds Tryz.pinned (.plain (OpenSpec.ofChange envelopeLimitsSpec)) envelopeLimitsCard

/-- THE SECOND FORM's CARD OF 'duepostlaw10.EnvelopeStates'. -/
def envelopeStatesUptoCard : Claim7 := { stood := { row := envelopeStatesUptoRow, standIns := [], harness := (true, "d444bf4fce7c6706f5eca83b47f69f86b7d1a0226c15b4071fca288cf4b25398"), looks := true }, kinds := [], alts := [], laidByText := true, laidKinds := [.data, .data, .data, .data, .sentinel, .sentinel, .data, .data, .pinned], laidTests := true, laidLooks := .later }
def EnvelopeStatesUptoCardSaid : Prop := Claim7.holds Tryz.pinned (.plain (OpenSpec.upto envelopeStatesSpec)) envelopeStatesUptoCard

/-- THE SECOND FORM's CARD OF 'duepostlaw10.EnvelopeBack'. -/
def envelopeBackUptoCard : Claim7 := { stood := { row := envelopeBackUptoRow, standIns := [], harness := (true, "d444bf4fce7c6706f5eca83b47f69f86b7d1a0226c15b4071fca288cf4b25398"), looks := true }, kinds := [], alts := [], laidByText := true, laidKinds := [.data, .data, .data, .data, .sentinel, .sentinel, .data, .data, .pinned], laidTests := true, laidLooks := .later }
def EnvelopeBackUptoCardSaid : Prop := Claim7.holds Tryz.pinned (.plain (OpenSpec.upto envelopeBackSpec)) envelopeBackUptoCard

/-- THE SECOND FORM's CARD OF 'duepostlaw10.EnvelopeTurned'. -/
def envelopeTurnedUptoCard : Claim7 := { stood := { row := envelopeTurnedUptoRow, standIns := [], harness := (true, "d444bf4fce7c6706f5eca83b47f69f86b7d1a0226c15b4071fca288cf4b25398"), looks := true }, kinds := [], alts := [], laidByText := true, laidKinds := [.data, .data, .data, .data, .sentinel, .sentinel, .data, .data, .pinned], laidTests := true, laidLooks := .later }
def EnvelopeTurnedUptoCardSaid : Prop := Claim7.holds Tryz.pinned (.plain (OpenSpec.upto envelopeTurnedSpec)) envelopeTurnedUptoCard

/-- THE SECOND FORM's CARD OF 'duepostlaw10.EnvelopeLimits'. -/
def envelopeLimitsUptoCard : Claim7 := { stood := { row := envelopeLimitsUptoRow, standIns := [], harness := (true, "d444bf4fce7c6706f5eca83b47f69f86b7d1a0226c15b4071fca288cf4b25398"), looks := true }, kinds := [], alts := [], laidByText := true, laidKinds := [.data, .data, .data, .data, .sentinel, .sentinel, .data, .data, .pinned], laidTests := true, laidLooks := .later }
def EnvelopeLimitsUptoCardSaid : Prop := Claim7.holds Tryz.pinned (.plain (OpenSpec.upto envelopeLimitsSpec)) envelopeLimitsUptoCard
end Rows
end Go.Proofs.YtnjlioojpddleaaGreatDoor
