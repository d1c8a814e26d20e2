/-
  DERIVED. GIVEN WITH THE SEED: THE CARDS: each row of YtgkjbminokgddaaGreatDoorRows.lean that lists a variable, with what it lists TIED to the program's text (the seventh form; the later family's looks); each row that meets fmt, with fmt's text TOLD by the authors' own Lean function (tested against real Go, not proved from fmt's source: count such statements apart). THE CARD IS WHAT COUNTS. Prove the row's statement (the work); the ties are given (YtgkjbminokgddaaGreatDoorTie.lean); close each card by the builder's one call (the guide's Derived/Test/ToyasCard.lean, 'card_holds'). Laid BY PROGRAM, IN A SANDBOX (cutbox-door.mjs). By AI agents, Wed Nov 11 2026. No macro, syntax, notation, axiom, sorry.
-/
import Derived.Test.YtgkjbminokgddaaGreatDoorRows
import GoSem.ClaimSeven
namespace Go.Proofs.YtgkjbminokgddaaGreatDoor
namespace Rows

/-- THE TIED CARD OF 'duepostlaw06.CommandLetters'. -/
def commandLettersCard : Claim7 := { stood := { row := commandLettersRow, standIns := [], harness := (true, "4641b0d2654ac41c9d629a86b858adc09b51755f30fb3706e79ad984ba98cbe3"), looks := true }, kinds := [], alts := [], laidByText := true, laidKinds := [.data, .data, .data, .data, .sentinel, .sentinel, .data, .data, .pinned], laidTests := true, laidLooks := .later }
def CommandLettersCardSaid : Prop := Claim7.holds Tryz.pinned (.plain (OpenSpec.ofChange commandLettersSpec)) commandLettersCard

/-- THE TIED CARD OF 'duepostlaw06.CommandParts'. -/
def commandPartsCard : Claim7 := { stood := { row := commandPartsRow, standIns := [], harness := (true, "4641b0d2654ac41c9d629a86b858adc09b51755f30fb3706e79ad984ba98cbe3"), looks := true }, kinds := [], alts := [], laidByText := true, laidKinds := [.data, .data, .data, .data, .sentinel, .sentinel, .data, .data, .pinned], laidTests := true, laidLooks := .later }
def CommandPartsCardSaid : Prop := Claim7.holds Tryz.pinned (.plain (OpenSpec.ofChange commandPartsSpec)) commandPartsCard

/-- THE SECOND FORM's CARD OF 'duepostlaw06.CommandLetters'. -/
def commandLettersUptoCard : Claim7 := { stood := { row := commandLettersUptoRow, standIns := [], harness := (true, "4641b0d2654ac41c9d629a86b858adc09b51755f30fb3706e79ad984ba98cbe3"), looks := true }, kinds := [], alts := [], laidByText := true, laidKinds := [.data, .data, .data, .data, .sentinel, .sentinel, .data, .data, .pinned], laidTests := true, laidLooks := .later }
def CommandLettersUptoCardSaid : Prop := Claim7.holds Tryz.pinned (.plain (OpenSpec.upto commandLettersSpec)) commandLettersUptoCard

/-- THE SECOND FORM's CARD OF 'duepostlaw06.CommandParts'. -/
def commandPartsUptoCard : Claim7 := { stood := { row := commandPartsUptoRow, standIns := [], harness := (true, "4641b0d2654ac41c9d629a86b858adc09b51755f30fb3706e79ad984ba98cbe3"), looks := true }, kinds := [], alts := [], laidByText := true, laidKinds := [.data, .data, .data, .data, .sentinel, .sentinel, .data, .data, .pinned], laidTests := true, laidLooks := .later }
def CommandPartsUptoCardSaid : Prop := Claim7.holds Tryz.pinned (.plain (OpenSpec.upto commandPartsSpec)) commandPartsUptoCard
end Rows
end Go.Proofs.YtgkjbminokgddaaGreatDoor
