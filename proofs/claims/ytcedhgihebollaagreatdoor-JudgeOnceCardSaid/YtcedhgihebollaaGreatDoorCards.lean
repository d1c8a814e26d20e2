/-
  DERIVED. GIVEN WITH THE SEED: THE CARDS: each row of YtcedhgihebollaaGreatDoorRows.lean that lists a variable, with what it lists TIED to the program's text (the seventh form; the later family's looks); each row that meets fmt, with fmt's text TOLD by the authors' own Lean function (tested against real Go, not proved from fmt's source: count such statements apart). THE CARD IS WHAT COUNTS. Prove the row's statement (the work); the ties are given (YtcedhgihebollaaGreatDoorTie.lean); close each card by the builder's one call (the guide's Derived/Test/ToyasCard.lean, 'card_holds'). Laid BY PROGRAM, IN A SANDBOX (cutbox-door.mjs). By AI agents, Wed Nov 11 2026. No macro, syntax, notation, axiom, sorry.
-/
import Derived.Test.YtcedhgihebollaaGreatDoorRows
import GoSem.ClaimSeven
namespace Go.Proofs.YtcedhgihebollaaGreatDoor
namespace Rows

/-- THE TIED CARD OF 'duepostlaw15.JudgeOnce'. -/
def judgeOnceCard : Claim7 := { stood := { row := judgeOnceRow, standIns := [], harness := (true, "5180cc2289d846b1649f5bdb1759f3d78f4c23b618e9088562cbf6a7670f70dc"), looks := false }, kinds := [], alts := [], laidByText := true, laidKinds := [.data, .data, .data, .data, .data, .data, .pinned], laidTests := true, laidLooks := .later }
def JudgeOnceCardSaid : Prop := Claim7.holds Tryz.pinned (.plain (OpenSpec.ofChange judgeOnceSpec)) judgeOnceCard

/-- THE TIED CARD OF 'duepostlaw15.JudgeAlarms'. -/
def judgeAlarmsCard : Claim7 := { stood := { row := judgeAlarmsRow, standIns := [], harness := (true, "5180cc2289d846b1649f5bdb1759f3d78f4c23b618e9088562cbf6a7670f70dc"), looks := false }, kinds := [], alts := [], laidByText := true, laidKinds := [.data, .data, .data, .data, .data, .data, .pinned], laidTests := true, laidLooks := .later }
def JudgeAlarmsCardSaid : Prop := Claim7.holds Tryz.pinned (.plain (OpenSpec.ofChange judgeAlarmsSpec)) judgeAlarmsCard

/-- THE TIED CARD OF 'duepostlaw15.JudgeNotify'. -/
def judgeNotifyCard : Claim7 := { stood := { row := judgeNotifyRow, standIns := [], harness := (true, "5180cc2289d846b1649f5bdb1759f3d78f4c23b618e9088562cbf6a7670f70dc"), looks := false }, kinds := [], alts := [], laidByText := true, laidKinds := [.data, .data, .data, .data, .data, .data, .pinned], laidTests := true, laidLooks := .later }
def JudgeNotifyCardSaid : Prop := Claim7.holds Tryz.pinned (.plain (OpenSpec.ofChange judgeNotifySpec)) judgeNotifyCard

/-- THE TIED CARD OF 'duepostlaw15.JudgeOutcomes'. -/
def judgeOutcomesCard : Claim7 := { stood := { row := judgeOutcomesRow, standIns := [], harness := (true, "5180cc2289d846b1649f5bdb1759f3d78f4c23b618e9088562cbf6a7670f70dc"), looks := false }, kinds := [], alts := [], laidByText := true, laidKinds := [.data, .data, .data, .data, .data, .data, .pinned], laidTests := true, laidLooks := .later }
def JudgeOutcomesCardSaid : Prop := Claim7.holds Tryz.pinned (.plain (OpenSpec.ofChange judgeOutcomesSpec)) judgeOutcomesCard

/-- THE SECOND FORM's CARD OF 'duepostlaw15.JudgeOnce'. -/
def judgeOnceUptoCard : Claim7 := { stood := { row := judgeOnceUptoRow, standIns := [], harness := (true, "5180cc2289d846b1649f5bdb1759f3d78f4c23b618e9088562cbf6a7670f70dc"), looks := false }, kinds := [], alts := [], laidByText := true, laidKinds := [.data, .data, .data, .data, .data, .data, .pinned], laidTests := true, laidLooks := .later }
def JudgeOnceUptoCardSaid : Prop := Claim7.holds Tryz.pinned (.plain (OpenSpec.upto judgeOnceSpec)) judgeOnceUptoCard

/-- THE SECOND FORM's CARD OF 'duepostlaw15.JudgeAlarms'. -/
def judgeAlarmsUptoCard : Claim7 := { stood := { row := judgeAlarmsUptoRow, standIns := [], harness := (true, "5180cc2289d846b1649f5bdb1759f3d78f4c23b618e9088562cbf6a7670f70dc"), looks := false }, kinds := [], alts := [], laidByText := true, laidKinds := [.data, .data, .data, .data, .data, .data, .pinned], laidTests := true, laidLooks := .later }
def JudgeAlarmsUptoCardSaid : Prop := Claim7.holds Tryz.pinned (.plain (OpenSpec.upto judgeAlarmsSpec)) judgeAlarmsUptoCard

/-- THE SECOND FORM's CARD OF 'duepostlaw15.JudgeNotify'. -/
def judgeNotifyUptoCard : Claim7 := { stood := { row := judgeNotifyUptoRow, standIns := [], harness := (true, "5180cc2289d846b1649f5bdb1759f3d78f4c23b618e9088562cbf6a7670f70dc"), looks := false }, kinds := [], alts := [], laidByText := true, laidKinds := [.data, .data, .data, .data, .data, .data, .pinned], laidTests := true, laidLooks := .later }
def JudgeNotifyUptoCardSaid : Prop := Claim7.holds Tryz.pinned (.plain (OpenSpec.upto judgeNotifySpec)) judgeNotifyUptoCard

/-- THE SECOND FORM's CARD OF 'duepostlaw15.JudgeOutcomes'. -/
def judgeOutcomesUptoCard : Claim7 := { stood := { row := judgeOutcomesUptoRow, standIns := [], harness := (true, "5180cc2289d846b1649f5bdb1759f3d78f4c23b618e9088562cbf6a7670f70dc"), looks := false }, kinds := [], alts := [], laidByText := true, laidKinds := [.data, .data, .data, .data, .data, .data, .pinned], laidTests := true, laidLooks := .later }
def JudgeOutcomesUptoCardSaid : Prop := Claim7.holds Tryz.pinned (.plain (OpenSpec.upto judgeOutcomesSpec)) judgeOutcomesUptoCard
end Rows
end Go.Proofs.YtcedhgihebollaaGreatDoor
