/-
  The walk of the law CommandParts: its cases together.
-/
import Derived.Test.YtgkjbminokgddaaGreatDoorMaCmPt
namespace Go.Proofs.YtgkjbminokgddaaGreatDoor
open Go.RowKit
theorem commandParts_x (wh words : Txt) (w : World) (hR : Ready w) (hN : NotR w) (hz1 : wh.length ≤ 140737488355328) (hz2 : words.length ≤ 140737488355328) :
    Calls Tryz.prog 4 #[.string (mkS wh), .string (mkS words)] w fun e w' => e = .returned (.bool true) ∧ Below w.heap.size w w' := by
  cases h2 : ((P.parseV wh).1.2 == [])
  · exact PN.commandParts_N wh words w hR hN hz1 hz2 h2
  · cases h1 : ((P.parseV wh).1.1 == [])
    · exact PH.commandParts_H wh words w hR hN hz1 hz2 h2 h1
    · exact PU.commandParts_U wh words w hR hN hz1 hz2 h2 h1
end Go.Proofs.YtgkjbminokgddaaGreatDoor
