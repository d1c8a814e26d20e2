/-
  CmPrP · CmPrM · CmPrR, in one text.
-/
import Derived.Test.YtpgbojpeffilmaaProg
import Derived.Test.YtpgbojpeffilmaaCmMath
import Derived.Test.YtpgbojpeffilmaaMaBuild
import Derived.Test.YtpgbojpeffilmaaMaPure
import Derived.Test.YtpgbojpeffilmaaPaBkS
import Derived.Test.YtpgbojpeffilmaaPtMath
import Derived.Test.YtpgbojpeffilmaaRows
import Derived.Lib.Bytealg
import Derived.Lib.ItoaNum
import Derived.Lib.Atoi
import Derived.Lib.Join
import Derived.Lib.Strings
import Derived.Lib.TrimByte
import Derived.WalkKit
import Derived.WalkSpells
import Derived.WalkLawsBesides
import Derived.Deep.QuietTactic
import Derived.BigQuiet
import Derived.StillTailTactics
import Derived.Lib.Hide
import Derived.Maps.AppendAt
import Derived.Deep.AppendLies
import Derived.Deep.RegionWith
import Derived.Deep.RegionHeld3
import Derived.Deep.DeepFit
import Derived.Deep.LoopGhost
import Derived.IntWalk
import Derived.Lib.IndexBytes
import Derived.Laws.BytesString
import Derived.Shelf.Strings.Search1
import Derived.Shelf.Strings.Search2
import Derived.Shelf.Strings.Search3
import Derived.Shelf.LaysM
import Derived.Shelf.Strings.Shaped
import Derived.Shelf.Strings.BuilderK
import Derived.Lib.FrozenHead2
import Derived.Deep.MidRow
import Derived.Laws.ResultCell
import Derived.Lib.ConvBytes
import Derived.Laws.StructEq
import Derived.RangeFuncNested
import Derived.RangeFuncBound
import Derived.RangeFuncCalls
import Derived.RangeFuncLeaves
import Derived.RangeFuncBox
import Derived.RangeFuncWrites
import Derived.Shelf.Abstract
import Derived.Shelf.RegionOpen
import Derived.OwnWalkIn
import Derived.TacticsInMore
import Derived.LoopNIn
import Derived.LoopIn
import Derived.Lib.LaidTab
import Derived.Lib.AppendIntMem
import Derived.LoopN
import Derived.Maps.OwnIn
import Derived.Laws.EntriesVeiled
import Derived.Lib.SmallJoins
/-
  The walk of command's printPath.
-/
namespace Go.Proofs.Ytpgbojpeffilmaa
set_option maxRecDepth 100000
open Go.RowKit Go.Shelf
theorem locL_len (l : Txt) : (P.locL l).length ≤ 2 * l.length + 2 := by
  have hq : ∀ m : Txt, (P.quoL m).length ≤ 2 * m.length := by
    intro m
    induction m with
    | nil => exact Nat.le_refl _
    | cons b t ih =>
      unfold P.quoL at ih ⊢
      rw [List.flatMap_cons, List.length_append, List.length_cons]
      have : (P.quoB b).length ≤ 2 := by unfold P.quoB; split <;> simp
      omega
  unfold P.locL
  split
  · omega
  · have := hq l
    simp only [List.length_append, List.length_cons, List.length_nil]
    omega
theorem textL_len (p : P.Pth) : (P.textL p).length ≤ 2 * p.1.length + p.2.length + 5 := by
  have := locL_len p.1
  unfold P.textL
  split <;> simp only [List.length_append, List.length_cons, List.length_nil] <;> omega
/-- What printPath answers. -/
def ppE (p : P.Pth) (wr : Int) : Int := if P.rightE p = 0 then wr else P.rightE p
noncomputable def ppV (hd : Txt) (p : P.Pth) (ws : Txt) (wr : Int) : Txt := if ppE p wr = 0 then wdsV hd p ws else []
def PpPost (hd : Txt) (p : P.Pth) (ws : Txt) (wr : Int) (w : World) (e : Ending) (w' : World) : Prop := e = .returned (.tuple #[.string (mkS (ppV hd p ws wr)), .int .i64 (ppE p wr)]) ∧ Below w.heap.size w w'
theorem pp_no {hd : Txt} {p : P.Pth} {ws : Txt} {wr n : Int} {w w' : World} (h : ppE p wr = n) (hn : n ≠ 0) (hb : Below w.heap.size w w') : PpPost hd p ws wr w (.returned (.tuple #[.string { data := #[] }, .int .i64 n])) w' := by
  unfold PpPost; rw [ppV, h, if_neg hn]; exact ⟨rfl, hb⟩
theorem pp_yes {hd : Txt} {p : P.Pth} {ws : Txt} {wr : Int} {w w' : World} {s : ByteArray} (h : ppE p wr = 0) (hs : s = mkS (wdsV hd p ws)) (hb : Below w.heap.size w w') : PpPost hd p ws wr w (.returned (.tuple #[.string s, .int .i64 0])) w' := by
  unfold PpPost; rw [ppV, h, if_pos rfl, hs]; exact ⟨rfl, hb⟩
end Go.Proofs.Ytpgbojpeffilmaa
/-
  The walk of command's printMail.
-/
namespace Go.Proofs.Ytpgbojpeffilmaa
set_option maxRecDepth 100000
open Go.RowKit Go.Shelf
theorem prMail_len {c : CL} : (printM c.m).length ≤ 1000000 := by
  by_cases h : rightM c.m = 0
  · exact printM_len h
  · unfold printM; rw [if_neg h]; exact Nat.zero_le _
end Go.Proofs.Ytpgbojpeffilmaa
/-
  The walk of command's printRcpt.
-/
namespace Go.Proofs.Ytpgbojpeffilmaa
set_option maxRecDepth 100000
open Go.RowKit Go.Shelf
theorem prRcpt_len {c : CL} : (printR c.r).length ≤ 1000000 := by
  by_cases h : rightR c.r = 0
  · exact printR_len h
  · unfold printR; rw [if_neg h]; exact Nat.zero_le _
end Go.Proofs.Ytpgbojpeffilmaa
