/-
  The walks of param's named, unsaid and ranged.
-/
import Derived.Test.YtpgbojpeffilmaaProg
import Derived.Test.YtpgbojpeffilmaaMaPure
import Derived.Test.YtpgbojpeffilmaaRows
import Derived.Lib.Bytealg
import Derived.Lib.ItoaNum
import Derived.Lib.Atoi
import Derived.Lib.Join
import Derived.WalkKit
import Derived.WalkSpells
import Derived.WalkLawsBesides
import Derived.Deep.QuietTactic
import Derived.BigQuiet
import Derived.StillTailTactics
import Derived.Lib.Hide
import Derived.Maps.AppendAt
import Derived.Deep.AppendLies
import Derived.Deep.RegionWith
import Derived.Deep.RegionHeld3
import Derived.Deep.DeepFit
import Derived.Deep.LoopGhost
import Derived.IntWalk
import Derived.Lib.Strings
import Derived.Lib.IndexBytes
import Derived.Laws.BytesString
import Derived.Shelf.Strings.Search1
import Derived.Shelf.Strings.Search2
import Derived.Shelf.Strings.Search3
import Derived.Shelf.LaysM
import Derived.Shelf.Strings.Shaped
import Derived.Shelf.Strings.BuilderK
import Derived.Lib.FrozenHead2
import Derived.Deep.MidRow
import Derived.Laws.ResultCell
import Derived.Lib.ConvBytes
import Derived.Laws.StructEq
import Derived.RangeFuncNested
import Derived.RangeFuncBound
import Derived.RangeFuncCalls
import Derived.RangeFuncLeaves
import Derived.RangeFuncBox
import Derived.RangeFuncWrites
import Derived.Shelf.Abstract
import Derived.Shelf.RegionOpen
import Derived.OwnWalkIn
import Derived.TacticsInMore
import Derived.LoopNIn
import Derived.LoopIn
import Derived.Lib.LaidTab
import Derived.Lib.AppendIntMem
import Derived.LoopN
import Derived.Maps.OwnIn
import Derived.Laws.EntriesVeiled
namespace Go.Proofs.Ytpgbojpeffilmaa
set_option maxRecDepth 100000
open Go.RowKit
def eqML (a b : ML) : Bool := (a.hs == b.hs && a.hf == b.hf && a.hu == b.hu && a.hb == b.hb && a.hp == b.hp) && a.sz == b.sz && a.fo == b.fo && a.un == b.un && a.by_ == b.by_ && a.pr == b.pr && a.body == b.body && a.ret == b.ret && a.env == b.env && a.mode == b.mode
theorem eqML_iff {a b : ML} : eqML a b = true ↔ a = b := by
  obtain ⟨a1, a2, a3, a4, a5, a6, a7, a8, a9, a10, a11, a12, a13, a14⟩ := a
  obtain ⟨b1, b2, b3, b4, b5, b6, b7, b8, b9, b10, b11, b12, b13, b14⟩ := b
  simp [eqML, and_assoc]
def unV (m : ML) : ML := { zeroM with sz := if m.hs then 0 else m.sz, fo := if m.hf then 0 else m.fo, un := if m.hu then 0 else m.un, by_ := if m.hb then 0 else m.by_, pr := if m.hp then 0 else m.pr }
theorem unV_zero (m : ML) : eqML (unV m) zeroM = unB m := by
  obtain ⟨hs, hf, hu, hb, hp, sz, fo, un, by_, pr, body, ret, env, mode⟩ := m
  unfold eqML unV unB zeroM
  cases hs <;> cases hf <;> cases hu <;> cases hb <;> cases hp <;> simp
end Go.Proofs.Ytpgbojpeffilmaa
