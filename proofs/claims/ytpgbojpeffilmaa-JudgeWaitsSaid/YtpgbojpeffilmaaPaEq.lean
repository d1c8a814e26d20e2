/-
  Equality of what is said of a recipient, and of which numbers are said.
-/
import Derived.Test.YtpgbojpeffilmaaProg
import Derived.Test.YtpgbojpeffilmaaMaBuild
import Derived.Test.YtpgbojpeffilmaaMaPure
import Derived.Test.YtpgbojpeffilmaaPaRight
import Derived.Test.YtpgbojpeffilmaaRows
import Derived.Lib.Bytealg
import Derived.Lib.ItoaNum
import Derived.Lib.Atoi
import Derived.Lib.Join
import Derived.WalkKit
import Derived.WalkSpells
import Derived.WalkLawsBesides
import Derived.Deep.QuietTactic
import Derived.BigQuiet
import Derived.StillTailTactics
import Derived.Lib.Hide
import Derived.Maps.AppendAt
import Derived.Deep.AppendLies
import Derived.Deep.RegionWith
import Derived.Deep.RegionHeld3
import Derived.Deep.DeepFit
import Derived.Deep.LoopGhost
import Derived.IntWalk
import Derived.Lib.Strings
import Derived.Lib.IndexBytes
import Derived.Laws.BytesString
import Derived.Shelf.Strings.Search1
import Derived.Shelf.Strings.Search2
import Derived.Shelf.Strings.Search3
import Derived.Shelf.LaysM
import Derived.Shelf.Strings.Shaped
import Derived.Shelf.Strings.BuilderK
import Derived.Lib.FrozenHead2
import Derived.Deep.MidRow
import Derived.Laws.ResultCell
import Derived.Lib.ConvBytes
import Derived.Laws.StructEq
import Derived.RangeFuncNested
import Derived.RangeFuncBound
import Derived.RangeFuncCalls
import Derived.RangeFuncLeaves
import Derived.RangeFuncBox
import Derived.RangeFuncWrites
import Derived.Shelf.Abstract
import Derived.Shelf.RegionOpen
import Derived.OwnWalkIn
import Derived.TacticsInMore
import Derived.LoopNIn
import Derived.LoopIn
import Derived.Lib.LaidTab
import Derived.Lib.AppendIntMem
import Derived.LoopN
import Derived.Maps.OwnIn
import Derived.Laws.EntriesVeiled
namespace Go.Proofs.Ytpgbojpeffilmaa
set_option maxRecDepth 100000
open Go.RowKit
theorem eqHas (x1 x2 x3 x4 x5 y1 y2 y3 y4 y5 : Bool) (w : World) : (Op.equalIn 10000 32 (.agg #[.bool x1, .bool x2, .bool x3, .bool x4, .bool x5]) (.agg #[.bool y1, .bool y2, .bool y3, .bool y4, .bool y5])).run Try.prog w = .ok (x1 == y1 && x2 == y2 && x3 == y3 && x4 == y4 && x5 == y5) w := by
  have u4 := Try.underlying4
  have a4 := Try.isAgg4
  have z4 := Try.sizeOf4
  have hS2 : Try.prog.underlying 32 = some (.struct (Try.prog.fieldsOf 32)) := by kernel_rfl
  have hp2 : Try.prog.stoodInHeld 32 = false := by kernel_rfl
  rw [show (10000 : Nat) = 9999 + 1 from rfl, run_equalIn_agg w 9999 32 _ _ hS2 hp2]
  simp only [Program.fieldsOf, Try.underlying32]
  go_simp
  cases x1 <;> cases y1 <;> cases x2 <;> cases y2 <;> cases x3 <;> cases y3 <;> cases x4 <;> cases y4 <;> cases x5 <;> cases y5 <;> rfl
def eqRL (a b : RL) : Bool := a.no == b.no && a.kind == b.kind && a.oc == b.oc
theorem eqRL_iff {a b : RL} : eqRL a b = true ↔ a = b := by
  obtain ⟨a1, a2, a3⟩ := a
  obtain ⟨b1, b2, b3⟩ := b
  simp [eqRL, and_assoc]
theorem eqRcpt (a b : RL) (w : World) : (Op.equalIn 10000 36 (.agg #[.string (mkS a.no), .string (mkS a.kind), .string (mkS a.oc)]) (.agg #[.string (mkS b.no), .string (mkS b.kind), .string (mkS b.oc)])).run Try.prog w = .ok (eqRL a b) w := by
  have u9 := Try.underlying9
  have a9 := Try.isAgg9
  have z9 := Try.sizeOf9
  have hS : Try.prog.underlying 36 = some (.struct (Try.prog.fieldsOf 36)) := by kernel_rfl
  have hp : Try.prog.stoodInHeld 36 = false := by kernel_rfl
  have hT : ∀ (x y : Txt), (Op.equalIn 9999 9 (.string (mkS x)) (.string (mkS y))).run Try.prog w = .ok (x == y) w := fun x y => by
    have e := mkS_eqb x y
    go_simp
  have p9 : ∀ (cs : Array Value) (k : Nat) (v : Value), cs[k]? = some v → (part 9 cs k).run Try.prog w = .ok v w := fun cs k v h => by unfold part; go_simp
  rw [show (10000 : Nat) = 9999 + 1 from rfl, run_equalIn_agg w 9999 36 _ _ hS hp]
  have key := eqF_cons (P := Try.prog) (w := w) (d := 9999) (f := (Try.prog.fieldsOf 36)[0]!) (by decide) (p9 #[.string (mkS a.no), .string (mkS a.kind), .string (mkS a.oc)] 0 _ rfl) (p9 #[.string (mkS b.no), .string (mkS b.kind), .string (mkS b.oc)] 0 _ rfl) (hT _ _)
    (eqF_cons (f := (Try.prog.fieldsOf 36)[1]!) (by decide) (p9 _ 1 _ rfl) (p9 _ 1 _ rfl) (hT _ _) (eqF_cons (f := (Try.prog.fieldsOf 36)[2]!) (by decide) (p9 _ 2 _ rfl) (p9 _ 2 _ rfl) (hT _ _)
    (show (Op.eqFields 9999 #[.string (mkS a.no), .string (mkS a.kind), .string (mkS a.oc)] #[.string (mkS b.no), .string (mkS b.kind), .string (mkS b.oc)] []).run Try.prog w = .ok true w from rfl)))
  refine key.trans ?_
  simp [eqRL, Bool.and_assoc]
end Go.Proofs.Ytpgbojpeffilmaa
