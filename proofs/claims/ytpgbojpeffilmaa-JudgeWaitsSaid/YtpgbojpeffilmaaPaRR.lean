/-
  The walk of param's RightRcpt.
-/
import Derived.Test.YtpgbojpeffilmaaProg
import Derived.Test.YtpgbojpeffilmaaMaBuild
import Derived.Test.YtpgbojpeffilmaaMaPure
import Derived.Test.YtpgbojpeffilmaaRows
import Derived.Lib.Bytealg
import Derived.Lib.ItoaNum
import Derived.Lib.Atoi
import Derived.Lib.Join
import Derived.WalkKit
import Derived.WalkSpells
import Derived.WalkLawsBesides
import Derived.Deep.QuietTactic
import Derived.BigQuiet
import Derived.StillTailTactics
import Derived.Lib.Hide
import Derived.Maps.AppendAt
import Derived.Deep.AppendLies
import Derived.Deep.RegionWith
import Derived.Deep.RegionHeld3
import Derived.Deep.DeepFit
import Derived.Deep.LoopGhost
import Derived.IntWalk
import Derived.Lib.Strings
import Derived.Lib.IndexBytes
import Derived.Laws.BytesString
import Derived.Shelf.Strings.Search1
import Derived.Shelf.Strings.Search2
import Derived.Shelf.Strings.Search3
import Derived.Shelf.LaysM
import Derived.Shelf.Strings.Shaped
import Derived.Shelf.Strings.BuilderK
import Derived.Lib.FrozenHead2
import Derived.Deep.MidRow
import Derived.Laws.ResultCell
import Derived.Lib.ConvBytes
import Derived.Laws.StructEq
import Derived.RangeFuncNested
import Derived.RangeFuncBound
import Derived.RangeFuncCalls
import Derived.RangeFuncLeaves
import Derived.RangeFuncBox
import Derived.RangeFuncWrites
import Derived.Shelf.Abstract
import Derived.Shelf.RegionOpen
import Derived.OwnWalkIn
import Derived.TacticsInMore
import Derived.LoopNIn
import Derived.LoopIn
import Derived.Lib.LaidTab
import Derived.Lib.AppendIntMem
import Derived.LoopN
namespace Go.Proofs.Ytpgbojpeffilmaa
set_option maxRecDepth 100000
open Go.RowKit
/-- A recipient in its box, block g; nothing that lay ahead has turned. -/
structure RBox (W : World) (g : Nat) (r : RL) (w : World) : Prop where
  box : w.heap[g]? = some (.cells #[.string (mkS r.no), .string (mkS r.kind), .string (mkS r.oc)] 36 (0, 0))
  below : Below W.heap.size W w
theorem RBox.next {W w w' : World} {g : Nat} {r : RL} (h : RBox W g r w) (hb : Below w.heap.size w w') : RBox W g r w' := ⟨(hb.block _ (ltOf h.box)).trans h.box, below_next h.below hb⟩
theorem RBox.drewN {W w : World} {g : Nat} {r : RL} (h : RBox W g r w) (n : Nat) : RBox W g r (w.drewN n) := ⟨h.box, below_drewN h.below n⟩
theorem RBox.drew {W w : World} {g : Nat} {r : RL} (h : RBox W g r w) : RBox W g r w.drew := ⟨h.box, ⟨h.below.os, h.below.tape, h.below.output, h.below.size, h.below.block⟩⟩
theorem RBox.c0 {W w : World} {g : Nat} {r : RL} (h : RBox W g r w) : w.cell? ⟨g, 0, none⟩ = some (.string (mkS r.no)) := cellOf h.box 0
theorem RBox.c1 {W w : World} {g : Nat} {r : RL} (h : RBox W g r w) : w.cell? ⟨g, 1, none⟩ = some (.string (mkS r.kind)) := cellOf h.box 1
theorem RBox.c2 {W w : World} {g : Nat} {r : RL} (h : RBox W g r w) : w.cell? ⟨g, 2, none⟩ = some (.string (mkS r.oc)) := cellOf h.box 2
/-- A region that draws its order, walked once, where all its operations and calls leave a world of a class. -/
theorem region_in {P : Program} {id : Nat} {Q : Exit → Act → World → Prop} {a : Act} {w : World} {l : List Oper} (hm : P.follows .mixedOrders = true) (hB : Region.lexB .any l.toArray = true) {Y : Type} (F : Y → World) (y0 : Y) (hy : F y0 = w.drew)
    (h : wpQuiet P l.toArray (fun w' => ∃ y, w' = F y) (fun a' => ∀ w', (∃ y, w' = F y) → Q .normal a' w') l a) : (Code.region id l.toArray true).wp P Q a w :=
  wp_region_quiet (C := fun w' => ∃ y, w' = F y) hm hB ⟨y0, hy.symm⟩ (by simpa using h)
theorem RBox.quiet {W : World} {g : Nat} {r : RL} {Y : Type} {F : Y → World} {y : Y} (h : (∀ y, RBox W g r (F y)) ∧ (∀ w', RBox W g r w' → ∃ y, w' = F y)) {f : FuncId} {args : Array Value} {v : Value} (H : Calls Try.prog f args (F y) fun e w' => e = .returned v ∧ Below (F y).heap.size (F y) w') :
    Calls Try.prog f args (F y) fun e w' => e = .returned v ∧ ∃ y, w' = F y := H.mono fun _ _ ⟨he, hb⟩ => ⟨he, h.2 _ ((h.1 y).next hb)⟩
theorem RBox.qsame {W : World} {g : Nat} {r : RL} {Y : Type} {F : Y → World} {y : Y} (h : (∀ y, RBox W g r (F y)) ∧ (∀ w', RBox W g r w' → ∃ y, w' = F y)) {f : FuncId} {args : Array Value} {v : Value} (H : Calls Try.prog f args (F y) fun e w' => e = .returned v ∧ F y = w') :
    Calls Try.prog f args (F y) fun e w' => e = .returned v ∧ ∃ y, w' = F y := H.mono fun _ _ ⟨he, hb⟩ => ⟨he, h.2 _ (by rw [← hb]; exact h.1 y)⟩
end Go.Proofs.Ytpgbojpeffilmaa
