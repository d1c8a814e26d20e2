/- 
  The walks of what a message's keys do: decode, number's and name's closures.
-/
import Derived.Test.YtpgbojpeffilmaaProg
import Derived.Test.YtpgbojpeffilmaaMaBuild
import Derived.Test.YtpgbojpeffilmaaMaPure
import Derived.Test.YtpgbojpeffilmaaRows
import Derived.Lib.Bytealg
import Derived.Lib.ItoaNum
import Derived.Lib.Atoi
import Derived.Lib.Join
import Derived.WalkKit
import Derived.WalkSpells
import Derived.WalkLawsBesides
import Derived.Deep.QuietTactic
import Derived.BigQuiet
import Derived.StillTailTactics
import Derived.Lib.Hide
import Derived.Maps.AppendAt
import Derived.Deep.AppendLies
import Derived.Deep.RegionWith
import Derived.Deep.RegionHeld3
import Derived.Deep.DeepFit
import Derived.Deep.LoopGhost
import Derived.IntWalk
import Derived.Lib.Strings
import Derived.Lib.IndexBytes
import Derived.Laws.BytesString
import Derived.Shelf.Strings.Search1
import Derived.Shelf.Strings.Search2
import Derived.Shelf.Strings.Search3
import Derived.Shelf.LaysM
import Derived.Shelf.Strings.Shaped
import Derived.Shelf.Strings.BuilderK
import Derived.Lib.FrozenHead2
import Derived.Deep.MidRow
import Derived.Laws.ResultCell
import Derived.Lib.ConvBytes
import Derived.Laws.StructEq
import Derived.RangeFuncNested
import Derived.RangeFuncBound
import Derived.RangeFuncCalls
import Derived.RangeFuncLeaves
import Derived.RangeFuncBox
import Derived.RangeFuncWrites
import Derived.Shelf.Abstract
import Derived.Shelf.RegionOpen
import Derived.OwnWalkIn
import Derived.TacticsInMore
import Derived.LoopNIn
import Derived.LoopIn
import Derived.Lib.LaidTab
import Derived.Lib.AppendIntMem
namespace Go.Proofs.Ytpgbojpeffilmaa
set_option maxRecDepth 100000
open Go.RowKit
/-- What a call that tells block mb something leaves: that block's cells, and all else as it lay. -/
def Told (mb : Nat) (cs : Array Value) (t : TypeId) (w w' : World) : Prop := Apart mb w.heap.size w w' ∧ w'.heap[mb]? = some (.cells cs t (0, 0))
theorem Told.of {mb : Nat} {cs : Array Value} {t : TypeId} {w w' : World} (h : w.heap[mb]? = some (.cells cs t (0, 0))) (hb : Below w.heap.size w w') : Told mb cs t w w' :=
  ⟨.of hb, (hb.block mb (ltOf h)).trans h⟩
theorem Told.after {mb : Nat} {cs : Array Value} {t : TypeId} {w w1 w' : World} (hb : Below w.heap.size w w1) (h : Told mb cs t w1 w') : Told mb cs t w w' :=
  ⟨(Apart.of hb).next h.1, h.2⟩
theorem Told.then {mb : Nat} {cs cs' : Array Value} {t : TypeId} {w w1 w' : World} (h1 : Told mb cs t w w1) (h : Told mb cs' t w1 w') : Told mb cs' t w w' :=
  ⟨h1.1.next h.1, h.2⟩
theorem Told.set {mb : Nat} {cs : Array Value} {t : TypeId} {w w' : World} (h : Told mb cs t w w') (i : Nat) (v : Value) : Told mb (cs.setIfInBounds i v) t w (w'.setCell ⟨mb, i, none⟩ v) :=
  ⟨h.1.set i v, setOf h.2 i v⟩
theorem Told.drew {mb : Nat} {cs : Array Value} {t : TypeId} {w w' : World} (h : Told mb cs t w w') : Told mb cs t w w'.drew := ⟨⟨h.1.os, h.1.tape, h.1.output, h.1.size, h.1.block⟩, h.2⟩
theorem Told.drewN {mb : Nat} {cs : Array Value} {t : TypeId} {w w' : World} (h : Told mb cs t w w') (n : Nat) : Told mb cs t w (w'.drewN n) := ⟨⟨h.1.os, h.1.tape, h.1.output, h.1.size, h.1.block⟩, h.2⟩
theorem drew_below (w : World) (n : Nat) : Below w.heap.size w (w.drewN n) := below_drewN (Below.refl _ w) n

/-- What decode leaves in a block. -/
def decC (v : Txt) (most : Nat) (cs : Array Value) (i : Nat) : Array Value := if decdE v most = 0 then cs.setIfInBounds i (.string (mkS (X.decS v))) else cs
/-- A function value that tells a text's number. -/
def ParseK (k : Nat) (V E : Txt → Int) : Prop := ∀ (l : Txt) (w : World), l.length ≤ 1000000000000 → Calls Try.prog k #[.string (mkS l)] w fun e w' => e = .returned (.tuple #[.int .i64 (V l), .int .i64 (E l)]) ∧ Below w.heap.size w w'
/-- What number's closure has. -/
structure NumBox (k : Nat) (mb i j : Nat) (a b : Int) (B : Nat) (w : World) : Prop where
  told : w.cell? ⟨B, 0, none⟩ = some (.pointer (some ⟨mb, i, none⟩))
  said : w.cell? ⟨B + 1, 0, none⟩ = some (.pointer (some ⟨mb, j, none⟩))
  parse : w.cell? ⟨B + 2, 0, none⟩ = some (.func (.func k) #[] #[])
  least : w.cell? ⟨B + 3, 0, none⟩ = some (.int .i64 a)
  most : w.cell? ⟨B + 4, 0, none⟩ = some (.int .i64 b)
def numC (n x : Int) (cs : Array Value) (i j : Nat) : Array Value := if x = 0 then (cs.setIfInBounds i (.int .i64 n)).setIfInBounds j (.bool true) else cs
theorem cell_lt {w : World} {b o : Nat} {v : Value} (h : w.cell? ⟨b, o, none⟩ = some v) : b < w.heap.size := World.block_lt_of_cell? w ⟨b, o, none⟩ h
theorem NumBox.keep {k mb i j B : Nat} {a b : Int} {w w' : World} (h : NumBox k mb i j a b B w) (hk : ∀ c, c < 5 → w'.cell? ⟨B + c, 0, none⟩ = w.cell? ⟨B + c, 0, none⟩) : NumBox k mb i j a b B w' :=
  ⟨(hk 0 (by omega)).trans h.told, (hk 1 (by omega)).trans h.said, (hk 2 (by omega)).trans h.parse, (hk 3 (by omega)).trans h.least, (hk 4 (by omega)).trans h.most⟩
theorem NumBox.below {k mb i j B : Nat} {a b : Int} {w w' : World} (h : NumBox k mb i j a b B w) (hb : Below w.heap.size w w') : NumBox k mb i j a b B w' := by
  have l4 := cell_lt h.most
  exact h.keep fun c hc => hb.cell (p := ⟨B + c, 0, none⟩) (show B + c < w.heap.size by omega)
theorem NumBox.apart {k mb i j B n : Nat} {a b : Int} {w w' : World} (h : NumBox k mb i j a b B w) (hb : Apart mb n w w') (hn : B + 5 ≤ n) (hm : mb < B ∨ B + 5 ≤ mb) : NumBox k mb i j a b B w' :=
  h.keep fun c hc => hb.cell (by omega) (by omega) 0 none
/-- A closure's boxes, and the block that it tells. -/
structure BW (W : World) (B B2 mb : Nat) (p p2 : Value) (cs : Array Value) (t : TypeId) (w : World) : Prop where
  box : w.cell? ⟨B, 0, none⟩ = some p
  box2 : w.cell? ⟨B2, 0, none⟩ = some p2
  blk : Told mb cs t W w
theorem BW.drew {W w : World} {B B2 mb : Nat} {p p2 : Value} {cs : Array Value} {t : TypeId} (h : BW W B B2 mb p p2 cs t w) : BW W B B2 mb p p2 cs t w.drew := ⟨h.box, h.box2, h.blk.drew⟩
theorem BW.next {W w w' : World} {B B2 mb : Nat} {p p2 : Value} {cs : Array Value} {t : TypeId} (h : BW W B B2 mb p p2 cs t w) (hb : Below w.heap.size w w') : BW W B B2 mb p p2 cs t w' :=
  ⟨(hb.cell (p := ⟨B, 0, none⟩) (cell_lt h.box)).trans h.box, (hb.cell (p := ⟨B2, 0, none⟩) (cell_lt h.box2)).trans h.box2, h.blk.then (.of h.blk.2 hb)⟩
theorem BW.set {W w : World} {B B2 mb : Nat} {p p2 : Value} {cs : Array Value} {t : TypeId} (h : BW W B B2 mb p p2 cs t w) (h1 : mb ≠ B) (h2 : mb ≠ B2) (i : Nat) (v : Value) : BW W B B2 mb p p2 (cs.setIfInBounds i v) t (w.setCell ⟨mb, i, none⟩ v) :=
  ⟨(World.cell?_setCell_far _ _ _ _ h1).trans h.box, (World.cell?_setCell_far _ _ _ _ h2).trans h.box2, h.blk.set i v⟩
theorem BW.at {W w : World} {B B2 mb : Nat} {p p2 : Value} {cs : Array Value} {t : TypeId} (h : BW W B B2 mb p p2 cs t w) {i : Nat} {o : Value} (hi : cs[i]? = some o) : w.cell? ⟨mb, i, none⟩ = some o ∧ w.frozen? ⟨mb, i, none⟩ = false :=
  ⟨(cellOf h.blk.2 i).trans hi, freeOf h.blk.2 i⟩
theorem keep_far {w : World} {B mb : Nat} {p : Value} (i : Nat) (v : Value) (h : mb ≠ B) (hb : w.cell? ⟨B, 0, none⟩ = some p) : (w.setCell ⟨mb, i, none⟩ v).cell? ⟨B, 0, none⟩ = some p := (World.cell?_setCell_far _ _ _ _ h).trans hb
/-- A function value that tells of a text whether it is a name. -/
def IsK (k : Nat) (p : Txt → Bool) : Prop := ∀ (l : Txt) (w : World), Calls Try.prog k #[.string (mkS l)] w fun e w' => e = .returned (.bool (p l)) ∧ w = w'
theorem Told.cells {mb : Nat} {cs cs' : Array Value} {t : TypeId} {w w' : World} (h : Told mb cs t w w') (e : cs = cs') : Told mb cs' t w w' := e ▸ h
/-- What BY does: the block's cells behind it. -/
def byC (v : Txt) (cs : Array Value) : Array Value :=
  if isMode (upL (postC 59 v)) then numC (sgV (preC 59 v)) (byE v) (cs.setIfInBounds 13 (.string (mkS (upL (postC 59 v))))) 8 3 else cs.setIfInBounds 13 (.string (mkS (upL (postC 59 v))))
end Go.Proofs.Ytpgbojpeffilmaa
