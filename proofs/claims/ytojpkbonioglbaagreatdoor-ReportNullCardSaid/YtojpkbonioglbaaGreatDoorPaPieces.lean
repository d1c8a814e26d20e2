/-
  The walks of param's pieces: the range over the parts of a text.
-/
import Derived.Test.YtojpkbonioglbaaGreatDoorPaNum
import Derived.RangeFuncNested
import Derived.RangeFuncBound
import Derived.RangeFuncCalls
import Derived.RangeFuncLeaves
import Derived.RangeFuncBox
import Derived.RangeFuncWrites
import Derived.Shelf.Abstract
import Derived.Shelf.RegionOpen
import Derived.OwnWalkIn
import Derived.TacticsInMore
import Derived.LoopNIn
import Derived.LoopIn
namespace Go.Proofs.YtojpkbonioglbaaGreatDoor
set_option maxRecDepth 100000
open Go.RowKit Go.Shelf
/-- A cell that holds something holds it still. -/
def KeepsCell (a : Addr) (W W' : World) : Prop := ∀ v, W.cell? a = some v → W'.cell? a = some v
theorem keepsCell_t {a : Addr} {A B C : World} (h : KeepsCell a A B) (k : KeepsCell a B C) : KeepsCell a A C := fun v hv => k v (h v hv)
theorem keepsCell_b {a : Addr} (W : World) (l : Nat) (o o' : Obj) (hl : W.heap[l]? = some o) (ho : o.isCells = false) : KeepsCell a W (W.putObj l o') := fun _ hv => cell_kept hv (grownBy_putObj' W l o') (fun r e => by cases e; exact ⟨o, hl, ho⟩)
/-- How much is left of the range over parts. -/
def ptMeas : Value → Value → Nat
  | .string b, .bool true => b.size + 1
  | _, _ => 0
theorem grown_drewN (w : World) (n : Nat) : w.grownBy (w.drewN n) none := ⟨rfl, rfl, rfl, Nat.le_refl _, fun _ _ _ => rfl⟩
theorem abides_drewN {β : Type} {B : Nat} {J : β → World → Prop} (h : AbidesFrom B J) {s : β} {W : World} (hs : J s W) (n : Nat) : J s (W.drewN n) := h s W _ none hs (grown_drewN W n) (fun r e => by cases e)
/-- A text of a size that memory can hold: what a round is told of what it is handed. -/
def capL (x : List UInt8) : List UInt8 := x.take 1000000000
theorem capL_le (x : List UInt8) : (capL x).length ≤ 1000000000 := by simp [capL]; omega
theorem capL_id {x : List UInt8} (h : x.length ≤ 1000000000) : capL x = x := List.take_of_length_le h
theorem cap_all (c : UInt8) (f : List UInt8 → Bool) (s : List UInt8) (hs : s.length ≤ 1000000000) : (splitC c s).all (fun x => f (capL x)) = (splitC c s).all f := by
  rw [Bool.eq_iff_iff, List.all_eq_true, List.all_eq_true]
  refine forall_congr' fun x => forall_congr' fun hx => ?_
  rw [capL_id (Nat.le_trans (splitC_le c s x hx) hs)]

attribute [local go_sem] Oper.semAt_some
end Go.Proofs.YtojpkbonioglbaaGreatDoor
