/-
  The walk of param's PrintRcpt.
-/
import Derived.Test.YtpgbojpeffilmaaProg
import Derived.Test.YtpgbojpeffilmaaMaBuild
import Derived.Test.YtpgbojpeffilmaaMaPure
import Derived.Test.YtpgbojpeffilmaaPaDoes
import Derived.Test.YtpgbojpeffilmaaPaJoin
import Derived.Test.YtpgbojpeffilmaaPaRR
import Derived.Test.YtpgbojpeffilmaaRows
import Derived.Lib.Bytealg
import Derived.Lib.ItoaNum
import Derived.Lib.Atoi
import Derived.Lib.Join
import Derived.WalkKit
import Derived.WalkSpells
import Derived.WalkLawsBesides
import Derived.Deep.QuietTactic
import Derived.BigQuiet
import Derived.StillTailTactics
import Derived.Lib.Hide
import Derived.Maps.AppendAt
import Derived.Deep.AppendLies
import Derived.Deep.RegionWith
import Derived.Deep.RegionHeld3
import Derived.Deep.DeepFit
import Derived.Deep.LoopGhost
import Derived.IntWalk
import Derived.Lib.Strings
import Derived.Lib.IndexBytes
import Derived.Laws.BytesString
import Derived.Shelf.Strings.Search1
import Derived.Shelf.Strings.Search2
import Derived.Shelf.Strings.Search3
import Derived.Shelf.LaysM
import Derived.Shelf.Strings.Shaped
import Derived.Shelf.Strings.BuilderK
import Derived.Lib.FrozenHead2
import Derived.Deep.MidRow
import Derived.Laws.ResultCell
import Derived.Lib.ConvBytes
import Derived.Laws.StructEq
import Derived.RangeFuncNested
import Derived.RangeFuncBound
import Derived.RangeFuncCalls
import Derived.RangeFuncLeaves
import Derived.RangeFuncBox
import Derived.RangeFuncWrites
import Derived.Shelf.Abstract
import Derived.Shelf.RegionOpen
import Derived.OwnWalkIn
import Derived.TacticsInMore
import Derived.LoopNIn
import Derived.LoopIn
import Derived.Lib.LaidTab
import Derived.Lib.AppendIntMem
import Derived.LoopN
import Derived.Lib.SmallJoins
namespace Go.Proofs.Ytpgbojpeffilmaa
set_option maxRecDepth 100000
open Go.RowKit Go.Shelf
/-- A recipient in its box, block g, and a row of texts of the call's own behind it. -/
structure RS (W : World) (g : Nat) (r : RL) (v : Value) (L : List Txt) (w : World) : Prop where
  rb : RBox W g r w
  row : w.ownsRow (g + 1) 9 1 v L.length (strsV L)
  gW : W.heap.size ≤ g
theorem RS.size {W w : World} {g : Nat} {r : RL} {v : Value} {L : List Txt} (h : RS W g r v L w) : g + 1 ≤ w.heap.size := ltOf h.rb.box
theorem RS.next {W w w' : World} {g : Nat} {r : RL} {v : Value} {L : List Txt} (h : RS W g r v L w) (hb : Below w.heap.size w w') : RS W g r v L w' := ⟨h.rb.next hb, own_below h.row hb, h.gW⟩
theorem RS.app {W w w' : World} {g : Nat} {r : RL} {v v' : Value} {L L' : List Txt} {o : Obj} (h : RS W g r v L w) (hown : w'.ownsRow (g + 1) 9 1 v' L'.length (strsV L')) (hg : (w.alloc o).grownBy w' v.ownBlock) : RS W g r v' L' w' := by
  refine ⟨⟨?_, ?_⟩, hown, h.gW⟩
  · refine (hg.block g (by have := h.size; simp; omega) (fun e => ?_)).trans ((Below.heap_alloc w o g (by have := h.size; omega)).trans h.rb.box)
    have := (h.row.lt g e.symm).1
    omega
  · exact (h.rb.below.alloc h.rb.below.size o).grown hg (by have := h.rb.below.size; simp; omega) (fun k hk => by have := (h.row.lt k hk).1; have := h.gW; omega)
theorem RS.drew {W w : World} {g : Nat} {r : RL} {v : Value} {L : List Txt} (h : RS W g r v L w) : RS W g r v L w.drew := ⟨h.rb.drew, h.row, h.gW⟩
theorem RS.al {w : World} {g : Nat} {a b : Value} {o : Obj} (h : w.cell? ⟨g, 1, none⟩ = some a ∧ w.cell? ⟨g, 2, none⟩ = some b) : (w.alloc o).cell? ⟨g, 1, none⟩ = some a ∧ (w.alloc o).cell? ⟨g, 2, none⟩ = some b :=
  ⟨(Below.cell ((Below.refl w.heap.size w).alloc (Nat.le_refl _) o) (p := ⟨g, 1, none⟩) (cell_lt h.1)).trans h.1, (Below.cell ((Below.refl w.heap.size w).alloc (Nat.le_refl _) o) (p := ⟨g, 2, none⟩) (cell_lt h.2)).trans h.2⟩
theorem rightR_len {r : RL} (h : rightR r = 0) : r.kind.length ≤ 32 ∧ r.oc.length ≤ 256 := by
  unfold rightR at h
  split at h
  · cases h
  · split at h
    · cases h
    · rename_i _ hk
      split at h
      · cases h
      · rename_i ho
        refine ⟨?_, by omega⟩
        have hk' : kindB r = true := by simpa using hk
        unfold kindB isKind at hk'
        simp only [Bool.and_eq_true, Bool.or_eq_true, beq_iff_eq, decide_eq_true_eq] at hk'
        rcases hk'.2 with h0 | h0
        · rw [h0]; simp
        · exact h0.1.1.2
theorem namesV_len (l : Txt) : (namesV l).length ≤ 30 := by
  unfold namesV namesL
  split
  · decide
  · split <;> split <;> split <;> decide
end Go.Proofs.Ytpgbojpeffilmaa
