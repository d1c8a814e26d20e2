/-
  What the walks of stage 1 say of memory: a cutter's block, the row of its kept bytes, and what a call leaves as it was.
-/
import Derived.Test.YtkkpfencnjnddaaRows
import Derived.WalkKit
import Derived.WalkSpells
import Derived.WalkLawsBesides
import Derived.Deep.QuietTactic
import Derived.BigQuiet
import Derived.StillTailTactics
import Derived.Lib.Hide
import Derived.Maps.AppendAt
import Derived.Deep.AppendLies
import Derived.Deep.RegionWith
import Derived.Deep.RegionHeld3
import Derived.Deep.DeepFit
import Derived.Deep.LoopGhost
namespace Go.Proofs.Ytkkpfencnjnddaa
open Go.RowKit

/-- Bytes as the model's cells. -/
def bytesV (l : List UInt8) : List Value := l.map fun b => .int .u8 (b.toNat : Int)
theorem bytesV_length (l : List UInt8) : (bytesV l).length = l.length := by simp [bytesV]
theorem bytesV_append (l m : List UInt8) : bytesV (l ++ m) = bytesV l ++ bytesV m := by simp [bytesV]

/-- Only block g, and the row r, and new blocks have turned; the row that stands now is r, or a new one. -/
structure Only (g : Nat) (r r' : Option Nat) (w w' : World) : Prop where
  os : w'.os = w.os
  tape : w'.tape = w.tape
  output : w'.output = w.output
  size : w.heap.size ≤ w'.heap.size
  block : ∀ k, k < w.heap.size → k ≠ g → some k ≠ r → w'.heap[k]? = w.heap[k]?
  row : r' = r ∨ ∃ k, r' = some k ∧ w.heap.size ≤ k

theorem Only.refl (g : Nat) (r : Option Nat) (w : World) : Only g r r w w := ⟨rfl, rfl, rfl, Nat.le_refl _, fun _ _ _ _ => rfl, .inl rfl⟩
theorem Only.trans {g : Nat} {r r' r'' : Option Nat} {a b c : World} (h : Only g r r' a b) (k : Only g r' r'' b c) : Only g r r'' a c := by
  refine ⟨k.os.trans h.os, k.tape.trans h.tape, k.output.trans h.output, Nat.le_trans h.size k.size, fun i hi hg hr => ?_, ?_⟩
  · refine (k.block i (Nat.lt_of_lt_of_le hi h.size) hg ?_).trans (h.block i hi hg hr)
    rcases h.row with e | ⟨m, e, hm⟩
    · rw [e]; exact hr
    · rw [e]; intro he; injection he with he; omega
  · rcases k.row with e | ⟨m, e, hm⟩
    · rw [e]; exact h.row
    · exact .inr ⟨m, e, Nat.le_trans h.size hm⟩
theorem Only.drewN {g : Nat} {r r' : Option Nat} {a b : World} (h : Only g r r' a b) (n : Nat) : Only g r r' a (b.drewN n) := ⟨h.os, h.tape, h.output, h.size, h.block, h.row⟩
theorem Only.drew {g : Nat} {r r' : Option Nat} {a b : World} (h : Only g r r' a b) : Only g r r' a b.drew := ⟨h.os, h.tape, h.output, h.size, h.block, h.row⟩
theorem Only.alloc {g : Nat} {r r' : Option Nat} {a b : World} (h : Only g r r' a b) (o : Obj) : Only g r r' a (b.alloc o) :=
  ⟨h.os, h.tape, h.output, Nat.le_trans h.size (by simp), fun i hi hg hr => (Below.heap_alloc b o i (Nat.lt_of_lt_of_le hi h.size)).trans (h.block i hi hg hr), h.row⟩
theorem Only.setG {g : Nat} {r r' : Option Nat} {a b : World} (h : Only g r r' a b) (o : Nat) (v : Value) : Only g r r' a (b.setCell ⟨g, o, none⟩ v) :=
  ⟨h.os, h.tape, h.output, by simpa [World.setCell] using h.size, fun i hi hg hr => (Below.heap_setCell b ⟨g, o, none⟩ v i hg).trans (h.block i hi hg hr), h.row⟩
theorem Only.grown {g : Nat} {r r' r'' : Option Nat} {a b c : World} (h : Only g r r' a b) (k : b.grownBy c r') (hr : r'' = r' ∨ ∃ m, r'' = some m ∧ a.heap.size ≤ m) : Only g r r'' a c := by
  refine ⟨k.os.trans h.os, k.tape.trans h.tape, k.output.trans h.output, Nat.le_trans h.size k.size, fun i hi hg hri => ?_, ?_⟩
  · refine (k.block i (Nat.lt_of_lt_of_le hi h.size) ?_).trans (h.block i hi hg hri)
    rcases h.row with e | ⟨m, e, hm⟩
    · rw [e]; exact hri
    · rw [e]; intro he; injection he with he; omega
  · rcases hr with e | e
    · rw [e]; exact h.row
    · exact .inr e

/-- A cutter lies at block g: its most, its kept bytes (in the row of v), how many came, the last one, how many lines. -/
structure Cut (B : Nat) (w : World) (g : Nat) (v : Value) (most : Nat) (kept : List UInt8) (pend : Nat) (last : UInt8) (lines : Nat) : Prop where
  blk : w.heap[g]? = some (.cells #[.int .i64 (most : Int), v, .int .i64 (pend : Int), .int .u8 (last.toNat : Int), .int .i64 (lines : Int)] 53 (0, 0))
  own : w.ownsRow B 5 1 v kept.length (bytesV kept)
  ge : B ≤ g

theorem cell5 {w : World} {g : Nat} {cs : Array Value} {t : TypeId} (h : w.heap[g]? = some (.cells cs t (0, 0))) (i : Nat) : w.cell? ⟨g, i, none⟩ = cs[i]? := by simp [World.cell?, h]
theorem free5 {w : World} {g : Nat} {cs : Array Value} {t : TypeId} (h : w.heap[g]? = some (.cells cs t (0, 0))) (i : Nat) : w.frozen? ⟨g, i, none⟩ = false := by simp [World.frozen?, h]
theorem set5 {w : World} {g : Nat} {cs : Array Value} {t : TypeId} (h : w.heap[g]? = some (.cells cs t (0, 0))) (i : Nat) (u : Value) : (w.setCell ⟨g, i, none⟩ u).heap[g]? = some (.cells (cs.setIfInBounds i u) t (0, 0)) := by
  simp [World.setCell, Array.getElem?_modify, h]
theorem lt5 {w : World} {g : Nat} {o : Obj} (h : w.heap[g]? = some o) : g < w.heap.size := by
  rcases Nat.lt_or_ge g w.heap.size with hl | hl
  · exact hl
  · rw [Array.getElem?_eq_none hl] at h; cases h
/-- A row of other elements lies in another block. -/
theorem row_ne {w : World} {B : Nat} {e t : TypeId} {size n : Nat} {v : Value} {xs : List Value} {g : Nat} {cs : Array Value} (h : w.ownsRow B e size v n xs) (hg : w.heap[g]? = some (.cells cs t (0, 0))) (hne : e ≠ t) : v.ownBlock ≠ some g := by
  rcases h.2 with ⟨rfl, _⟩ | ⟨k, cap, cur, rfl, _, hk, _⟩
  · simp [Value.ownBlock]
  · intro he
    have : k = g := by simpa [Value.ownBlock] using he
    subst this
    rw [hk] at hg
    injection hg with hg
    injection hg with _ ht
    exact hne ht
theorem heap_grown {w w' : World} {row : Option Nat} {g : Nat} {o : Obj} (h : w.heap[g]? = some o) (k : w.grownBy w' row) (hne : some g ≠ row) : w'.heap[g]? = some o := (k.block g (lt5 h) hne).trans h
/-- A call that leaves the world alone, behind draws that have been joined. -/
theorem quiet_more {P : Program} {f : FuncId} {args : Array Value} {w : World} {a n : Nat} {v : Value} (h : Calls P f args (w.drewN (a + n)) fun e w' => e = .returned v ∧ w' = w.drewN (a + n)) :
    Calls P f args (w.drewN (a + n)) fun e w' => e = .returned v ∧ ∃ m, w' = w.drewN (a + m) := h.mono fun _ _ ⟨he, hw⟩ => ⟨he, n, hw⟩
theorem quiet_more' {P : Program} {f : FuncId} {args : Array Value} {w : World} {a n : Nat} {v : Value} (h : Calls P f args (w.drewN (a + n)) fun e w' => e = .returned v ∧ ∃ k, w' = (w.drewN (a + n)).drewN k) :
    Calls P f args (w.drewN (a + n)) fun e w' => e = .returned v ∧ ∃ m, w' = w.drewN (a + m) := h.mono fun _ _ ⟨he, k, hw⟩ => ⟨he, n + k, by rw [hw]; simp [World.drewN, Nat.add_assoc]⟩
theorem below_drewN {B : Nat} {a w : World} (h : Below B a w) (n : Nat) : Below B a (w.drewN n) := ⟨h.os, h.tape, h.output, h.size, h.block⟩
end Go.Proofs.Ytkkpfencnjnddaa
