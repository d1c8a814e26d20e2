/-
  The walks of param's small functions: kinds of bytes, every, capitals, names, ranges.
-/
import Derived.Test.YtpgbojpeffilmaaProg
import Derived.Test.YtpgbojpeffilmaaMaBuild
import Derived.Test.YtpgbojpeffilmaaMaPure
import Derived.Test.YtpgbojpeffilmaaRows
import Derived.Lib.Bytealg
import Derived.Lib.ItoaNum
import Derived.Lib.Atoi
import Derived.Lib.Join
import Derived.WalkKit
import Derived.WalkSpells
import Derived.WalkLawsBesides
import Derived.Deep.QuietTactic
import Derived.BigQuiet
import Derived.StillTailTactics
import Derived.Lib.Hide
import Derived.Maps.AppendAt
import Derived.Deep.AppendLies
import Derived.Deep.RegionWith
import Derived.Deep.RegionHeld3
import Derived.Deep.DeepFit
import Derived.Deep.LoopGhost
import Derived.IntWalk
import Derived.Lib.Strings
import Derived.Lib.IndexBytes
import Derived.Laws.BytesString
import Derived.Shelf.Strings.Search1
import Derived.Shelf.Strings.Search2
import Derived.Shelf.Strings.Search3
import Derived.Shelf.LaysM
import Derived.Shelf.Strings.Shaped
import Derived.Shelf.Strings.BuilderK
import Derived.Lib.FrozenHead2
import Derived.Deep.MidRow
import Derived.Laws.ResultCell
import Derived.Lib.ConvBytes
import Derived.Laws.StructEq
namespace Go.Proofs.Ytpgbojpeffilmaa
set_option maxRecDepth 100000
open Go.RowKit
theorem dle (a b : Nat) : decide ((a : Int) ≤ (b : Int)) = decide (a ≤ b) := by
  by_cases h : a ≤ b
  · rw [decide_eq_true h]; exact decide_eq_true (by omega)
  · rw [decide_eq_false h]; exact decide_eq_false (by omega)
theorem dle1 (a b : Nat) (m : Int) (hm : m = (a : Int)) : decide (m ≤ (b : Int)) = decide (a ≤ b) := by rw [hm]; exact dle a b
theorem dle2 (a b : Nat) (m : Int) (hm : m = (b : Int)) : decide ((a : Int) ≤ m) = decide (a ≤ b) := by rw [hm]; exact dle a b

/-- A function value that answers of a byte whether it is of a kind. -/
def Kind (k : Nat) (p : UInt8 → Bool) : Prop := ∀ (b : UInt8) (w : World), Calls Try.prog k #[.int .u8 (b.toNat : Int)] w fun e w' => e = .returned (.bool (p b)) ∧ w = w'
theorem all_take {l : List UInt8} {p : UInt8 → Bool} {k : Nat} {x : UInt8} (hx : l[k]? = some x) (h : (l.take k).all p = true) (hp : p x = true) : (l.take (k + 1)).all p = true := by
  obtain ⟨hk, e⟩ := List.getElem?_eq_some_iff.1 hx
  rw [List.take_succ_eq_append_getElem hk, List.all_append, h, e]
  simp [hp]
theorem all_not {l : List UInt8} {p : UInt8 → Bool} {k : Nat} {x : UInt8} (hx : l[k]? = some x) (hp : p x = false) : l.all p = false := by
  rw [List.all_eq_false]
  exact ⟨x, List.mem_of_getElem? hx, by rw [hp]; exact Bool.false_ne_true⟩
/-- The letters ahead of place j made capital. -/
def upUp (l : List UInt8) (j : Nat) : List UInt8 := upL (l.take j) ++ l.drop j
theorem upUp_zero (l : List UInt8) : upUp l 0 = l := by simp [upUp, upL]
theorem upUp_all (l : List UInt8) : upUp l l.length = upL l := by simp [upUp]
theorem upUp_length (l : List UInt8) (j : Nat) : (upUp l j).length = l.length := by simp [upUp, upL]; omega
theorem upUp_succ {l : List UInt8} {j : Nat} {x : UInt8} (h : l[j]? = some x) : (upUp l j)[j]? = some x ∧ upUp l (j + 1) = (upUp l j).set j (upB x) := by
  obtain ⟨hj, e⟩ := List.getElem?_eq_some_iff.1 h
  have hlen : (upL (l.take j)).length = j := by simp [upL]; omega
  refine ⟨?_, ?_⟩
  · rw [upUp, List.getElem?_append_right (by omega), hlen, Nat.sub_self, List.getElem?_drop, Nat.add_zero, h]
  · rw [upUp, upUp, List.take_succ_eq_append_getElem hj, List.set_append_right _ _ (by omega), hlen, Nat.sub_self, List.drop_eq_getElem_cons hj, e]
    simp [upL]
theorem up_sum : ∀ x : UInt8, smlB x = true → IntKind.u8.wrap ((x.toNat : Int) - 32) = ((upB x).toNat : Int) := by
  intro x h
  exact X.all_bytes (p := fun x => smlB x = true → IntKind.u8.wrap ((x.toNat : Int) - 32) = ((upB x).toNat : Int)) (by decide +kernel) x h
theorem up_not {x : UInt8} (h : smlB x = false) : upB x = x := by simp [upB, h]
/-- What holds in capitals' loop. -/
structure SI (W w : World) (l m : List UInt8) : Prop where
  below : Below W.heap.size W w
  blk : ∃ (cs : Array Value) (fz : Nat), w.heap[W.heap.size]? = some (.cells cs 5 (fz, fz + 1)) ∧ l.length ≤ fz ∧ ∀ (i : Nat) (x : UInt8), m[i]? = some x → cs[i]? = some (Value.int .u8 (x.toNat : Int))
theorem SI.cell {W w : World} {l m : List UInt8} (h : SI W w l m) {i : Nat} {x : UInt8} (hx : m[i]? = some x) : w.cell? ⟨W.heap.size, i, none⟩ = some (.int .u8 (x.toNat : Int)) := by
  obtain ⟨cs, fz, hb, _, hc⟩ := h.blk
  rw [cellOf hb, hc i x hx]
theorem SI.free {W w : World} {l m : List UInt8} (h : SI W w l m) {i : Nat} (hi : i < l.length) : w.frozen? ⟨W.heap.size, i, none⟩ = false := by
  obtain ⟨cs, fz, hb, hf, _⟩ := h.blk
  simp [World.frozen?, hb]
  omega
theorem SI.set {W w : World} {l m : List UInt8} (h : SI W w l m) {i : Nat} (y : UInt8) : SI W (w.setCell ⟨W.heap.size, i, none⟩ (.int .u8 (y.toNat : Int))) l (m.set i y) := by
  obtain ⟨cs, fz, hb, hf, hc⟩ := h.blk
  refine ⟨h.below.setCell (p := ⟨W.heap.size, i, none⟩) (Nat.le_refl _) _, _, fz, setOf hb i _, hf, fun k x hx => ?_⟩
  rw [List.getElem?_set] at hx
  rw [Array.getElem?_setIfInBounds]
  split at hx
  · rename_i e
    subst e
    split at hx
    · rename_i hi
      injection hx with hx
      subst hx
      have := hc i m[i] (List.getElem?_eq_getElem hi)
      obtain ⟨h2, _⟩ := Array.getElem?_eq_some_iff.1 this
      simp [h2]
    · cases hx
  · rename_i e
    simp [e, hc k x hx]
theorem SI.new (w : World) (l : List UInt8) : SI w (Lib.bytesWorld w 5 (mkS l)) l l := by
  refine ⟨⟨rfl, rfl, rfl, by rw [Lib.bytesWorld_size]; omega, fun k hk => Lib.bytesWorld_at_old w 5 _ k hk⟩, _, _, Lib.bytesWorld_at_new w 5 (mkS l), ?_, fun i x hx => ?_⟩
  · simp [Lib.bytesCells, mkS]
  · have hi := (List.getElem?_eq_some_iff.1 hx).1
    simp [Lib.bytesCells, mkS, Array.getElem?_append, hi]
    rw [List.getElem?_eq_getElem hi] at hx
    injection hx with hx
    rw [hx]
theorem below_bytes (w : World) (t : ByteArray) : Below w.heap.size w (Lib.bytesWorld w 5 t) := ⟨rfl, rfl, rfl, by rw [Lib.bytesWorld_size]; omega, fun k hk => Lib.bytesWorld_at_old w 5 _ k hk⟩
/- Names. -/
theorem pre82 (l : Txt) : Lib.hasPrefix l [82] = (l.head? == some 82) := by
  cases l with
  | nil => rfl
  | cons b t =>
    by_cases e : b = 82
    · subst e; simp [Lib.hasPrefix, List.isPrefixOf]
    · have e1 : ((82 : UInt8) == b) = false := beq_eq_false_iff_ne.2 (Ne.symm e)
      have e2 : (b == 82) = false := beq_eq_false_iff_ne.2 e
      simp [Lib.hasPrefix, List.isPrefixOf, e1, e2]
end Go.Proofs.Ytpgbojpeffilmaa
