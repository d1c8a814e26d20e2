/-
  A text made a row of bytes, stored into in place, and made a text again. (Of path's texts, without path: not beside those in one seat.)
-/
import Derived.Test.YtfejepkpjoieoaaBytes
import Derived.Lib.ConvBytes
namespace Go.Proofs.Ytfejepkpjoieoaa
set_option maxRecDepth 100000
open Go.RowKit
/-- Block W.heap.size holds the bytes m (and room behind l's); nothing older has turned. -/
structure SI (W w : World) (l m : List UInt8) : Prop where
  below : Below W.heap.size W w
  blk : ∃ (cs : Array Value) (fz : Nat), w.heap[W.heap.size]? = some (.cells cs 5 (fz, fz + 1)) ∧ l.length ≤ fz ∧ ∀ (i : Nat) (x : UInt8), m[i]? = some x → cs[i]? = some (Value.int .u8 (x.toNat : Int))
theorem SI.cell {W w : World} {l m : List UInt8} (h : SI W w l m) {i : Nat} {x : UInt8} (hx : m[i]? = some x) : w.cell? ⟨W.heap.size, i, none⟩ = some (.int .u8 (x.toNat : Int)) := by
  obtain ⟨cs, fz, hb, _, hc⟩ := h.blk
  rw [cellOf hb, hc i x hx]
theorem SI.free {W w : World} {l m : List UInt8} (h : SI W w l m) {i : Nat} (hi : i < l.length) : w.frozen? ⟨W.heap.size, i, none⟩ = false := by
  obtain ⟨cs, fz, hb, hf, _⟩ := h.blk
  simp [World.frozen?, hb]
  omega
theorem SI.set {W w : World} {l m : List UInt8} (h : SI W w l m) {i : Nat} (y : UInt8) : SI W (w.setCell ⟨W.heap.size, i, none⟩ (.int .u8 (y.toNat : Int))) l (m.set i y) := by
  obtain ⟨cs, fz, hb, hf, hc⟩ := h.blk
  refine ⟨h.below.setCell (p := ⟨W.heap.size, i, none⟩) (Nat.le_refl _) _, _, fz, setOf hb i _, hf, fun k x hx => ?_⟩
  rw [List.getElem?_set] at hx
  rw [Array.getElem?_setIfInBounds]
  split at hx
  · rename_i e
    subst e
    split at hx
    · rename_i hi
      injection hx with hx
      subst hx
      have := hc i m[i] (List.getElem?_eq_getElem hi)
      obtain ⟨h2, _⟩ := Array.getElem?_eq_some_iff.1 this
      simp [h2]
    · cases hx
  · rename_i e
    simp [e, hc k x hx]
theorem SI.new (w : World) (l : List UInt8) : SI w (Lib.bytesWorld w 5 (mkS l)) l l := by
  refine ⟨⟨rfl, rfl, rfl, by rw [Lib.bytesWorld_size]; omega, fun k hk => Lib.bytesWorld_at_old w 5 _ k hk⟩, _, _, Lib.bytesWorld_at_new w 5 (mkS l), ?_, fun i x hx => ?_⟩
  · simp [Lib.bytesCells, mkS]
  · have hi := (List.getElem?_eq_some_iff.1 hx).1
    simp [Lib.bytesCells, mkS, Array.getElem?_append, hi]
    rw [List.getElem?_eq_getElem hi] at hx
    injection hx with hx
    rw [hx]
theorem SI.drew {W w : World} {l m : List UInt8} (h : SI W w l m) : SI W w.drew l m := ⟨⟨h.below.os, h.below.tape, h.below.output, h.below.size, h.below.block⟩, h.blk⟩
theorem SI.text {W w : World} {l m : List UInt8} (h : SI W w l m) (n cap : Nat) (hn : m.length = n) : (convert 38 9 (.slice (some ⟨W.heap.size, 0, none⟩) n cap)).run Try.prog w = .ok (.string (mkS m)) w := by
  refine conv_bytes w _ m n cap hn fun j v hj => ?_
  rw [show (⟨W.heap.size, 0, none⟩ : Addr).add j = ⟨W.heap.size, j, none⟩ by unfold Addr.add; split <;> simp_all]
  simp only [bytesV, List.getElem?_map, Option.map_eq_some_iff] at hj
  obtain ⟨x, hx, rfl⟩ := hj
  exact h.cell hx
end Go.Proofs.Ytfejepkpjoieoaa
