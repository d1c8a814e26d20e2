/-
  Stores and loads of many cells in one step.
-/
import Derived.Test.YtjjndndhmccflaaBase
import Derived.Deep.MidRow
import Derived.Laws.ResultCell
namespace Go.Proofs.Ytjjndndhmccflaa
set_option maxRecDepth 100000
open Go.RowKit
/-- Whatever lay below n, but for one block, lies as it lay. -/
structure Apart (mb n : Nat) (a w : World) : Prop where
  os : w.os = a.os
  tape : w.tape = a.tape
  output : w.output = a.output
  size : a.heap.size ≤ w.heap.size
  block : ∀ k, k < n → k ≠ mb → w.heap[k]? = a.heap[k]?
theorem Apart.refl (mb n : Nat) (w : World) : Apart mb n w w := ⟨rfl, rfl, rfl, Nat.le_refl _, fun _ _ _ => rfl⟩
theorem Apart.of {mb n : Nat} {a w : World} (h : Below n a w) : Apart mb n a w := ⟨h.os, h.tape, h.output, h.size, fun k hk _ => h.block k hk⟩
theorem Apart.trans {mb n : Nat} {a b c : World} (h : Apart mb n a b) (k : Apart mb n b c) : Apart mb n a c :=
  ⟨k.os.trans h.os, k.tape.trans h.tape, k.output.trans h.output, Nat.le_trans h.size k.size, fun i hi hne => (k.block i hi hne).trans (h.block i hi hne)⟩
theorem Apart.mono {mb n m : Nat} {a w : World} (h : Apart mb n a w) (hm : m ≤ n) : Apart mb m a w := ⟨h.os, h.tape, h.output, h.size, fun k hk hne => h.block k (Nat.lt_of_lt_of_le hk hm) hne⟩
theorem Apart.next {mb : Nat} {a b c : World} (h : Apart mb a.heap.size a b) (k : Apart mb b.heap.size b c) : Apart mb a.heap.size a c := h.trans (k.mono h.size)
theorem Apart.set {mb n : Nat} {a w : World} (h : Apart mb n a w) (i : Nat) (v : Value) : Apart mb n a (w.setCell ⟨mb, i, none⟩ v) :=
  ⟨h.os, h.tape, h.output, by rw [World.size_setCell]; exact h.size, fun k hk hne => (Below.heap_setCell _ _ _ k (fun e => hne e)).trans (h.block k hk hne)⟩
theorem Apart.cell {mb n : Nat} {a w : World} (h : Apart mb n a w) {b : Nat} (hb : b < n) (hne : b ≠ mb) (o : Nat) (x : Option Nat) : w.cell? ⟨b, o, x⟩ = a.cell? ⟨b, o, x⟩ := by
  simp only [World.cell?, h.block b hb hne]
theorem Apart.below {mb n m : Nat} {a w : World} (h : Apart mb n a w) (h1 : m ≤ n) (h2 : m ≤ mb) : Below m a w := ⟨h.os, h.tape, h.output, h.size, fun k hk => h.block k (by omega) (by omega)⟩
section
variable {P : Program} {ops : Array Oper} {rest : List Oper} {op : Oper} {a : Act} {w : World} {Q : Exit → Act → World → Prop}
theorem setCells_block (b : Nat) (t : TypeId) : ∀ (vs : List Value) (o : Nat) (cs : Array Value) (w : World), w.heap[b]? = some (.cells cs t (0, 0)) → o + vs.length ≤ cs.size → ∃ cs', (w.setCells b o vs).heap[b]? = some (.cells cs' t (0, 0)) ∧ cs'.size = cs.size ∧ (∀ i, i < o → cs'[i]? = cs[i]?) ∧ (∀ j, j < vs.length → cs'[o + j]? = vs[j]?) ∧ (∀ i, o + vs.length ≤ i → cs'[i]? = cs[i]?)
  | [], o, cs, w, h, _ => ⟨cs, h, rfl, fun _ _ => rfl, fun _ hj => absurd hj (Nat.not_lt_zero _), fun _ _ => rfl⟩
  | v :: vs, o, cs, w, h, hl => by
    rw [List.length_cons] at hl
    obtain ⟨cs', h1, h2, h3, h4, h5⟩ := setCells_block b t vs (o + 1) (cs.setIfInBounds o v) (w.setCell ⟨b, o, none⟩ v) (setOf h o v) (by simp; omega)
    refine ⟨cs', h1, by simpa using h2, fun i hi => ?_, fun j hj => ?_, fun i hi => ?_⟩
    · rw [h3 i (by omega), Array.getElem?_setIfInBounds_ne (by omega)]
    · cases j with
      | zero =>
        have ho : o < cs.size := by omega
        rw [Nat.add_zero, h3 o (by omega), Array.getElem?_setIfInBounds_self_of_lt ho]; rfl
      | succ j => rw [List.length_cons] at hj; rw [List.getElem?_cons_succ, ← h4 j (by omega)]; congr 1; omega
    · rw [List.length_cons] at hi; rw [h5 i (by omega), Array.getElem?_setIfInBounds_ne (by omega)]
theorem setCells_apart (b : Nat) : ∀ (vs : List Value) (o : Nat) (w : World), Apart b w.heap.size w (w.setCells b o vs)
  | [], _, w => Apart.refl _ _ _
  | v :: vs, o, w => by
    have h := setCells_apart b vs (o + 1) (w.setCell ⟨b, o, none⟩ v)
    rw [World.size_setCell] at h
    exact (Apart.set (Apart.refl b w.heap.size w) o v).trans h
/-- A store of many cells into the midst of a block that is known whole. -/
theorem wpList_store_blk (hgd : op.guard = none) (ty : TypeId) (x y : Operand) (ho : op.op = .store ty x y) (b o : Nat) (t : TypeId) (cs vs cs' : Array Value) (hx : a.eval x = .pointer (some ⟨b, o, none⟩)) (hy : a.eval y = .agg vs)
    (hb : w.heap[b]? = some (.cells cs t (0, 0))) (hi : (P.info? ty).map (·.size) = some vs.size) (h1 : vs.all (·.oneCell') = true) (hs : o + vs.size ≤ cs.size) (hc : cs' = (cs.toList.take o ++ vs.toList ++ cs.toList.drop (o + vs.size)).toArray)
    (h : ∀ w', w'.heap[b]? = some (.cells cs' t (0, 0)) → Apart b w.heap.size w w' → wpList P ops Q rest (a.put op.dst undef) w') : wpList P ops Q (op :: rest) a w := by
  refine wpList_store_mid hgd ty x y ho b o vs hx hy (fun j hj => ⟨?_, freeOf hb _⟩) hi h1 ?_
  · rw [cellOf hb, Array.getElem?_eq_getElem (by omega)]; rfl
  · obtain ⟨c2, k1, k2, k3, k4, k5⟩ := setCells_block b t vs.toList o cs w hb (by simpa using hs)
    refine h _ ?_ (setCells_apart b vs.toList o w)
    rw [k1]
    have : c2 = cs' := by
      rw [hc]
      apply Array.toList_inj.1
      show c2.toList = cs.toList.take o ++ vs.toList ++ cs.toList.drop (o + vs.size)
      apply List.ext_getElem?
      intro i
      rw [Array.getElem?_toList]
      have l1 : (cs.toList.take o).length = o := by rw [List.length_take, Array.length_toList]; omega
      by_cases hi : i < o
      · rw [k3 i hi, List.append_assoc, List.getElem?_append_left (by omega), List.getElem?_take_of_lt hi, Array.getElem?_toList]
      · by_cases hi2 : i < o + vs.size
        · obtain ⟨j, rfl⟩ : ∃ j, i = o + j := ⟨i - o, by omega⟩
          rw [k4 j (by rw [Array.length_toList]; omega), List.append_assoc, List.getElem?_append_right (by omega), l1, Nat.add_sub_cancel_left, List.getElem?_append_left (by rw [Array.length_toList]; omega)]
        · rw [k5 i (by rw [Array.length_toList]; omega), List.getElem?_append_right (by rw [List.length_append, l1, Array.length_toList]; omega), List.length_append, l1, Array.length_toList, List.getElem?_drop, Array.getElem?_toList]
          congr 1; omega
    rw [this]
/-- A load of a block's cells, from o on. -/
theorem wpList_load_blk (hgd : op.guard = none) (ty : TypeId) (x : Operand) (ho : op.op = .load ty x) (b o : Nat) (t : TypeId) (cs vs : Array Value) (d : TypeDesc) (hx : a.eval x = .pointer (some ⟨b, o, none⟩)) (hb : w.heap[b]? = some (.cells cs t (0, 0)))
    (hu : P.underlying ty = some d) (hd : d.isRow = true) (hi : (P.info? ty).map (·.size) = some vs.size) (hc : ∀ j, j < vs.size → cs[o + j]? = vs[j]?)
    (h : wpList P ops Q rest (a.put op.dst (.agg vs)) w) : wpList P ops Q (op :: rest) a w := by
  refine wpList_load_mid hgd ty x ho b o hx vs.toList d (fun j v hv => ?_) hu hd (by simpa using hi) (by simpa using h)
  rw [cellOf hb]
  rw [Array.getElem?_toList] at hv
  rw [hc j (Array.getElem?_eq_some_iff.1 hv).1]; exact hv
theorem loadVar_blk {ty t : TypeId} {b o : Nat} {cs vs : Array Value} {d : TypeDesc} (hb : w.heap[b]? = some (.cells cs t (0, 0))) (hu : P.underlying ty = some d) (hd : d.isRow = true) (hi : (P.info? ty).map (·.size) = some vs.size) (hc : ∀ j, j < vs.size → cs[o + j]? = vs[j]?) :
    (loadVar ty ⟨b, o, none⟩).run P w = .ok (.agg vs) w := by
  have := run_loadVar_mid (P := P) w b o ty vs.toList d (fun j v hv => by
    rw [cellOf hb]
    rw [Array.getElem?_toList] at hv
    rw [hc j (Array.getElem?_eq_some_iff.1 hv).1]; exact hv) hu hd (by simpa using hi)
  simpa using this
end
end Go.Proofs.Ytjjndndhmccflaa
