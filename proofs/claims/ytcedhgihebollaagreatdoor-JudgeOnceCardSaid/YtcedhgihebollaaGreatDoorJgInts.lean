/-
  Rows of numbers as a law's arguments.
-/
import Derived.Test.YtcedhgihebollaaGreatDoorMaJgP
import Derived.Deep.Slices
import Derived.ChangeSlices
import Derived.Lib.SmallJoins
namespace Go.Proofs.YtcedhgihebollaaGreatDoor
set_option maxRecDepth 100000
open Go.ChangeShapes Go.WideShapes Go.ChangeAt Go.RowKit
theorem icell_lt {W : World} {a : Addr} {v : Value} (h : W.cell? a = some v) : a.block < W.heap.size := by
  rcases Nat.lt_or_ge a.block W.heap.size with h' | h'
  · exact h'
  · simp [World.cell?, Array.getElem?_eq_none h'] at h

/-- A slice in memory, its items as values. -/
def RowAt (w : World) (v : Value) (l : List Value) : Prop := ∃ (a : Option Addr) (cap : Nat), v = .slice a l.length cap ∧ l.length ≤ cap ∧ ∀ i u, l[i]? = some u → ∃ A, a = some A ∧ A.block < w.heap.size ∧ w.cell? (A.add i) = some u
theorem RowAt.below {w w' : World} {v : Value} {l : List Value} (h : RowAt w v l) {B : Nat} (hb : Below B w w') (hB : w.heap.size ≤ B) : RowAt w' v l := by
  obtain ⟨a, cap, hv, hc, hx⟩ := h
  refine ⟨a, cap, hv, hc, fun i u hi => ?_⟩
  obtain ⟨A, hA, hl, hat⟩ := hx i u hi
  have e : (A.add i).block < B := by rw [add_block]; omega
  exact ⟨A, hA, Nat.lt_of_lt_of_le hl hb.size, (hb.cell e).trans hat⟩
theorem RowAt.take {w : World} {a : Option Addr} {n cap : Nat} {l : List Value} (h : RowAt w (.slice a n cap) l) {k : Nat} (hk : k ≤ l.length) : RowAt w (.slice a k cap) (l.take k) := by
  obtain ⟨a', cap', hv, hc0, hc⟩ := h
  injection hv with h1 h2 h3
  subst h1 h3
  have e : (l.take k).length = k := by rw [List.length_take]; omega
  refine ⟨a, cap, by rw [e], by rw [e]; omega, fun i t hi => ?_⟩
  rw [List.getElem?_take] at hi
  split at hi
  · exact hc i t hi
  · cases hi
def intsV (l : List Int) : List Value := l.map fun n => .int .i64 n
theorem Tryz.cells3 : Tryz.prog.cellsOf 3 = 1 := by kernel_rfl
theorem arg_ints {H : Type} {enc : TypeId × Value → H} {W : World} {base : Nat} {v : Value} {d : DataW H} {p : List MemPlace} (hv : Value.okWide Tryz.prog W .any base 34 v) (h : DataW.Trod enc Tryz.prog W 0 (fun _ => true) true 34 v d p) : ∃ l : List Int, RowAt W v (intsV l) ∧ ∀ n ∈ l, -9223372036854775808 ≤ n ∧ n ≤ 9223372036854775807 := by
  obtain ⟨a0, len, cap, rfl⟩ := okWide_slice Tryz.underlying34 hv
  obtain ⟨fuel, hf⟩ := h
  rcases Go.ChangeShapes.open_ints Tryz.underlying34 Tryz.underlying3 Tryz.cells3 hf with ⟨hcs, _⟩ | ⟨a, len', cap', zs, hcs, _, hl, _, hz, _, hcell, hwf⟩
  · simp [Value.cells] at hcs
    obtain ⟨rfl, rfl, rfl⟩ := hcs
    exact ⟨[], ⟨none, 0, rfl, Nat.le_refl _, fun i c hi => by simp [intsV] at hi⟩, by simp⟩
  · simp [Value.cells] at hcs
    obtain ⟨rfl, rfl, rfl⟩ := hcs
    simp only [if_true] at hz
    have hlen : (intsV (zs.take len)).length = len := by rw [intsV, List.length_map, List.length_take]; omega
    refine ⟨zs.take len, ⟨some a, cap, by rw [hlen], by rw [hlen]; exact hl, fun i t hi => ?_⟩, fun n hn => ?_⟩
    · rw [intsV, List.getElem?_map, Option.map_eq_some_iff] at hi
      obtain ⟨q, hq, rfl⟩ := hi
      have hil : i < (zs.take len).length := (List.getElem?_eq_some_iff.1 hq).1
      rw [List.length_take] at hil
      rw [List.getElem?_take, if_pos (by omega)] at hq
      have hc := hcell i (by omega)
      have hb := icell_lt hc
      rw [add_block] at hb
      refine ⟨a, rfl, hb, ?_⟩
      rw [hc, List.getD, hq]
      rfl
    · have := hwf n (List.mem_of_mem_take hn)
      rw [Lit.wf, Bool.and_eq_true, decide_eq_true_eq, decide_eq_true_eq] at this
      exact this
theorem RowAt.ints {w : World} {v : Value} {l : List Int} (h : RowAt w v (intsV l)) : ∃ (a : Option Addr) (cap : Nat), v = .slice a l.length cap ∧ l.length ≤ cap ∧ ∀ i n, l[i]? = some n → ∃ A, a = some A ∧ A.block < w.heap.size ∧ w.cell? (A.add i) = some (.int .i64 n) := by
  obtain ⟨a, cap, hv, hc, hx⟩ := h
  refine ⟨a, cap, by rw [hv]; simp [intsV], by simpa [intsV] using hc, fun i n hi => hx i _ ?_⟩
  rw [intsV, List.getElem?_map, hi]
  rfl
theorem ints_take (l : List Int) (k : Nat) : (intsV l).take k = intsV (l.take k) := by rw [intsV, intsV, List.map_take]
end Go.Proofs.YtcedhgihebollaaGreatDoor
