/-
  What a slice of paths is, as the row reads it.
-/
import Derived.Test.YtamjoleknjmpoaaOpenPath
import Derived.Test.YtamjoleknjmpoaaPtJoin
import Derived.Deep.SlicePairs
namespace Go.Proofs.Ytamjoleknjmpoaa
open Go.ChangeShapes Go.WideShapes Go.ChangeAt Go.RowKit
theorem add_succ (a : Addr) (k : Nat) : a.add (k + 1) = ⟨(a.add k).block, (a.add k).off + 1, none⟩ := by
  unfold Addr.add
  split
  · rename_i h; omega
  · split
    · rename_i h; subst h; rfl
    · simp [Nat.add_assoc]
/-- A slice of nil has no room. -/
def NilOk (v : Value) : Prop := ∀ n cap, v = .slice none n cap → cap = 0
theorem cell_at_lt {W : World} {a : Addr} {v : Value} (h : W.cell? a = some v) : a.block < W.heap.size := by
  rcases Nat.lt_or_ge a.block W.heap.size with h' | h'
  · exact h'
  · simp [World.cell?, Array.getElem?_eq_none h'] at h
theorem arg_paths {H : Type} {enc : TypeId × Value → H} {W : World} {base : Nat} {v : Value} {d : DataW H} {p : List MemPlace} (hv : Value.okWide Try.prog W .any base 44 v) (h : DataW.Trod enc Try.prog W 0 (fun _ => true) true 44 v d p) :
    ∃ ps : List Pth, PathsAt W v ps ∧ NilOk v := by
  obtain ⟨a0, len, cap, rfl⟩ := okWide_slice Try.underlying44 hv
  obtain ⟨fuel, hf⟩ := h
  rcases Go.Deep.open_slice_pairs Try.underlying44 Try.underlying23 (by kernel_rfl) rfl rfl (by kernel_rfl) (by kernel_rfl) hf with ⟨hcs, _⟩ | ⟨a, len', cap', m, n, V0, V1, D0, D1, P0, P1, hcs, _, hl, _, hm, _, hx⟩
  · simp [Value.cells] at hcs
    obtain ⟨rfl, rfl, rfl⟩ := hcs
    exact ⟨[], ⟨none, 0, rfl, fun i p hi => by simp at hi⟩, fun n cap h => by cases h; rfl⟩
  · simp [Value.cells] at hcs
    obtain ⟨rfl, rfl, rfl⟩ := hcs
    have hlm : len ≤ m := by rw [hm]; simp; exact hl
    have key : ∀ i, i < len → ∃ q : Pth, W.cell? (a.add (i * 2)) = some (.string (mkS q.1)) ∧ W.cell? (a.add (i * 2 + 1)) = some (.string (mkS q.2)) := by
      intro i hi
      obtain ⟨h0, h1, h2, h3⟩ := hx i (by omega)
      obtain ⟨s0, e0, _⟩ := DataW.trod_string Try.underlying9 h2
      obtain ⟨s1, e1, _⟩ := DataW.trod_string Try.underlying9 h3
      injection e0 with e0
      injection e1 with e1
      rw [e0] at h0
      rw [e1] at h1
      obtain ⟨l0, rfl⟩ := mkS_of s0
      obtain ⟨l1, rfl⟩ := mkS_of s1
      exact ⟨(l0, l1), h0, h1⟩
    have key2 : ∃ f : Nat → Pth, ∀ i, i < len → W.cell? (a.add (i * 2)) = some (.string (mkS (f i).1)) ∧ W.cell? (a.add (i * 2 + 1)) = some (.string (mkS (f i).2)) := by
      refine ⟨fun i => if h : i < len then (key i h).choose else ([], []), fun i hi => ?_⟩
      simp only [hi, dif_pos]
      exact (key i hi).choose_spec
    obtain ⟨f, hfi⟩ := key2
    refine ⟨(List.range len).map f, ⟨some a, cap, by simp, fun i p hi => ?_⟩, fun n cap h => by cases h⟩
    rw [List.getElem?_map] at hi
    obtain ⟨j, hj, rfl⟩ := Option.map_eq_some_iff.1 hi
    obtain ⟨hlt, e⟩ := List.getElem?_eq_some_iff.1 hj
    simp at hlt e
    subst e
    obtain ⟨c0, c1⟩ := hfi i hlt
    have hb := cell_at_lt c0
    rw [add_block] at hb
    exact ⟨a, rfl, hb, c0, by rw [← add_succ]; exact c1⟩
end Go.Proofs.Ytamjoleknjmpoaa
