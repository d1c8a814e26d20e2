/-
  The walk of New.
-/
import Derived.Test.YtmmghdnlppjgbaaWhSet2
namespace Go.Proofs.Ytmmghdnlppjgbaa
set_option maxRecDepth 100000
open Go.RowKit
theorem new_no (n : Int) (w : World) (h : ¬ (0 ≤ n ∧ n ≤ 1099511627776)) : Calls Try.prog 9 #[.int .i64 n] w fun e w' => e = .returned (.tuple #[.pointer none, .int .i64 1]) ∧ w' = w := by
  have H := Lib.hid h
  clear h
  by_cases h1 : n < 0
  · have d1 : decide (n < 0) = true := decide_eq_true h1
    go_enter Try.func9, Try.ntmps9
    go_wp2_with fail
    go_ret2
    exact ⟨rfl, rfl⟩
  have d1 : decide (n < 0) = false := decide_eq_false h1
  have d3 : decide ((1099511627776 : Int) < n) = true := decide_eq_true (by have := H.out; omega)
  go_enter Try.func9, Try.ntmps9
  go_wp2_with fail
  go_ret2
  exact ⟨rfl, rfl⟩
theorem zero_cells : Try.zeroCells65 = (#[.int .i64 0, .map none] ++ Array.replicate 256 (.map none) ++ #[.slice none 0 0] : Array Value) := by kernel_rfl
theorem new_block (n : Int) (m : Nat) (w : World) : WB (w.alloc (.cells ((Try.zeroCells65.setIfInBounds 0 (.int .i64 n)).setIfInBounds 1 (.map (some m))) 65)) w.heap.size n m (fun _ => none) (.slice none 0 0) := by
  refine ⟨_, newOf w _, ?_, ?_, ?_, fun k hk => ?_, ?_⟩
  · rw [zero_cells]; simp
  · rw [zero_cells, Array.getElem?_setIfInBounds_ne (by omega), Array.getElem?_setIfInBounds_self_of_lt (by simp)]
  · rw [zero_cells, Array.getElem?_setIfInBounds_self_of_lt (by simp)]
  · rw [zero_cells, Array.getElem?_setIfInBounds_ne (by omega), Array.getElem?_setIfInBounds_ne (by omega), Array.getElem?_append_left (by simp; omega), Array.getElem?_append_right (by simp), Array.getElem?_replicate]
    simp [hk]
  · rw [zero_cells, Array.getElem?_setIfInBounds_ne (by omega), Array.getElem?_setIfInBounds_ne (by omega), Array.getElem?_append_right (by simp)]
    simp
set_option maxHeartbeats 4000000 in
theorem new_x (n : Int) (w : World) (h : 0 ≤ n ∧ n ≤ 1099511627776) : Calls Try.prog 9 #[.int .i64 n] w fun e w' => ∃ b, e = .returned (.tuple #[.pointer (some ⟨b, 0, none⟩), .int .i64 0]) ∧ (∃ O', PW O' b n [] w' ∧ ∀ k, O' k → w.heap.size ≤ k) ∧ Below w.heap.size w w' := by
  have d1 : decide (n < 0) = false := decide_eq_false (by omega)
  have d3 : decide ((1099511627776 : Int) < n) = false := decide_eq_false (by omega)
  have hMk := make_map
  go_enter Try.func9, Try.ntmps9
  go_wp2_with fail
  go_ret2
  have hm : JAt (w.alloc (.map #[] 0)) w.heap.size [] := JAt.made w
  have wb := new_block n w.heap.size (w.alloc (.map #[] 0))
  have sz : (w.alloc (.map #[] 0)).heap.size = w.heap.size + 1 := by simp
  have hb : Below w.heap.size w ((w.alloc (.map #[] 0)).alloc (.cells ((Try.zeroCells65.setIfInBounds 0 (.int .i64 n)).setIfInBounds 1 (.map (some w.heap.size))) 65)) := ((Below.refl _ w).alloc (Nat.le_refl _) _).alloc (by simp) _
  rw [sz] at wb
  have hm2 := hm.block (w' := (w.alloc (.map #[] 0)).alloc (.cells ((Try.zeroCells65.setIfInBounds 0 (.int .i64 n)).setIfInBounds 1 (.map (some w.heap.size))) 65)) (Below.heap_alloc _ _ _ (by simp))
  generalize hw2 : (w.alloc (.map #[] 0)).alloc (.cells ((Try.zeroCells65.setIfInBounds 0 (.int .i64 n)).setIfInBounds 1 (.map (some w.heap.size))) 65) = w2 at *
  have sz2 : w2.heap.size = w.heap.size + 2 := by rw [← hw2]; simp
  clear hw2
  have hs : HS (fun k => k = w.heap.size ∨ k = w.heap.size + 1) (w.heap.size + 1) n w.heap.size (fun _ => none) (.slice none 0 0) [] w2 := by
    refine ⟨wb, ⟨rfl, .inl ⟨rfl, rfl⟩⟩, ?_, ?_, .inr rfl, ?_, ?_, ?_, ?_⟩
    · intro k x hx; simp at hx
    · simp
    · intro g hg; simp [Value.ownBlock] at hg
    · intro x hx; simp at hx
    · simp
    · intro k hk; omega
  have wc : WC (fun k => k = w.heap.size ∨ k = w.heap.size + 1) (w.heap.size + 1) n [] [] [] w.heap.size (fun _ => none) (.slice none 0 0) [] w2 := by
    refine ⟨hs, ?_, ?_, hm2, ?_, ?_, ?_, ?_, ?_, ?_, ?_, ?_, .inl rfl, ?_, ?_⟩
    · intro p c _ hc; simp at hc
    · exact List.Perm.refl _
    · intro k m _ e; cases e
    · intro k _ _ t ht; simp at ht
    · intro k k' m _ _ e; cases e
    · intro k _ e; cases e
    · intro t ht; simp at ht
    · intro t ht; simp at ht
    · simp
    · intro t ht; simp at ht
    · intro k m _ e; cases e
    · intro t ht; simp at ht
  refine ⟨w.heap.size + 1, rfl, ⟨_, ⟨[], _, _, _, _, wc, ?_⟩, ?_⟩, hb⟩
  · refine ⟨?_, List.Perm.refl _, List.Pairwise.nil, ?_, h.1, h.2, ?_, ?_⟩
    · intro t ht; simp at ht
    · simp
    · intro t ht; simp at ht
    · intro t ht; simp at ht
  · intro k hk; omega
end Go.Proofs.Ytmmghdnlppjgbaa
