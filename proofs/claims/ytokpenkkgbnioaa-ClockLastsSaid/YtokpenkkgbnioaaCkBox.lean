/-
  A clock in memory: its block; the walks of New, Tick, Mark, Due, Readings, Marked.
-/
import Derived.Test.YtokpenkkgbnioaaBlk
import Derived.RegionTactic
import Derived.ChangeAlike
namespace Go.Proofs.Ytokpenkkgbnioaa
set_option maxRecDepth 100000
open Go.RowKit
structure Ck where
  tick : Int
  mark : Int
  step : Int
  all : Int
  back : Int
abbrev ckC (S : Ck) : Array Value := #[.int .i64 S.tick, .int .i64 S.mark, .int .i64 S.step, .int .i64 S.all, .int .i64 S.back]
/-- A clock that lives at block b. -/
def CkAt (w : World) (b : Nat) (S : Ck) : Prop := w.heap[b]? = some (.cells (ckC S) 38 (0, 0))
structure Inv (S : Ck) : Prop where
  t0 : 0 ≤ S.tick
  t1 : S.tick ≤ 1099511627776
  m0 : 0 ≤ S.mark
  m1 : S.mark ≤ S.tick
  s0 : 1 ≤ S.step
  s1 : S.step ≤ 1048576
  a0 : 0 ≤ S.all
  a1 : S.all ≤ 1000000
  b0 : 0 ≤ S.back
  b1 : S.back ≤ S.all
/-- Nothing has turned but how many orders were drawn. -/
structure Kept (w w' : World) : Prop where
  os : w'.os = w.os
  tape : w'.tape = w.tape
  output : w'.output = w.output
  heap : w'.heap = w.heap
theorem Kept.refl (w : World) : Kept w w := ⟨rfl, rfl, rfl, rfl⟩
theorem Kept.drew (w : World) (n : Nat) : Kept w (w.drewN n) := ⟨rfl, rfl, rfl, rfl⟩
theorem Kept.trans {a b c : World} (h : Kept a b) (k : Kept b c) : Kept a c := ⟨k.os.trans h.os, k.tape.trans h.tape, k.output.trans h.output, k.heap.trans h.heap⟩
theorem Kept.ck {w w' : World} (h : Kept w w') {b : Nat} {S : Ck} (k : CkAt w b S) : CkAt w' b S := by unfold CkAt; rw [h.heap]; exact k
theorem Kept.below {a w w' : World} {n : Nat} (h : Kept w w') (k : Below n a w) : Below n a w' := ⟨h.os.trans k.os, h.tape.trans k.tape, h.output.trans k.output, by rw [h.heap]; exact k.size, fun i hi => by rw [h.heap]; exact k.block i hi⟩
theorem Apart.kept {a w w' : World} {b n : Nat} (h : Apart b n a w) (k : Kept w w') : Apart b n a w' := ⟨k.os.trans h.os, k.tape.trans h.tape, k.output.trans h.output, by rw [k.heap]; exact h.size, fun i hi hne => by rw [k.heap]; exact h.block i hi hne⟩
theorem CkAt.cells {w : World} {b : Nat} {S : Ck} (h : CkAt w b S) : w.cell? ⟨b, 0, none⟩ = some (.int .i64 S.tick) ∧ w.cell? ⟨b, 1, none⟩ = some (.int .i64 S.mark) ∧ w.cell? ⟨b, 2, none⟩ = some (.int .i64 S.step) ∧ w.cell? ⟨b, 3, none⟩ = some (.int .i64 S.all) ∧ w.cell? ⟨b, 4, none⟩ = some (.int .i64 S.back) :=
  ⟨cellOf h 0, cellOf h 1, cellOf h 2, cellOf h 3, cellOf h 4⟩
def newK (m s : Int) : Ck := ⟨m, m, s, 0, 0⟩
theorem new_x (m s : Int) (w : World) (h : 0 ≤ m ∧ m ≤ 1099511627776 ∧ 1 ≤ s ∧ s ≤ 1048576) :
    Calls Try.prog 8 #[.int .i64 m, .int .i64 s] w fun e w' => e = .returned (.tuple #[.pointer (some ⟨w.heap.size, 0, none⟩), .int .i64 0]) ∧ w' = w.alloc (.cells (ckC (newK m s)) 38) := by
  have d1 : decide (m < 0) = false := decide_eq_false (by omega)
  have d2 : decide ((1099511627776 : Int) < m) = false := decide_eq_false (by omega)
  have d3 : decide (s < 1) = false := decide_eq_false (by omega)
  have d4 : decide ((1048576 : Int) < s) = false := decide_eq_false (by omega)
  clear h
  go_enter Try.func8, Try.ntmps8
  go_wp2_with fail
  go_ret2
  exact ⟨rfl, rfl⟩
theorem new_no (m s : Int) (w : World) (h : ¬ (0 ≤ m ∧ m ≤ 1099511627776 ∧ 1 ≤ s ∧ s ≤ 1048576)) :
    Calls Try.prog 8 #[.int .i64 m, .int .i64 s] w fun e w' => e = .returned (.tuple #[.pointer none, .int .i64 1]) ∧ w' = w := by
  have H := Lib.hid h
  clear h
  by_cases h1 : m < 0
  · have d1 : decide (m < 0) = true := decide_eq_true h1
    go_enter Try.func8, Try.ntmps8
    go_wp2_with fail
    go_ret2
    exact ⟨rfl, rfl⟩
  by_cases h2 : 1099511627776 < m
  · have d1 : decide (m < 0) = false := decide_eq_false h1
    have d2 : decide ((1099511627776 : Int) < m) = true := decide_eq_true h2
    go_enter Try.func8, Try.ntmps8
    go_wp2_with fail
    go_ret2
    exact ⟨rfl, rfl⟩
  by_cases h3 : s < 1
  · have d1 : decide (m < 0) = false := decide_eq_false h1
    have d2 : decide ((1099511627776 : Int) < m) = false := decide_eq_false h2
    have d3 : decide (s < 1) = true := decide_eq_true h3
    go_enter Try.func8, Try.ntmps8
    go_wp2_with fail
    go_ret2
    exact ⟨rfl, rfl⟩
  · have d1 : decide (m < 0) = false := decide_eq_false h1
    have d2 : decide ((1099511627776 : Int) < m) = false := decide_eq_false h2
    have d3 : decide (s < 1) = false := decide_eq_false h3
    have d4 : decide ((1048576 : Int) < s) = true := decide_eq_true (by have := H.out; omega)
    go_enter Try.func8, Try.ntmps8
    go_wp2_with fail
    go_ret2
    exact ⟨rfl, rfl⟩
theorem tick_x {w : World} {b : Nat} {S : Ck} (h : CkAt w b S) : Calls Try.prog 12 #[.pointer (some ⟨b, 0, none⟩)] w fun e w' => e = .returned (.int .i64 S.tick) ∧ w' = w := by
  obtain ⟨c0, _⟩ := h.cells
  clear h
  go_enter Try.func12, Try.ntmps12
  go_wp2_with fail
  go_ret
  exact ⟨rfl, rfl⟩
theorem mark_x {w : World} {b : Nat} {S : Ck} (h : CkAt w b S) : Calls Try.prog 14 #[.pointer (some ⟨b, 0, none⟩)] w fun e w' => e = .returned (.int .i64 S.mark) ∧ w' = w := by
  obtain ⟨_, c1, _⟩ := h.cells
  clear h
  go_enter Try.func14, Try.ntmps14
  go_wp2_with fail
  go_ret
  exact ⟨rfl, rfl⟩
theorem readings_x {w : World} {b : Nat} {S : Ck} (h : CkAt w b S) : Calls Try.prog 11 #[.pointer (some ⟨b, 0, none⟩)] w fun e w' => e = .returned (.tuple #[.int .i64 S.all, .int .i64 S.back]) ∧ Kept w w' := by
  obtain ⟨_, _, _, c3, c4⟩ := h.cells
  clear h
  go_enter Try.func11, Try.ntmps11
  go_wp2_with fail
  go_quiet (fail)
  go_wp2_with fail
  go_ret2
  exact ⟨rfl, Kept.drew _ _⟩
theorem due_x {w : World} {b : Nat} {S : Ck} (h : CkAt w b S) (hi : Inv S) : Calls Try.prog 15 #[.pointer (some ⟨b, 0, none⟩)] w fun e w' => e = .returned (.bool (decide (S.step ≤ S.tick - S.mark))) ∧ Kept w w' := by
  obtain ⟨c0, c1, c2, _⟩ := h.cells
  obtain ⟨t0, t1, m0, m1, _, _, _, _, _, _⟩ := hi
  clear h
  go_enter Try.func15, Try.ntmps15
  go_wp2_with fail
  go_quiet (fail)
  go_wp2_with fail
  go_ret
  exact ⟨rfl, Kept.drew _ _⟩
def mkK (S : Ck) : Ck := ⟨S.tick, S.tick, S.step, S.all, S.back⟩
theorem Inv.marked {S : Ck} (h : Inv S) : Inv (mkK S) := ⟨h.t0, h.t1, h.t0, Int.le_refl _, h.s0, h.s1, h.a0, h.a1, h.b0, h.b1⟩
theorem marked_x {w : World} {b : Nat} {S : Ck} (h : CkAt w b S) : Calls Try.prog 16 #[.pointer (some ⟨b, 0, none⟩)] w fun e w' => e = .returned (.int .i64 S.tick) ∧ CkAt w' b (mkK S) ∧ Apart b w.heap.size w w' := by
  obtain ⟨c0, _⟩ := h.cells
  have f1 := freeOf h 1
  have HS := Lib.hid (setOf h 1 (.int .i64 S.tick))
  clear h
  go_enter Try.func16, Try.ntmps16
  go_wp2_with fail
  go_ret
  exact ⟨rfl, HS.out, (Apart.refl _ _ _).set 1 _⟩
end Go.Proofs.Ytokpenkkgbnioaa
