/-
  The walks of New, Pending, Lines.
-/
import Derived.Test.YtkkpfencnjnddaaCore
namespace Go.Proofs.Ytkkpfencnjnddaa
open Go.RowKit
set_option maxHeartbeats 400000 in
theorem new_no (most : Int) (w : World) (h : most < 2 ∨ 65536 < most) : Calls Try.prog 10 #[.int .i64 most] w fun e w' => e = .returned (.tuple #[.pointer none, .int .i64 1]) ∧ w = w' := by
  rcases h with h | h
  · have h1 : decide (most < 2) = true := decide_eq_true h
    go_enter Try.func10, Try.ntmps10
    go_wp2
    go_ret2
    exact ⟨rfl, rfl⟩
  · have h1 : decide (most < 2) = false := decide_eq_false (by omega)
    have h2 : decide (65536 < most) = true := decide_eq_true h
    go_enter Try.func10, Try.ntmps10
    go_wp2
    go_ret2
    exact ⟨rfl, rfl⟩
theorem cut_new (B : Nat) (w : World) (most : Nat) (hB : B ≤ w.heap.size) : Cut B (w.alloc (.cells #[.int .i64 (most : Int), .slice none 0 0, .int .i64 0, .int .u8 0, .int .i64 0] 53)) w.heap.size (.slice none 0 0) most [] 0 0 0 :=
  ⟨heap_alloc_new w _, ⟨rfl, .inl ⟨rfl, rfl⟩⟩, hB⟩
set_option maxHeartbeats 400000 in
theorem new_yes (most : Nat) (w : World) (h1 : 2 ≤ most) (h2 : most ≤ 65536) : Calls Try.prog 10 #[.int .i64 (most : Int)] w fun e w' => e = .returned (.tuple #[.pointer (some ⟨w.heap.size, 0, none⟩), .int .i64 0]) ∧ w.alloc (.cells #[.int .i64 (most : Int), .slice none 0 0, .int .i64 0, .int .u8 0, .int .i64 0] 53) = w' := by
  have hd1 : decide ((most : Int) < 2) = false := decide_eq_false (by omega)
  have hd2 : decide ((65536 : Int) < (most : Int)) = false := decide_eq_false (by omega)
  go_enter Try.func10, Try.ntmps10
  go_wp2
  go_ret2
  exact ⟨rfl, rfl⟩
set_option maxHeartbeats 400000 in
theorem pending_x (g : Nat) (n : Int) (w : World) (hc : w.cell? ⟨g, 2, none⟩ = some (.int .i64 n)) : Calls Try.prog 14 #[.pointer (some ⟨g, 0, none⟩)] w fun e w' => e = .returned (.int .i64 n) ∧ w = w' := by
  go_enter Try.func14, Try.ntmps14
  go_wp2
  go_ret
  exact ⟨rfl, rfl⟩
set_option maxHeartbeats 400000 in
theorem lines_x (g : Nat) (n : Int) (w : World) (hc : w.cell? ⟨g, 4, none⟩ = some (.int .i64 n)) : Calls Try.prog 15 #[.pointer (some ⟨g, 0, none⟩)] w fun e w' => e = .returned (.int .i64 n) ∧ w = w' := by
  go_enter Try.func15, Try.ntmps15
  go_wp2
  go_ret
  exact ⟨rfl, rfl⟩
end Go.Proofs.Ytkkpfencnjnddaa
