/-
  The walk of awake; a clock of the call's own, step by step.
-/
import Derived.Test.YtokpenkkgbnioaaCkMath
namespace Go.Proofs.Ytokpenkkgbnioaa
set_option maxRecDepth 100000
open Go.RowKit
/-- A clock of the call's own: it lives in a block that is newer than W, and nothing of W has turned. -/
structure SA (W w : World) (b : Nat) (S : Ck) : Prop where
  new : W.heap.size ≤ b
  ck : CkAt w b S
  below : Below W.heap.size W w
theorem SA.keep {W w w' : World} {b : Nat} {S : Ck} (h : SA W w b S) (k : Kept w w') : SA W w' b S := ⟨h.new, k.ck h.ck, k.below h.below⟩
theorem Apart.base {W w w' : World} {b : Nat} (h : Apart b w.heap.size w w') (hb : Below W.heap.size W w) (hn : W.heap.size ≤ b) : Below W.heap.size W w' := hb.trans (h.below hb.size hn)
theorem SA.turn {W w w' : World} {b : Nat} {S S' : Ck} (h : SA W w b S) (hc : CkAt w' b S') (ha : Apart b w.heap.size w w') : SA W w' b S' := ⟨h.new, hc, ha.base h.below h.new⟩
theorem SA.other {W w w' : World} {b c : Nat} {S : Ck} (h : SA W w b S) (ha : Apart c w.heap.size w w') (hne : b ≠ c) (hn : W.heap.size ≤ c) : SA W w' b S := ⟨h.new, (ha.block b (ltOf h.ck) hne).trans h.ck, ha.base h.below hn⟩
theorem SA.made {W w : World} (h : Below W.heap.size W w) (S : Ck) : SA W (w.alloc (.cells (ckC S) 38)) w.heap.size S := ⟨h.size, newOf w (.cells (ckC S) 38), h.alloc h.size _⟩
theorem SA.past {W w : World} {b : Nat} {S : Ck} (h : SA W w b S) (o : Obj) : SA W (w.alloc o) b S := ⟨h.new, (belowOf h.ck ((Below.refl w.heap.size w).alloc (Nat.le_refl _) o) (ltOf h.ck)), h.below.alloc h.below.size o⟩
theorem SA.ne {W w : World} {b : Nat} {S : Ck} (h : SA W w b S) : b ≠ w.heap.size := by have := ltOf h.ck; omega
theorem read_to {w : World} {b : Nat} {S S' : Ck} {t d : Int} (h : CkAt w b S) (hi : Inv S) (ha : S.all < 1000000) (r : Int) (e : rdK S r = S') (ht : S'.tick = t) (hd : S'.tick - S.tick = d) :
    Calls Try.prog 10 #[.pointer (some ⟨b, 0, none⟩), .int .i64 r] w fun e w' => e = .returned (.tuple #[.int .i64 t, .int .i64 d]) ∧ CkAt w' b S' ∧ Apart b w.heap.size w w' := by
  subst e ht hd
  exact read_x h hi ha r
theorem due_to {w : World} {b : Nat} {S : Ck} {d : Bool} (h : CkAt w b S) (hi : Inv S) (e : decide (S.step ≤ S.tick - S.mark) = d) : Calls Try.prog 15 #[.pointer (some ⟨b, 0, none⟩)] w fun e w' => e = .returned (.bool d) ∧ Kept w w' := by
  subst e
  exact due_x h hi
theorem readings_to {w : World} {b : Nat} {S : Ck} {x y : Int} (h : CkAt w b S) (e1 : S.all = x) (e2 : S.back = y) : Calls Try.prog 11 #[.pointer (some ⟨b, 0, none⟩)] w fun e w' => e = .returned (.tuple #[.int .i64 x, .int .i64 y]) ∧ Kept w w' := by
  subst e1 e2
  exact readings_x h
theorem tick_to {w : World} {b : Nat} {S : Ck} {x : Int} (h : CkAt w b S) (e : S.tick = x) : Calls Try.prog 12 #[.pointer (some ⟨b, 0, none⟩)] w fun e w' => e = .returned (.int .i64 x) ∧ w' = w := by
  subst e
  exact tick_x h
theorem mark_to {w : World} {b : Nat} {S : Ck} {x : Int} (h : CkAt w b S) (e : S.mark = x) : Calls Try.prog 14 #[.pointer (some ⟨b, 0, none⟩)] w fun e w' => e = .returned (.int .i64 x) ∧ w' = w := by
  subst e
  exact mark_x h
theorem marked_to {w : World} {b : Nat} {S S' : Ck} {x : Int} (h : CkAt w b S) (e : S.tick = x) (e' : mkK S = S') : Calls Try.prog 16 #[.pointer (some ⟨b, 0, none⟩)] w fun e w' => e = .returned (.int .i64 x) ∧ CkAt w' b S' ∧ Apart b w.heap.size w w' := by
  subst e e'
  exact marked_x h
set_option maxHeartbeats 2000000 in
theorem awake_x (W : World) : Calls Try.prog 7 #[] W fun e w' => e = .returned (.bool true) ∧ Below W.heap.size W w' := by
  have I1 : Hid (Inv ⟨2, 2, 3, 0, 0⟩) := Lib.hid (by constructor <;> decide)
  have I2 : Hid (Inv ⟨5, 2, 3, 1, 0⟩) := Lib.hid (by constructor <;> decide)
  have I3 : Hid (Inv ⟨5, 2, 3, 2, 1⟩) := Lib.hid (by constructor <;> decide)
  have I4 : Hid (Inv ⟨5, 5, 3, 2, 1⟩) := Lib.hid (by constructor <;> decide)
  have HA : Hid (SA W (W.alloc (.cells (ckC (newK 2 3)) 38)) W.heap.size ⟨2, 2, 3, 0, 0⟩) := Lib.hid (SA.made (Below.refl W.heap.size W) (newK 2 3))
  go_enter Try.func7, Try.ntmps7
  go_wp2_with fail
  refine (new_x 2 3 W (by decide)).mono ?_
  rintro e w1 ⟨rfl, rfl⟩
  generalize (W.alloc (.cells (ckC (newK 2 3)) 38)) = w1 at HA
  generalize W.heap.size = b at HA
  go_wp2_with fail
  refine (new_no (-1) 1 w1 (by decide)).mono ?_
  rintro e w2 ⟨rfl, rfl⟩
  go_wp2_with fail
  refine (read_to (S' := ⟨5, 2, 3, 1, 0⟩) HA.out.ck I1.out (by decide) 5 rfl rfl rfl).mono ?_
  rintro e w2 ⟨rfl, hc, ha⟩
  have HA2 := Lib.hid (HA.out.turn hc ha)
  clear hc ha
  go_wp2_with fail
  refine (due_to (d := true) HA2.out.ck I2.out (by decide)).mono ?_
  rintro e w3 ⟨rfl, hk⟩
  have HA3 := Lib.hid (HA2.out.keep hk)
  clear hk
  go_wp2_with fail
  refine (read_to (S' := ⟨5, 2, 3, 2, 1⟩) HA3.out.ck I2.out (by decide) 3 rfl rfl rfl).mono ?_
  rintro e w4 ⟨rfl, hc, ha⟩
  have HA4 := Lib.hid (HA3.out.turn hc ha)
  clear hc ha
  go_wp2_with fail
  refine (readings_to HA4.out.ck rfl rfl).mono ?_
  rintro e w5 ⟨rfl, hk⟩
  have HA5 := Lib.hid (HA4.out.keep hk)
  clear hk
  go_wp2_with fail
  refine (mark_to HA5.out.ck rfl).mono ?_
  rintro e w6 ⟨rfl, rfl⟩
  go_wp2_with fail
  refine (marked_to (S' := ⟨5, 5, 3, 2, 1⟩) HA5.out.ck rfl rfl).mono ?_
  rintro e w6 ⟨rfl, hc, ha⟩
  have HA6 := Lib.hid (HA5.out.turn hc ha)
  clear hc ha
  go_wp2_with fail
  refine (mark_to HA6.out.ck rfl).mono ?_
  rintro e w7 ⟨rfl, rfl⟩
  go_wp2_with fail
  refine (due_to (d := false) HA6.out.ck I4.out (by decide)).mono ?_
  rintro e w7 ⟨rfl, hk⟩
  have HA7 := Lib.hid (HA6.out.keep hk)
  clear hk
  go_wp2_with fail
  refine (tick_to HA7.out.ck rfl).mono ?_
  rintro e w8 ⟨rfl, rfl⟩
  go_wp2_with fail
  go_ret
  exact ⟨rfl, HA7.out.below⟩
end Go.Proofs.Ytokpenkkgbnioaa
