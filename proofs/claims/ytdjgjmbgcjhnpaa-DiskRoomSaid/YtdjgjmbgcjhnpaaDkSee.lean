/-
  The walks of New, Arm, Start, Down, Changes, Read, Waits, Used.
-/
import Derived.Test.YtdjgjmbgcjhnpaaDkFind
import Derived.Test.YtdjgjmbgcjhnpaaTxts
import Derived.Test.YtdjgjmbgcjhnpaaBlk
namespace Go.Proofs.Ytdjgjmbgcjhnpaa
set_option maxRecDepth 100000
open Go.RowKit
theorem Try.sizeCut : (Try.prog.info? 31).map (·.size) = some 2 := by kernel_rfl
theorem one_two (a k : Int) : (#[.int .i64 a, .int .i64 k] : Array Value).all (fun x => x.oneCell') = true := by simp [Value.oneCell']
def armH (S : Dk) (a k : Int) : Dk := ⟨S.room, S.fs, S.off, a, k, S.chg⟩
theorem DA.apart {w w' : World} {B lim b m : Nat} {S S' : Dk} {F : List Gd} (h : DA w B lim b m S F) (hb : w'.heap[b]? = some (.cells (diskC S' m) 51 (0, 0))) (ha : Apart b w.heap.size w w') (hf : S'.fs = S.fs) : DA w' B lim b m S' F :=
  ⟨hb, h.map.block (ha.block m h.map.lt h.ne_map.symm), fun g hg => (h.gs g hg).kept (ha.block _ (ltOf (h.gs g hg).blk) (h.ne_adr hg).1) (fun k e => ha.block k (Nat.lt_of_lt_of_le ((h.gs g hg).rowlt k e) h.lim) (h.ne_row hg e).1) (Nat.le_refl _), h.sep, by rw [hf]; exact h.fs, h.low, h.lt, h.mlow, h.mlt, Nat.le_trans h.lim ha.size⟩
theorem Out.apart {B lim b : Nat} {a w w' : World} (h : Out B lim a w) (ha : Apart b w.heap.size w w') (h1 : B ≤ b) (h2 : b < lim) : Out B lim a w' :=
  ⟨ha.os.trans h.os, ha.tape.trans h.tape, ha.output.trans h.output, Nat.le_trans h.size ha.size, fun k hk ho => (ha.block k (Nat.lt_of_lt_of_le hk h.size) (by omega)).trans (h.block k hk ho)⟩
set_option maxHeartbeats 1000000 in
theorem arm_x {w : World} {B lim b m : Nat} {S : Dk} {F : List Gd} (h : DA w B lim b m S F) (a k : Int) :
    Calls Try.prog 10 #[.pointer (some ⟨b, 0, none⟩), .agg #[.int .i64 a, .int .i64 k]] w fun e w' => e = .returned (.tuple #[]) ∧ DA w' B lim b m (armD S a k) F ∧ Out B lim w w' := by
  have h0 := h.next (below_box w (.cells #[.int .i64 a, .int .i64 k] 31))
  have HO := Lib.hid (Out.of (B := B) (lim := lim) (below_box w (.cells #[.int .i64 a, .int .i64 k] 31)))
  have HD := Lib.hid h0
  have hblk := Lib.hid h0.blk
  clear h0 h
  go_enter Try.func10, Try.ntmps10
  go_wp2_with (refine wpList_store_blk rfl 31 (.tmp 8) (.tmp 6) rfl b 3 51 (diskC S m) #[.int .i64 a, .int .i64 k] (diskC (armH S a k) m) rfl rfl hblk.out Try.sizeCut (one_two a k) (Nat.le_of_ble_eq_true rfl) rfl ?_)
  intro w2 hB2 hA0
  have hA2 : Apart b (w.alloc (.cells #[.int .i64 a, .int .i64 k] 31)).heap.size (w.alloc (.cells #[.int .i64 a, .int .i64 k] 31)) w2 := by rw [show (w.alloc (.cells #[.int .i64 a, .int .i64 k] 31)).heap.size = w.heap.size + 1 by simp]; exact hA0
  have HD2 := Lib.hid (HD.out.apart hB2 hA2 rfl)
  have HO2 := Lib.hid (HO.out.apart hA2 HD.out.low HD.out.lt)
  have HD3 := Lib.hid (HD2.out.set (armD S a k) 5 (.int .i64 0) rfl rfl)
  have HO3 := Lib.hid (HO2.out.set 5 (.int .i64 0) HD.out.low HD.out.lt)
  have f5 := freeOf hB2 5
  have c5 : w2.cell? ⟨b, 5, none⟩ = some (.int .i64 (S.chg : Int)) := cellOf hB2 5
  clear hB2 hA2 hA0
  go_wp2_with fail
  go_end0
  exact ⟨rfl, HD3.out, HO3.out⟩
set_option maxHeartbeats 1000000 in
theorem start_x {w : World} {B lim b m : Nat} {S : Dk} {F : List Gd} (h : DA w B lim b m S F) :
    Calls Try.prog 14 #[.pointer (some ⟨b, 0, none⟩)] w fun e w' => e = .returned (.tuple #[]) ∧ DA w' B lim b m (startD S) F ∧ (∀ k, k ≠ b → w'.heap[k]? = w.heap[k]?) ∧ Out B lim w w' := by
  have HD := Lib.hid (h.set (startD S) 2 (.bool false) rfl rfl)
  have HO := Lib.hid ((Out.refl B lim w).set 2 (.bool false) h.low h.lt)
  have f2 := freeOf h.blk 2
  obtain ⟨_, _, c2, _, _, _⟩ := h.cells
  clear h
  go_enter Try.func14, Try.ntmps14
  go_wp2_with fail
  go_end0
  exact ⟨rfl, HD.out, set_other w b 2 _, HO.out⟩
set_option maxHeartbeats 1000000 in
theorem down_x {w : World} {B lim b m : Nat} {S : Dk} {F : List Gd} (h : DA w B lim b m S F) :
    Calls Try.prog 12 #[.pointer (some ⟨b, 0, none⟩)] w fun e w' => e = .returned (.bool S.off) ∧ w = w' := by
  obtain ⟨_, _, c2, _, _, _⟩ := h.cells
  clear h
  go_enter Try.func12, Try.ntmps12
  go_wp2_with fail
  go_ret
  exact ⟨rfl, rfl⟩
set_option maxHeartbeats 1000000 in
theorem changes_x {w : World} {B lim b m : Nat} {S : Dk} {F : List Gd} (h : DA w B lim b m S F) :
    Calls Try.prog 13 #[.pointer (some ⟨b, 0, none⟩)] w fun e w' => e = .returned (.int .i64 (S.chg : Int)) ∧ w = w' := by
  obtain ⟨_, _, _, _, _, c5⟩ := h.cells
  clear h
  go_enter Try.func13, Try.ntmps13
  go_wp2_with fail
  go_ret
  exact ⟨rfl, rfl⟩
/-- A new disk's two blocks. -/
theorem new_blk (w : World) (r : Nat) : DA ((w.alloc (.map #[] 0)).alloc (.cells (diskC (newD r) w.heap.size) 51)) w.heap.size (w.heap.size + 2) (w.heap.size + 1) w.heap.size (newD r) [] := by
  have e1 : (w.alloc (.map #[] 0)).heap.size = w.heap.size + 1 := by simp
  refine ⟨?_, ?_, by simp, List.Pairwise.nil, List.Perm.refl _, by omega, by omega, by omega, by omega, by simp⟩
  · have := newOf (w.alloc (.map #[] 0)) (.cells (diskC (newD r) w.heap.size) 51)
    rwa [e1] at this
  · refine (MapAt.made w).block ?_
    exact (below_box (w.alloc (.map #[] 0)) _).block _ (by rw [e1]; omega)
set_option maxHeartbeats 1000000 in
theorem new_x (r : Nat) (w : World) (h1 : 1 ≤ r) (h2 : r ≤ 1048576) : Calls Try.prog 9 #[.int .i64 (r : Int)] w fun e w' => ∃ b m, e = .returned (.tuple #[.pointer (some ⟨b, 0, none⟩), .int .i64 0]) ∧ DA w' w.heap.size w'.heap.size b m (newD r) [] ∧ Below w.heap.size w w' := by
  have d1 : decide ((r : Int) < 1) = false := decide_eq_false (by omega)
  have d2 : decide ((1048576 : Int) < (r : Int)) = false := decide_eq_false (by omega)
  have HN := Lib.hid (new_blk w r)
  have HB := Lib.hid ((below_box w (.map #[] 0)).alloc (by simp) (.cells (diskC (newD r) w.heap.size) 51))
  have hmm := @run_makeMap Try.prog
  clear h1 h2
  go_enter Try.func9, Try.ntmps9
  go_wp2_with fail
  go_ret2
  refine ⟨w.heap.size + 1, w.heap.size, rfl, ?_, HB.out⟩
  have := HN.out
  exact this.raise (by simp) (by simp)
set_option maxHeartbeats 1000000 in
theorem new_no (r : Int) (w : World) (h : r < 1 ∨ 1048576 < r) : Calls Try.prog 9 #[.int .i64 r] w fun e w' => e = .returned (.tuple #[.pointer none, .int .i64 1]) ∧ w = w' := by
  by_cases h1 : r < 1
  · have d1 : decide (r < 1) = true := decide_eq_true h1
    clear h
    go_enter Try.func9, Try.ntmps9
    go_wp2_with fail
    go_ret2
    exact ⟨rfl, rfl⟩
  · have d1 : decide (r < 1) = false := decide_eq_false h1
    have d2 : decide (1048576 < r) = true := decide_eq_true (by omega)
    clear h h1
    go_enter Try.func9, Try.ntmps9
    go_wp2_with fail
    go_ret2
    exact ⟨rfl, rfl⟩
end Go.Proofs.Ytdjgjmbgcjhnpaa
