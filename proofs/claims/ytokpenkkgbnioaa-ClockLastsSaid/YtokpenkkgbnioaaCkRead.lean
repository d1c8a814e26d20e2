/-
  The walks of Read and of its deferred closure.
-/
import Derived.Test.YtokpenkkgbnioaaCkBox
import Derived.Defers
import Derived.FnLit
namespace Go.Proofs.Ytokpenkkgbnioaa
set_option maxRecDepth 100000
open Go.RowKit
/-- Two variables set, nothing else. -/
structure Two (w w' : World) (x y : Nat) (u v : Value) : Prop where
  os : w'.os = w.os
  tape : w'.tape = w.tape
  output : w'.output = w.output
  size : w'.heap.size = w.heap.size
  block : ∀ k, k ≠ x → k ≠ y → w'.heap[k]? = w.heap[k]?
  cx : w'.cell? ⟨x, 0, none⟩ = some u
  cy : w'.cell? ⟨y, 0, none⟩ = some v
theorem two_xy (w : World) {x y : Nat} (hne : x ≠ y) {u v p q : Value} {tx ty : TypeId} (hx : w.heap[x]? = some (.cells #[p] tx (0, 0))) (hy : w.heap[y]? = some (.cells #[q] ty (0, 0))) : Two w ((w.drew.setCell ⟨x, 0, none⟩ u).setCell ⟨y, 0, none⟩ v) x y u v := by
  have h1 := setOf (w := w.drew) hx 0 u
  have h2 : (w.drew.setCell ⟨x, 0, none⟩ u).heap[y]? = some (.cells #[q] ty (0, 0)) := (Below.heap_setCell w.drew ⟨x, 0, none⟩ u y (fun e => hne e.symm)).trans hy
  have h3 := setOf h2 0 v
  have h4 := (Below.heap_setCell (w.drew.setCell ⟨x, 0, none⟩ u) ⟨y, 0, none⟩ v x hne).trans h1
  refine ⟨rfl, rfl, rfl, by simp [World.setCell], fun k k1 k2 => ?_, cellOf h4 0, cellOf h3 0⟩
  exact (Below.heap_setCell _ ⟨y, 0, none⟩ v k k2).trans (Below.heap_setCell w.drew ⟨x, 0, none⟩ u k k1)
theorem two_yx (w : World) {x y : Nat} (hne : x ≠ y) {u v p q : Value} {tx ty : TypeId} (hx : w.heap[x]? = some (.cells #[p] tx (0, 0))) (hy : w.heap[y]? = some (.cells #[q] ty (0, 0))) : Two w ((w.drew.setCell ⟨y, 0, none⟩ v).setCell ⟨x, 0, none⟩ u) x y u v := by
  have := two_xy w (Ne.symm hne) (u := v) (v := u) hy hx
  exact ⟨this.os, this.tape, this.output, this.size, fun k k1 k2 => this.block k k2 k1, this.cy, this.cx⟩
set_option maxHeartbeats 1000000 in
theorem went_x {w : World} {b n q x y : Nat} {S : Ck} {t : Int} (h : CkAt w b S) (hi : Inv S) (ht : 0 ≤ t ∧ t ≤ 1099511627776) (cn : w.cell? ⟨n, 0, none⟩ = some (.pointer (some ⟨b, 0, none⟩))) (cq : w.cell? ⟨q, 0, none⟩ = some (.int .i64 t)) (hne : x ≠ y) (hxb : x ≠ b) (hyb : y ≠ b) (hxn : x ≠ n) (hyn : y ≠ n) (hxq : x ≠ q) (hyq : y ≠ q)
    {p r : Value} {tx ty : TypeId} (hx : w.heap[x]? = some (.cells #[p] tx (0, 0))) (hy : w.heap[y]? = some (.cells #[r] ty (0, 0))) (u : FrameMode) :
    CallsD Try.prog 17 #[.pointer (some ⟨n, 0, none⟩), .pointer (some ⟨q, 0, none⟩), .pointer (some ⟨x, 0, none⟩), .pointer (some ⟨y, 0, none⟩)] u w fun e u' w' => u' = u ∧ (e = .returned (.tuple #[]) ∧ Two w w' x y (.int .i64 S.tick) (.int .i64 (S.tick - t))) := by
  obtain ⟨c0, _⟩ := h.cells
  have cx := cellOf hx 0
  have cy := cellOf hy 0
  have fx := freeOf hx 0
  have fy := freeOf hy 0
  have H1 := Lib.hid (two_xy w hne (u := .int .i64 S.tick) (v := .int .i64 (S.tick - t)) hx hy)
  have H2 := Lib.hid (two_yx w hne (u := .int .i64 S.tick) (v := .int .i64 (S.tick - t)) hx hy)
  obtain ⟨t0, t1, _, _, _, _, _, _, _, _⟩ := hi
  obtain ⟨q0, q1⟩ := ht
  clear h hx hy
  go_enter_d Try.func17, Try.ntmps17
  go_wp2_with fail
  go_region
  all_goals (go_end0; first | exact ⟨rfl, H1.out⟩ | exact ⟨rfl, H2.out⟩)
def rdK (S : Ck) (r : Int) : Ck := ⟨max S.tick (min r 1099511627776), S.mark, S.step, S.all + 1, if r < S.tick then S.back + 1 else S.back⟩
theorem Inv.read {S : Ck} (h : Inv S) (r : Int) (ha : S.all < 1000000) : Inv (rdK S r) := by
  obtain ⟨t0, t1, m0, m1, s0, s1, a0, a1, b0, b1⟩ := h
  refine ⟨?_, ?_, m0, ?_, s0, s1, ?_, ?_, ?_, ?_⟩ <;> simp only [rdK] <;> (try split) <;> omega
/-- The four variables of a reading, laid. -/
abbrev rdW (w : World) (b : Nat) (t : Int) : World := (((w.alloc (.cells #[.pointer (some ⟨b, 0, none⟩)] 25)).alloc (.cells #[.int .i64 0] 3)).alloc (.cells #[.int .i64 0] 3)).alloc (.cells #[.int .i64 t] 3)
structure Door (w wD : World) (b : Nat) (t : Int) (S' : Ck) : Prop where
  ck : CkAt wD b S'
  n0 : wD.cell? ⟨w.heap.size, 0, none⟩ = some (.pointer (some ⟨b, 0, none⟩))
  n1 : wD.heap[w.heap.size + 1]? = some (.cells #[.int .i64 0] 3 (0, 0))
  n2 : wD.heap[w.heap.size + 1 + 1]? = some (.cells #[.int .i64 0] 3 (0, 0))
  n3 : wD.cell? ⟨w.heap.size + 1 + 1 + 1, 0, none⟩ = some (.int .i64 t)
  ap : Apart b w.heap.size w wD
theorem below_rdW (w : World) (b : Nat) (t : Int) : Below w.heap.size w (rdW w b t) := (((Below.refl w.heap.size w).alloc (Nat.le_refl _) (.cells #[.pointer (some ⟨b, 0, none⟩)] 25)).alloc (by simp) (.cells #[.int .i64 0] 3) |>.alloc (by simp; omega) (.cells #[.int .i64 0] 3)).alloc (by simp; omega) (.cells #[.int .i64 t] 3)
theorem door0 {w : World} {b : Nat} {S : Ck} (h : CkAt w b S) : Door w (rdW w b S.tick) b S.tick S := by
  have hb := ltOf h
  have hB := below_rdW w b S.tick
  have e : (rdW w b S.tick).heap = (((w.heap.push (.cells #[.pointer (some ⟨b, 0, none⟩)] 25)).push (.cells #[.int .i64 0] 3)).push (.cells #[.int .i64 0] 3)).push (.cells #[.int .i64 S.tick] 3) := rfl
  have e0 : (rdW w b S.tick).heap[w.heap.size]? = some (.cells #[.pointer (some ⟨b, 0, none⟩)] 25 (0, 0)) := by rw [e]; simp only [Array.getElem?_push, Array.size_push]; repeat (first | rw [if_pos trivial] | rw [if_pos (by omega)] | rw [if_neg (by omega)])
  have e1 : (rdW w b S.tick).heap[w.heap.size + 1]? = some (.cells #[.int .i64 0] 3 (0, 0)) := by rw [e]; simp only [Array.getElem?_push, Array.size_push]; repeat (first | rw [if_pos trivial] | rw [if_pos (by omega)] | rw [if_neg (by omega)])
  have e2 : (rdW w b S.tick).heap[w.heap.size + 1 + 1]? = some (.cells #[.int .i64 0] 3 (0, 0)) := by rw [e]; simp only [Array.getElem?_push, Array.size_push]; repeat (first | rw [if_pos trivial] | rw [if_pos (by omega)] | rw [if_neg (by omega)])
  have e3 : (rdW w b S.tick).heap[w.heap.size + 1 + 1 + 1]? = some (.cells #[.int .i64 S.tick] 3 (0, 0)) := by rw [e]; simp only [Array.getElem?_push, Array.size_push]; repeat (first | rw [if_pos trivial] | rw [if_pos (by omega)] | rw [if_neg (by omega)])
  exact ⟨(hB.block b hb).trans h, cellOf e0 0, e1, e2, cellOf e3 0, Apart.of hB⟩
theorem Door.set {w wD : World} {b : Nat} {t : Int} {S1 : Ck} (h : Door w wD b t S1) (hb : b < w.heap.size) (i : Nat) (u : Value) (S2 : Ck) (e : (ckC S1).setIfInBounds i u = ckC S2) : Door w (wD.setCell ⟨b, i, none⟩ u) b t S2 := by
  have hk : ∀ k, k ≠ b → (wD.setCell ⟨b, i, none⟩ u).heap[k]? = wD.heap[k]? := fun k hk => Below.heap_setCell wD ⟨b, i, none⟩ u k hk
  refine ⟨?_, ?_, (hk _ (by omega)).trans h.n1, (hk _ (by omega)).trans h.n2, ?_, h.ap.set i u⟩
  · have := setOf h.ck i u
    rw [e] at this
    exact this
  · exact (World.cell?_of_block (a := ⟨w.heap.size, 0, none⟩) (hk _ (by show w.heap.size ≠ b; omega))).trans h.n0
  · exact (World.cell?_of_block (a := ⟨w.heap.size + 1 + 1 + 1, 0, none⟩) (hk _ (by show w.heap.size + 1 + 1 + 1 ≠ b; omega))).trans h.n3
theorem Door.drew {w wD : World} {b : Nat} {t : Int} {S1 : Ck} (h : Door w wD b t S1) : Door w wD.drew b t S1 := ⟨h.ck, h.n0, h.n1, h.n2, h.n3, ⟨h.ap.os, h.ap.tape, h.ap.output, h.ap.size, h.ap.block⟩⟩
theorem Door.leaves {w wD : World} {b : Nat} {S S' : Ck} (h : Door w wD b S.tick S') (hb : b < w.heap.size) (hi : Inv S) (hi' : Inv S') (tmps : Array Value) (h4 : tmps[4]? = some (.pointer (some ⟨w.heap.size + 1, 0, none⟩))) (h5 : tmps[5]? = some (.pointer (some ⟨w.heap.size + 1 + 1, 0, none⟩))) :
    bodyPostD Try.prog Try.f10 (fun e w' => e = .returned (.tuple #[.int .i64 S'.tick, .int .i64 (S'.tick - S.tick)]) ∧ CkAt w' b S' ∧ Apart b w.heap.size w w') .ret
      { tmps := tmps, defers := [{ target := .fn (.func 17) #[.pointer (some ⟨w.heap.size, 0, none⟩), .pointer (some ⟨w.heap.size + 1 + 1 + 1, 0, none⟩), .pointer (some ⟨w.heap.size + 1, 0, none⟩), .pointer (some ⟨w.heap.size + 1 + 1, 0, none⟩)], args := #[] }] } wD := by
  refine leaves_cons (f := 17) (args := #[.pointer (some ⟨w.heap.size, 0, none⟩), .pointer (some ⟨w.heap.size + 1 + 1 + 1, 0, none⟩), .pointer (some ⟨w.heap.size + 1, 0, none⟩), .pointer (some ⟨w.heap.size + 1 + 1, 0, none⟩)]) (by simp) (by simp [go_sem]) ?_
  refine (went_x h.ck hi' ⟨hi.t0, hi.t1⟩ h.n0 h.n3 (by omega) (by omega) (by omega) (by omega) (by omega) (by omega) (by omega) h.n1 h.n2 _).mono ?_
  rintro e u' w' ⟨rfl, rfl, hT⟩
  have k1 := hT.cx
  have k2 := hT.cy
  have HA := Lib.hid (show CkAt w' b S' ∧ Apart b w.heap.size w w' from ⟨(hT.block b (by omega) (by omega)).trans h.ck, ⟨hT.os.trans h.ap.os, hT.tape.trans h.ap.tape, hT.output.trans h.ap.output, by rw [hT.size]; exact h.ap.size, fun k hk hne => (hT.block k (by omega) (by omega)).trans (h.ap.block k hk hne)⟩⟩)
  clear hT
  simp [Leaves, settle, results, Try.results10, go_sem, h4, h5, k1, k2]
  exact HA.out
set_option maxHeartbeats 2000000 in
theorem read_x {w : World} {b : Nat} {S : Ck} (h : CkAt w b S) (hi : Inv S) (ha : S.all < 1000000) (r : Int) :
    Calls Try.prog 10 #[.pointer (some ⟨b, 0, none⟩), .int .i64 r] w fun e w' => e = .returned (.tuple #[.int .i64 (rdK S r).tick, .int .i64 ((rdK S r).tick - S.tick)]) ∧ CkAt w' b (rdK S r) ∧ Apart b w.heap.size w w' := by
  have hmf : ∀ (fn : Fn) (first cap : Array Value) (w : World), (Instr.makeFunc fn first cap).run Try.prog w = .ok (.func fn first cap) w := fun _ _ _ _ => rfl
  have hb := ltOf h
  have hne : b ≠ w.heap.size := by omega
  have hne3 : b ≠ w.heap.size + 1 + 1 + 1 := by omega
  obtain ⟨o3, p3⟩ := bcell (((Below.refl w.heap.size w).alloc (Nat.le_refl _) (.cells #[.pointer (some ⟨b, 0, none⟩)] 25)).alloc (by simp) (.cells #[.int .i64 0] 3) |>.alloc (by simp; omega) (.cells #[.int .i64 0] 3))
  have g0 := (o3 b 0 hb).trans h.cells.1
  obtain ⟨o4, p4⟩ := bcell (below_rdW w b S.tick)
  have q0 := (o4 b 0 hb).trans h.cells.1
  have q3 := (o4 b 3 hb).trans h.cells.2.2.2.1
  have q4 := (o4 b 4 hb).trans h.cells.2.2.2.2
  have k0 := (p4 b 0 hb).trans (freeOf h 0)
  have k3 := (p4 b 3 hb).trans (freeOf h 3)
  have k4 := (p4 b 4 hb).trans (freeOf h 4)
  clear o3 p3 o4 p4
  obtain ⟨c0, c1, c2, c3, c4⟩ := h.cells
  have f0 := freeOf h 0
  have f3 := freeOf h 3
  have f4 := freeOf h 4
  obtain ⟨t0, t1, m0, m1, s0, s1, a0, a1, b0, b1⟩ := hi
  have HI := Lib.hid (show Inv S from ⟨t0, t1, m0, m1, s0, s1, a0, a1, b0, b1⟩)
  have HI2 := Lib.hid (HI.out.read r ha)
  have H1 := Lib.hid ((door0 h).set hb 3 (.int .i64 (S.all + 1)) ⟨S.tick, S.mark, S.step, S.all + 1, S.back⟩ rfl)
  by_cases hr : r < S.tick
  · have d1 : decide (r < S.tick) = true := decide_eq_true hr
    have ek : rdK S r = ⟨S.tick, S.mark, S.step, S.all + 1, S.back + 1⟩ := by
      have e1 : max S.tick (min r 1099511627776) = S.tick := by omega
      rw [rdK, e1, if_pos hr]
    have HD := Lib.hid (((H1.out.set hb 4 (.int .i64 (S.back + 1)) ⟨S.tick, S.mark, S.step, S.all + 1, S.back + 1⟩ rfl).set hb 0 (.int .i64 S.tick) (rdK S r) (by rw [ek]; rfl)).drew)
    clear h H1 ek
    go_enter_defers Try.func10, Try.ntmps10
    go_wp2_with fail
    go_region
    go_wp2_with fail
    exact HD.out.leaves hb HI.out HI2.out _ rfl rfl
  have d1 : decide (r < S.tick) = false := decide_eq_false hr
  by_cases hm : r ≤ 1099511627776
  · have d2 : decide ((1099511627776 : Int) < r) = false := decide_eq_false (by omega)
    have ek : rdK S r = ⟨r, S.mark, S.step, S.all + 1, S.back⟩ := by
      have e1 : max S.tick (min r 1099511627776) = r := by omega
      rw [rdK, e1, if_neg hr]
    have HD := Lib.hid ((H1.out.set hb 0 (.int .i64 r) (rdK S r) (by rw [ek]; rfl)).drew)
    clear h H1 ek
    go_enter_defers Try.func10, Try.ntmps10
    go_wp2_with fail
    go_region
    all_goals (go_wp2_with fail)
    · exact HD.out.leaves hb HI.out HI2.out _ rfl rfl
    · have he : r = S.tick := by omega
      subst he
      exact HD.out.leaves hb HI.out HI2.out _ rfl rfl
  have d2 : decide ((1099511627776 : Int) < r) = true := decide_eq_true (by omega)
  by_cases he : S.tick = 1099511627776
  · have ek : rdK S r = ⟨S.tick, S.mark, S.step, S.all + 1, S.back⟩ := by
      have e1 : max S.tick (min r 1099511627776) = S.tick := by omega
      rw [rdK, e1, if_neg hr]
    have HD := Lib.hid ((H1.out.set hb 0 (.int .i64 S.tick) (rdK S r) (by rw [ek]; rfl)).drew)
    have HE := Lib.hid he
    clear h H1 ek he
    go_enter_defers Try.func10, Try.ntmps10
    go_wp2_with fail
    go_region
    all_goals (go_wp2_with fail)
    all_goals (first | exact HD.out.leaves hb HI.out HI2.out _ rfl rfl | (exfalso; have := HE.out; omega))
  · have ek : rdK S r = ⟨1099511627776, S.mark, S.step, S.all + 1, S.back⟩ := by
      have e1 : max S.tick (min r 1099511627776) = 1099511627776 := by omega
      rw [rdK, e1, if_neg hr]
    have HD := Lib.hid ((H1.out.set hb 0 (.int .i64 1099511627776) (rdK S r) (by rw [ek]; rfl)).drew)
    have HE := Lib.hid he
    clear h H1 ek he
    go_enter_defers Try.func10, Try.ntmps10
    go_wp2_with fail
    go_region
    all_goals (go_wp2_with fail)
    all_goals (first | exact HD.out.leaves hb HI.out HI2.out _ rfl rfl | (exfalso; have := HE.out; omega))
end Go.Proofs.Ytokpenkkgbnioaa
