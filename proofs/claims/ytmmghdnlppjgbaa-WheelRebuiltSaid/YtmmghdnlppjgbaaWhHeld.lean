/-
  A wheel of a law's own: its blocks are newer than the law's world, and nothing of that world has changed.
-/
import Derived.Test.YtmmghdnlppjgbaaWhNextX
import Derived.Test.YtmmghdnlppjgbaaWhArg
namespace Go.Proofs.Ytmmghdnlppjgbaa
set_option maxRecDepth 100000
open Go.RowKit
structure HW (W : World) (O : Nat → Prop) (b : Nat) (n : Int) (M : List En) (w : World) : Prop where
  pw : PW O b n M w
  new : ∀ k, O k → W.heap.size ≤ k
  below : Below W.heap.size W w
theorem Fr.cell {O : Nat → Prop} {w w' : World} {p : Addr} (h : Fr O w w') (hl : p.block < w.heap.size) (hn : ¬ O p.block) : w'.cell? p = w.cell? p := by
  unfold World.cell?
  rw [h.block _ hl hn]
section
variable {W w w' : World} {O : Nat → Prop} {b : Nat} {n : Int} {M : List En}
theorem HW.keep (h : HW W O b n M w) (hb : Below w.heap.size w w') : HW W O b n M w' := ⟨h.pw.below hb, h.new, h.below.trans (hb.mono h.below.size)⟩
theorem HW.drewN (h : HW W O b n M w) (m : Nat) : HW W O b n M (w.drewN m) := ⟨h.pw.drewN m, h.new, ⟨h.below.os, h.below.tape, h.below.output, h.below.size, h.below.block⟩⟩
theorem HW.base (h : HW W O b n M w) (hf : Fr O w w') : Below W.heap.size W w' := h.below.trans (hf.below h.below.size fun k hk ho => by have := h.new k ho; omega)
theorem HW.other {O2 : Nat → Prop} {b2 : Nat} {n2 : Int} {M2 : List En} (h : HW W O b n M w) (h2 : HW W O2 b2 n2 M2 w) (hd : ∀ k, O k → ¬ O2 k) (hf : Fr O2 w w') : HW W O b n M w' :=
  ⟨h.pw.other hf.size fun k hk => hf.block k (h.pw.lt k hk) (hd k hk), h.new, h2.base hf⟩
theorem HW.pd {n' : Int} {M' : List En} (h : HW W O b n M w) (hp : PD O b n' M' w w') : ∃ O', HW W O' b n' M' w' ∧ ∀ k, O' k → O k ∨ w.heap.size ≤ k := by
  obtain ⟨⟨O', h1, h2⟩, h3⟩ := hp
  exact ⟨O', ⟨h1, fun k hk => (h2 k hk).elim (h.new k) fun e => Nat.le_trans h.below.size e, h.base h3⟩, h2⟩
theorem rowAt_of {B : Nat} {v : Value} {l : List Int} (h : w.ownsRow B 3 1 v l.length (intsR l)) : RowAt w v (intsV l) := by
  rcases h.2 with ⟨rfl, e⟩ | ⟨g, cap, cur, rfl, _, h1, h2, h3, h4, h5⟩
  · obtain rfl := List.length_eq_zero_iff.1 e
    exact ⟨none, 0, rfl, Nat.le_refl _, fun i u hi => by simp [intsV] at hi⟩
  · refine ⟨some ⟨g, 0, none⟩, cap, by simp [intsV], by simpa [intsV] using h2, fun i u hi => ⟨_, rfl, ltOf h1, ?_⟩⟩
    exact h.cells (g := g) rfl i u hi
theorem row_head {B : Nat} {A : Option Addr} {k c : Nat} {xs : List Value} (h : w.ownsRow B 3 1 (.slice A k c) k xs) (hk : 0 < k) : ∃ g, A = some ⟨g, 0, none⟩ := by
  rcases h.2 with ⟨_, e⟩ | ⟨g, cap, cur, hv, _⟩
  · omega
  · injection hv with hv; exact ⟨g, hv⟩
theorem row_get {B g k c : Nat} {l : List Int} (h : w.ownsRow B 3 1 (.slice (some ⟨g, 0, none⟩) k c) k (intsR l)) {i : Nat} {x : Int} (hi : l[i]? = some x) : w.cell? ⟨g, i, none⟩ = some (.int .i64 x) := by
  have hl : l.length = k * 1 := by have := h.1; rwa [show (intsR l).length = l.length by simp [intsR]] at this
  rw [h.cellAt i (by have := (List.getElem?_eq_some_iff.1 hi).1; omega)]
  simp only [intsR, List.getElem?_map, hi, Option.map_some]
theorem row_drewN {B k : Nat} {v : Value} {xs : List Value} (h : w.ownsRow B 3 1 v k xs) (m : Nat) : (w.drewN m).ownsRow B 3 1 v k xs := h
set_option maxHeartbeats 4000000 in
/-- An advance, as a law has it. -/
theorem adv_h {to batch : Int} (h : HW W O b n M w) (few : M.length ≤ 1000) (hto : n ≤ to) (hto2 : to ≤ 1099511627776) (hb1 : 1 ≤ batch) (hb2 : batch ≤ 1048576) :
    Calls Try.prog 15 #[.pointer (some ⟨b, 0, none⟩), .int .i64 to, .int .i64 batch] w fun e w' => ∃ A c m k O', e = .returned (.tuple #[.slice A ((M.take k).map Prod.snd).length c, .int .i64 m, .int .i64 0]) ∧ AdvP M n to batch k m ∧ HW W O' b m (M.drop k) w' ∧
      w'.ownsRow w.heap.size 3 1 (.slice A ((M.take k).map Prod.snd).length c) ((M.take k).map Prod.snd).length (intsR ((M.take k).map Prod.snd)) ∧ (∀ i, O' i → O i ∨ w.heap.size ≤ i) ∧ (∀ g, (Value.slice A ((M.take k).map Prod.snd).length c).ownBlock = some g → ¬ O' g) ∧ Fr O w w' := by
  refine (adv_x h.pw few hto hto2 hb1 hb2).mono ?_
  rintro e w' ⟨vr, m, rfl, k, h1, h2, ⟨O', h3, h4, h5⟩, h6⟩
  obtain ⟨A, c, rfl⟩ := own_slice h2
  exact ⟨A, c, m, k, O', rfl, h1, ⟨h3, fun i hi => (h4 i hi).elim (h.new i) fun e => Nat.le_trans h.below.size e, h.base h6⟩, h2, h4, h5, h6⟩
set_option maxHeartbeats 4000000 in
theorem adv_no {to batch : Int} (h : PW O b n M w) (hno : to < n ∨ 1099511627776 < to ∨ batch < 1 ∨ 1048576 < batch) :
    Calls Try.prog 15 #[.pointer (some ⟨b, 0, none⟩), .int .i64 to, .int .i64 batch] w fun e w' => e = .returned (.tuple #[.slice none 0 0, .int .i64 0, .int .i64 1]) ∧ w' = w := by
  obtain ⟨S, mt, sv, v, L, h1, h2⟩ := h
  have c0 := h1.hs.wb.now
  have H := Lib.hid hno
  clear h1 h2 hno
  by_cases g1 : to < n
  · have d1 : decide (to < n) = true := decide_eq_true g1
    go_enter Try.func15, Try.ntmps15
    go_wp2_with fail
    go_returns
    exact ⟨rfl, rfl⟩
  have d1 : decide (to < n) = false := decide_eq_false g1
  by_cases g2 : 1099511627776 < to
  · have d2 : decide ((1099511627776 : Int) < to) = true := decide_eq_true g2
    go_enter Try.func15, Try.ntmps15
    go_wp2_with fail
    go_returns
    exact ⟨rfl, rfl⟩
  have d2 : decide ((1099511627776 : Int) < to) = false := decide_eq_false g2
  by_cases g3 : batch < 1
  · have d3 : decide (batch < 1) = true := decide_eq_true g3
    go_enter Try.func15, Try.ntmps15
    go_wp2_with fail
    go_returns
    exact ⟨rfl, rfl⟩
  have d3 : decide (batch < 1) = false := decide_eq_false g3
  have d4 : decide ((1048576 : Int) < batch) = true := decide_eq_true (by have := H.out; omega)
  go_enter Try.func15, Try.ntmps15
  go_wp2_with fail
  go_returns
  exact ⟨rfl, rfl⟩
end
end Go.Proofs.Ytmmghdnlppjgbaa
