/-
  The walk of Order.
-/
import Derived.Test.YtjjndndhmccflaaRdDone
import Derived.Deep.OwnRows
namespace Go.Proofs.Ytjjndndhmccflaa
set_option maxRecDepth 100000
open Go.RowKit
def intsR (l : List Int) : List Value := l.map (Value.int .i64)
theorem Try.infoI : (Try.prog.info? 3).map (fun i => (i.zero, i.size, i.bytes)) = some (some (.int .i64 0), 1, 8) := by kernel_rfl
theorem make_row (n : Nat) (hn : n ≤ 1000000) (w : World) : (Instr.makeSlice 49 (.int .i64 (n : Int)) (.int .i64 (n : Int))).run Try.prog w = .ok (.slice (some ⟨w.heap.size, 0, none⟩) n n) (w.alloc (.cells (madeCells #[.int .i64 0] n) 3)) :=
  run_make_row' 49 3 (.int .i64 0) 8 Try.underlying49 Try.infoI rfl .i64 .i64 n (by omega) (by omega) w
/-- A new row of n numbers, block g, whose first k are those of l. -/
structure FI (W : World) (g n k : Nat) (l : List Int) (w : World) : Prop where
  row : ∃ cur : Array Value, w.heap[g]? = some (.cells cur 3 (0, 0)) ∧ cur.size = n ∧ ∀ (i : Nat) (t : Int), i < k → l[i]? = some t → cur[i]? = some (.int .i64 t)
  below : Below W.heap.size W w
  ge : W.heap.size ≤ g
section
variable {W w w' : World} {g n k : Nat} {l : List Int}
theorem FI.next (h : FI W g n k l w) (hb : Below w.heap.size w w') : FI W g n k l w' := by
  obtain ⟨cur, h1, h2, h3⟩ := h.row
  exact ⟨⟨cur, (hb.block _ (ltOf h1)).trans h1, h2, h3⟩, below_next h.below hb, h.ge⟩
theorem FI.cell (h : FI W g n k l w) {i : Nat} (hi : i < n) : ∃ x, w.cell? ⟨g, i, none⟩ = some x ∧ w.frozen? ⟨g, i, none⟩ = false := by
  obtain ⟨cur, h1, h2, h3⟩ := h.row
  exact ⟨cur[i]'(by omega), by rw [cellOf h1, Array.getElem?_eq_getElem], freeOf h1 i⟩
theorem FI.lt (h : FI W g n k l w) : g < w.heap.size := by obtain ⟨cur, h1, _⟩ := h.row; exact ltOf h1
theorem FI.set {t : Int} (h : FI W g n k l w) (hk : k < n) (ht : l[k]? = some t) : FI W g n (k + 1) l (w.setCell ⟨g, k, none⟩ (.int .i64 t)) := by
  obtain ⟨cur, h1, h2, h3⟩ := h.row
  refine ⟨⟨_, setOf h1 k _, by simpa using h2, fun i x hi hx => ?_⟩, h.below.setCell (p := ⟨g, k, none⟩) h.ge _, h.ge⟩
  by_cases e : i = k
  · subst e
    rw [ht] at hx
    injection hx with hx
    subst hx
    rw [Array.getElem?_setIfInBounds_self_of_lt (by omega)]
  · rw [Array.getElem?_setIfInBounds_ne (by omega)]
    exact h3 i x (by omega) hx
theorem FI.owns (h : FI W g n n l w) (hl : l.length = n) (hn : n ≤ 1000000) : w.ownsRow W.heap.size 3 1 (.slice (some ⟨g, 0, none⟩) n n) n (intsR l) := by
  obtain ⟨cur, h1, h2, h3⟩ := h.row
  refine ⟨by simp [intsR, hl], .inr ⟨g, n, cur, rfl, h.ge, h1, Nat.le_refl _, by unfold maxLen; omega, by omega, ?_⟩⟩
  apply List.ext_getElem?
  intro i
  rw [List.getElem?_take]
  unfold intsR
  rw [List.getElem?_map]
  split
  · rename_i hi
    obtain ⟨t, ht⟩ : ∃ t, l[i]? = some t := ⟨_, List.getElem?_eq_getElem (by omega)⟩
    rw [ht, Array.getElem?_toList, h3 i t (by omega) ht]; rfl
  · rw [List.getElem?_eq_none (by omega)]; rfl
theorem FI.new (n : Nat) (l : List Int) (h : Below W.heap.size W w) : FI W w.heap.size n 0 l (w.alloc (.cells (madeCells #[.int .i64 0] n) 3)) :=
  ⟨⟨_, newOf w _, by simp [madeCells], fun i t hi => absurd hi (Nat.not_lt_zero _)⟩, h.alloc h.size _, h.size⟩
end
def OrderPost (O : Nat → Prop) (b : Nat) (S : Rq) (n : Int) (w : World) (e : Ending) (w' : World) : Prop :=
  (∃ v, e = .returned v ∧ w'.ownsRow w.heap.size 3 1 v (ordQ S n).length (intsR (ordQ S n))) ∧ RA O b S w' ∧ Fr O w w'
set_option maxHeartbeats 8000000 in
theorem order_x {O : Nat → Prop} {b : Nat} {S : Rq} {w : World} (h : RA O b S w) (n : Int) (hn : NowOk n S.age) :
    Calls Try.prog 18 #[.pointer (some ⟨b, 0, none⟩), .int .i64 n] w (OrderPost O b S n w) := by
  obtain ⟨v, fm, gm, P, G, h⟩ := h
  have HS := Lib.hid (sort_x h n hn)
  have HH := Lib.hid h
  clear h hn
  go_enter Try.func18, Try.ntmps18
  go_wp2_with fail
  refine HS.out.mono ?_
  rintro e w3 ⟨rfl, h3, f3⟩
  obtain ⟨Q, hQ⟩ : ∃ Q, Q = srt S.age n S.L := ⟨_, rfl⟩
  rw [← hQ] at h3
  have HO := Lib.hid (show ordQ S n = Q.map fun x => x.1.id by rw [hQ]; rfl)
  have H3 := Lib.hid (And.intro h3 f3)
  have c4 := h3.c4
  obtain ⟨A, c, hv⟩ := h3.slice
  have few := h3.few
  obtain ⟨N, hN⟩ : ∃ N, N = Q.length := ⟨_, rfl⟩
  rw [← hN] at hv few
  rw [hv] at c4
  have HV := Lib.hid (And.intro hv hN)
  have hmk := make_row N few w3
  have hbl := h3.blt
  have hbn : b ≠ w3.heap.size := by omega
  have HF := Lib.hid (FI.new N (Q.map fun x => x.1.id) (Below.refl w3.heap.size w3))
  clear HS hQ h3 f3 hv hN
  go_wp2_with fail
  clear hmk
  go_loopw [22] (fun i wr => ∃ k : Nat, k ≤ N ∧ i = .int .i64 k ∧ Hid (FI w3 w3.heap.size N k (Q.map fun x => x.1.id) wr)) (fun i _ => N - (intOf i).toNat)
  case atStart => exact ⟨0, Nat.zero_le _, rfl, HF⟩
  case round =>
    obtain ⟨k, hk, rfl, HFk⟩ := hrel
    by_cases hlt : k < N
    · obtain ⟨x, hx⟩ : ∃ x, Q[k]? = some x := ⟨_, List.getElem?_eq_getElem (by rw [← HV.out.2]; exact hlt)⟩
      have Hr := Lib.hid (H3.out.1.below HFk.out.below)
      obtain ⟨g, cap, cur, hv, hg, _⟩ := Hr.out.form (by rw [← HV.out.2]; omega)
      have hv2 := HV.out.1.symm.trans hv
      rw [← HV.out.2] at hv2
      injection hv2 with hv1 _ hv3
      subst hv1
      subst hv3
      have q0 : wr.cell? ⟨g, k * 5, none⟩ = some (.int .i64 x.1.id) := Hr.out.get (c := 0) hv hx (by omega)
      have q1 : wr.cell? ⟨g, k * 5 + 1, none⟩ = some (.string (mkS x.1.dest)) := Hr.out.get (c := 1) hv hx (by omega)
      have q2 : wr.cell? ⟨g, k * 5 + 2, none⟩ = some (.int .i64 x.1.pri) := Hr.out.get (c := 2) hv hx (by omega)
      have q3 : wr.cell? ⟨g, k * 5 + 3, none⟩ = some (.int .i64 x.1.at_) := Hr.out.get (c := 3) hv hx (by omega)
      have q4 : wr.cell? ⟨g, k * 5 + 4, none⟩ = some (.int .i64 x.2) := Hr.out.get (c := 4) hv hx (by omega)
      obtain ⟨old, c0, f0⟩ := HFk.out.cell hlt
      have hIl := HFk.out.lt
      have hIn : w3.heap.size ≠ wr.heap.size := by omega
      have HT := Lib.hid (show (Q.map fun x => x.1.id)[k]? = some x.1.id by rw [List.getElem?_map, hx]; rfl)
      have hklt : (k : Int) < (N : Int) := by omega
      clear hx hg hv
      go_wp2_with fail
      go_roundw
      case rel => exact ⟨k + 1, by omega, by go_num, Lib.hid ((HFk.out.set hlt HT.out).next (below_box _ _))⟩
      case measure => simp [intOf]; omega
    · obtain rfl : k = N := by omega
      go_wp2_with fail
      go_ret
      have hl : (ordQ S n).length = k := by rw [HO.out, List.length_map]; exact HV.out.2.symm
      refine ⟨⟨_, rfl, ?_⟩, RA.below (w := w3) ⟨_, _, _, _, _, H3.out.1⟩ HFk.out.below, H3.out.2.trans0 (Fr.of_below HFk.out.below)⟩
      rw [hl, HO.out]
      exact own_mono (HFk.out.owns (by rw [List.length_map]; exact HV.out.2.symm) few) H3.out.2.size
end Go.Proofs.Ytjjndndhmccflaa
