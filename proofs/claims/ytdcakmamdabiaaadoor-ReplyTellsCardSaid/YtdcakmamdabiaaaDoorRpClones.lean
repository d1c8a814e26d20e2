/-
  Rows of texts that are filled in place; the walk of clones.
-/
import Derived.Test.YtdcakmamdabiaaaDoorRpNums
import Derived.Deep.OwnRows
namespace Go.Proofs.YtdcakmamdabiaaaDoor
set_option maxRecDepth 100000
open Go.RowKit
/-- A new row of n texts, block g, whose first k are those of l. -/
structure FR (W : World) (g n k : Nat) (l : List Txt) (w : World) : Prop where
  row : ∃ cur : Array Value, w.heap[g]? = some (.cells cur 9 (0, 0)) ∧ cur.size = n ∧ ∀ (i : Nat) (t : Txt), i < k → l[i]? = some t → cur[i]? = some (.string (mkS t))
  below : Below W.heap.size W w
  ge : W.heap.size ≤ g
theorem FR.next {W w w' : World} {g n k : Nat} {l : List Txt} (h : FR W g n k l w) (hb : Below w.heap.size w w') : FR W g n k l w' := by
  obtain ⟨cur, h1, h2, h3⟩ := h.row
  exact ⟨⟨cur, (hb.block _ (ltOf h1)).trans h1, h2, h3⟩, below_next h.below hb, h.ge⟩
theorem FR.cell {W w : World} {g n k : Nat} {l : List Txt} (h : FR W g n k l w) {i : Nat} (hi : i < n) : ∃ x, w.cell? ⟨g, i, none⟩ = some x ∧ w.frozen? ⟨g, i, none⟩ = false := by
  obtain ⟨cur, h1, h2, h3⟩ := h.row
  exact ⟨cur[i]'(by omega), by rw [cellOf h1, Array.getElem?_eq_getElem], freeOf h1 i⟩
theorem FR.set {W w : World} {g n k : Nat} {l : List Txt} {t : Txt} (h : FR W g n k l w) (hk : k < n) (ht : l[k]? = some t) : FR W g n (k + 1) l (w.setCell ⟨g, k, none⟩ (.string (mkS t))) := by
  obtain ⟨cur, h1, h2, h3⟩ := h.row
  refine ⟨⟨_, setOf h1 k _, by simpa using h2, fun i x hi hx => ?_⟩, h.below.setCell (p := ⟨g, k, none⟩) h.ge _, h.ge⟩
  by_cases e : i = k
  · subst e
    rw [ht] at hx
    injection hx with hx
    subst hx
    rw [Array.getElem?_setIfInBounds_self_of_lt (by omega)]
  · rw [Array.getElem?_setIfInBounds_ne (by omega)]
    exact h3 i x (by omega) hx
theorem FR.txts {W w : World} {g n : Nat} {l : List Txt} (h : FR W g n n l w) (hl : l.length = n) : TxtsAt w (.slice (some ⟨g, 0, none⟩) n n) l := by
  obtain ⟨cur, h1, h2, h3⟩ := h.row
  refine ⟨_, n, by rw [hl], by omega, fun e => by (cases e), fun i t hi => ⟨_, rfl, ltOf h1, ?_⟩⟩
  have hlt := (List.getElem?_eq_some_iff.1 hi).1
  rw [show (⟨g, 0, none⟩ : Addr).add i = ⟨g, i, none⟩ by unfold Addr.add; split <;> simp_all, cellOf h1]
  exact h3 i t (by omega) hi
theorem FR.new {W w : World} (n : Nat) (l : List Txt) (h : Below W.heap.size W w) : FR W w.heap.size n 0 l (w.alloc (.cells (madeCells #[.string { data := #[] }] n) 9)) :=
  ⟨⟨_, newOf w _, by simp [madeCells], fun i t hi => absurd hi (Nat.not_lt_zero _)⟩, h.alloc h.size _, h.size⟩
theorem make_txts (n : Nat) (hn : n ≤ 1000000) (w : World) : (Instr.makeSlice 22 (.int .i64 (n : Int)) (.int .i64 (n : Int))).run Tryd.prog w = .ok (.slice (some ⟨w.heap.size, 0, none⟩) n n) (w.alloc (.cells (madeCells #[.string { data := #[] }] n) 9)) :=
  run_make_row' 22 9 (.string { data := #[] }) 16 Tryd.underlying22 Tryd.infoT rfl .i64 .i64 n (by omega) (by omega) w
theorem clone_x (l : List UInt8) (w : World) (hl : l.length ≤ 1000000000000) :
    Calls Tryd.prog 48 #[.string (mkS l)] w fun e w' => e = .returned (.string (mkS l)) ∧ Below w.heap.size w w' := by
  have hms := mkS_size l
  have HI := Lib.hid (fun w => Tryd.stringslite_Clone (mkS l) w (by omega))
  go_enter Tryd.func48, Tryd.ntmps48
  go_wp2_with fail
  refine (HI.out _).mono ?_
  rintro e w' ⟨rfl, hb⟩
  go_wp2_with fail
  go_ret
  exact ⟨rfl, hb⟩
def ClonesPost (l : List Txt) (w : World) (e : Ending) (w' : World) : Prop := ∃ v, e = .returned v ∧ TxtsAt w' v l ∧ Below w.heap.size w w' ∧ ∀ A n c, v = .slice (some A) n c → w.heap.size ≤ A.block
set_option maxHeartbeats 2000000 in
theorem clones_x (l : List Txt) (v : Value) (w : World) (hv : TxtsAt w v l) (hn : l.length ≤ 100000) (hz : ∀ t ∈ l, t.length ≤ 1000000000) :
    Calls Tryd.prog 38 #[v] w (ClonesPost l w) := by
  obtain ⟨a, cap, rfl, _, _, hc⟩ := hv
  have HC := Lib.hid hc
  have HZ := Lib.hid hz
  have HM := Lib.hid (make_txts l.length (by omega))
  have HF := Lib.hid (FR.new l.length l (Below.refl w.heap.size w))
  clear hc hz
  have hmk := HM.out w
  go_enter Tryd.func38, Tryd.ntmps38
  go_wp2_with fail
  clear hmk
  go_loopw [11] (fun i wr => ∃ k : Nat, k ≤ l.length ∧ i = .int .i64 k ∧ Hid (FR w w.heap.size l.length k l wr)) (fun i _ => l.length - (intOf i).toNat)
  case atStart => exact ⟨0, Nat.zero_le _, rfl, HF⟩
  case round =>
    obtain ⟨k, hk, rfl, HFk⟩ := hrel
    by_cases hlt : k < l.length
    · obtain ⟨t, ht⟩ : ∃ t, l[k]? = some t := ⟨_, List.getElem?_eq_getElem hlt⟩
      obtain ⟨ad, rfl, hab, hcw⟩ := HC.out k t ht
      have hcl : wr.cell? (ad.add k) = some (.string (mkS t)) := (HFk.out.below.cell (by rw [add_block]; exact hab)).trans hcw
      have HCl := Lib.hid (fun w => clone_x t w (by have := HZ.out t (List.mem_of_getElem? ht); omega))
      have HT := Lib.hid ht
      clear ht hcw hab
      go_wp2_with fail
      refine (HCl.out _).mono ?_
      rintro e w1 ⟨rfl, hb1⟩
      have HF1 := Lib.hid (HFk.out.next hb1)
      obtain ⟨old, c0, f0⟩ := HF1.out.cell hlt
      clear hb1 hcl
      go_wp2_with fail
      go_roundw
      case rel => exact ⟨k + 1, by omega, by go_num, Lib.hid (HF1.out.set hlt HT.out)⟩
      case measure => simp [intOf]; omega
    · obtain rfl : k = l.length := by omega
      go_wp2_with fail
      go_ret
      exact ⟨_, rfl, HFk.out.txts rfl, HFk.out.below, fun A n c h => by cases h; exact Nat.le_refl _⟩
end Go.Proofs.YtdcakmamdabiaaaDoor
