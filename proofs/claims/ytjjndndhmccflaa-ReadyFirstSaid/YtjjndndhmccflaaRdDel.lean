/-
  The walk of slices.Delete at one place of a queue's row.
-/
import Derived.Test.YtjjndndhmccflaaRdIdx
import Derived.Deep.RegionLaw
import Derived.Shelf.RegionOpenPlain
namespace Go.Proofs.Ytjjndndhmccflaa
set_option maxRecDepth 100000
open Go.RowKit
abbrev zeroR : Value := .agg #[.int .i64 0, .string ⟨#[]⟩, .int .i64 0, .int .i64 0, .int .i64 0]
theorem Try.infoW : (Try.prog.info? 70).map (fun i => (i.zero, i.size, i.bytes)) = some (some zeroR, 5, 48) := by kernel_rfl
def zeroL : List Value := [.int .i64 0, .string ⟨#[]⟩, .int .i64 0, .int .i64 0, .int .i64 0]
theorem run_clear5 (w : World) (ty : TypeId) (b o c : Nat) (hc : ∀ j, j < 5 → (w.cell? ⟨b, o + j, none⟩).isSome = true) (hf : ∀ j, j < 5 → w.frozen? ⟨b, o + j, none⟩ = false) :
    (Builtin.clear_ #[62] ty #[.slice (some ⟨b, o, none⟩) 1 c]).run Try.prog w = .ok (.tuple #[]) (w.setCells b o zeroL) := by
  have hv : ∀ w, (zeroValue 70).run Try.prog w = .ok zeroR w := Try.zeroValue70
  have hzc : (Builtin.zeroCells (Value.cells zeroR) 1).toList = zeroL := by kernel_rfl
  have hst := run_storeCells_cells (P := Try.prog) b o zeroL 0 w (by simpa [zeroL] using hc) (by simpa [zeroL] using hf) (by intro v hv'; simp only [zeroL, List.mem_cons, List.not_mem_nil, or_false] at hv'; rcases hv' with rfl | rfl | rfl | rfl | rfl <;> rfl)
  simp only [Nat.add_zero] at hst
  simp [Builtin.clear_, run_underlying Try.underlying62, hv, hzc, hst]
/-- What a deletion leaves. -/
def DelPost (g cap : Nat) (P : List Wt) (k : Nat) (w : World) (e : Ending) (w' : World) : Prop :=
  e = .returned (.slice (some ⟨g, 0, none⟩) (P.length - 1) cap) ∧ (∃ cur', w'.heap[g]? = some (.cells cur' 70 (0, 0)) ∧ cur'.size = cap * 5 ∧ cur'.toList.take ((P.length - 1) * 5) = (P.eraseIdx k).flatMap encR) ∧ Fr (fun i => i = g) w w'
theorem apart_fr {g : Nat} {w w' : World} (h : Apart g w.heap.size w w') : Fr (fun i => i = g) w w' := ⟨h.os, h.tape, h.output, h.size, fun k hk hn => h.block k hk hn⟩
/-- The row's cells behind it. -/
theorem del_cells {w : World} {g cap k : Nat} {cur : Array Value} {P : List Wt} (hg : w.heap[g]? = some (.cells cur 70 (0, 0))) (hk : k < P.length) (hc1 : P.length ≤ cap) (hc3 : cur.size = cap * 5) (hc4 : cur.toList.take (P.length * 5) = P.flatMap encR) :
    ∃ c1 c2, (w.setCells g (0 + k * 5) ((P.drop (k + 1)).flatMap encR)).heap[g]? = some (.cells c1 70 (0, 0)) ∧ c1.size = cap * 5 ∧
      ((w.setCells g (0 + k * 5) ((P.drop (k + 1)).flatMap encR)).setCells g ((P.length - 1) * 5) zeroL).heap[g]? = some (.cells c2 70 (0, 0)) ∧ c2.size = cap * 5 ∧ c2.toList.take ((P.length - 1) * 5) = (P.eraseIdx k).flatMap encR ∧
      Fr (fun i => i = g) w ((w.setCells g (0 + k * 5) ((P.drop (k + 1)).flatMap encR)).setCells g ((P.length - 1) * 5) zeroL) := by
  have hl : ((P.drop (k + 1)).flatMap encR).length = (P.length - (k + 1)) * 5 := by rw [flat_len encR 5 encR_len, List.length_drop]
  obtain ⟨c1, a1, a2, a3, a4, a5⟩ := setCells_block g 70 ((P.drop (k + 1)).flatMap encR) (0 + k * 5) cur w hg (by rw [hl]; omega)
  obtain ⟨c2, b1, b2, b3, b4, b5⟩ := setCells_block g 70 zeroL ((P.length - 1) * 5) c1 _ a1 (by rw [a2, hc3]; show _ + 5 ≤ _; omega)
  refine ⟨c1, c2, a1, by omega, b1, by omega, ?_, ?_⟩
  · apply List.ext_getElem?
    intro i
    have he : (P.eraseIdx k).length = P.length - 1 := by rw [List.length_eraseIdx]; simp [hk]
    by_cases hi : i < (P.length - 1) * 5
    · rw [List.getElem?_take, if_pos hi, Array.getElem?_toList, b3 i hi]
      obtain ⟨q, r, h5, rfl⟩ : ∃ q r, r < 5 ∧ i = q * 5 + r := ⟨i / 5, i % 5, by omega, by omega⟩
      have hj : q < P.length - 1 := by omega
      obtain ⟨x, hx⟩ : ∃ x, (P.eraseIdx k)[q]? = some x := ⟨_, List.getElem?_eq_getElem (by rw [he]; exact hj)⟩
      rw [flat_get encR 5 encR_len (P.eraseIdx k) q r x h5 hx]
      rw [List.getElem?_eraseIdx] at hx
      by_cases hik : q < k
      · rw [if_pos hik] at hx
        rw [a3 _ (by omega), ← Array.getElem?_toList]
        have e6 : (cur.toList.take (P.length * 5))[q * 5 + r]? = cur.toList[q * 5 + r]? := by rw [List.getElem?_take, if_pos (by omega)]
        rw [← e6, hc4, flat_get encR 5 encR_len P q r x h5 hx]
      · rw [if_neg hik] at hx
        have e7 := a4 ((q - k) * 5 + r) (by rw [hl]; omega)
        rw [show 0 + k * 5 + ((q - k) * 5 + r) = q * 5 + r by omega] at e7
        rw [e7]
        have hx' : (P.drop (k + 1))[q - k]? = some x := by rw [List.getElem?_drop, show k + 1 + (q - k) = q + 1 by omega]; exact hx
        rw [flat_get encR 5 encR_len _ (q - k) r x h5 hx']
    · rw [List.getElem?_eq_none (by rw [List.length_take]; omega), List.getElem?_eq_none (by rw [flat_len encR 5 encR_len, he]; omega)]
  · have f1 := apart_fr (setCells_apart g ((P.drop (k + 1)).flatMap encR) (0 + k * 5) w)
    exact f1.trans0 (apart_fr (setCells_apart g zeroL ((P.length - 1) * 5) _))
set_option maxHeartbeats 4000000 in
set_option maxRecDepth 1000000 in
theorem del_x {w : World} {g cap k : Nat} {cur : Array Value} {P : List Wt} (hg : w.heap[g]? = some (.cells cur 70 (0, 0))) (hk : k < P.length) (hc1 : P.length ≤ cap) (hc3 : cur.size = cap * 5) (hc4 : cur.toList.take (P.length * 5) = P.flatMap encR) :
    Calls Try.prog 33 #[.slice (some ⟨g, 0, none⟩) P.length cap, .int .i64 (k : Int), .int .i64 ((k : Int) + 1)] w (DelPost g cap P k w) := by
  obtain ⟨news, hnews⟩ : ∃ news, news = (P.drop (k + 1)).flatMap encR := ⟨_, rfl⟩
  obtain ⟨c1, c2, d1, d2, d3, d4, d5, d6⟩ := del_cells (w := w.drew) hg hk hc1 hc3 hc4
  rw [← hnews] at d1 d3 d6
  obtain ⟨m, hm⟩ : ∃ m, P.length = m + 1 := ⟨P.length - 1, by omega⟩
  have hnl : news.length = (m - k) * 5 := by rw [hnews, flat_len encR 5 encR_len, List.length_drop]; omega
  have hn1 : ∀ u ∈ news, u.oneCell' = true := by
    intro u hu
    rw [hnews] at hu
    obtain ⟨x, _, hx⟩ := List.mem_flatMap.1 hu
    exact encR_one x u hx
  obtain ⟨A, hA, hsrc⟩ : ∃ A : Addr, (if cap = k + 1 then some (⟨g, 0, none⟩ : Addr) else some ⟨g, (k + 1) * 5, none⟩) = some A ∧ (∀ t u, news[t]? = some u → w.drew.cell? (A.add t) = some u) := by
    by_cases h : cap = k + 1
    · refine ⟨⟨g, 0, none⟩, by simp [h], fun t u hu => ?_⟩
      have h0 : news.length = 0 := by rw [hnl]; omega
      rw [List.length_eq_zero_iff.1 h0] at hu
      simp at hu
    · refine ⟨⟨g, (k + 1) * 5, none⟩, by simp [h], fun t u hu => ?_⟩
      have ht : t < (m - k) * 5 := by have := (List.getElem?_eq_some_iff.1 hu).1; rwa [hnl] at this
      obtain ⟨q, r, h5, rfl⟩ : ∃ q r, r < 5 ∧ t = q * 5 + r := ⟨t / 5, t % 5, by omega, by omega⟩
      rw [hnews] at hu
      obtain ⟨x, hx⟩ : ∃ x, (P.drop (k + 1))[q]? = some x := ⟨_, List.getElem?_eq_getElem (by rw [List.length_drop]; omega)⟩
      rw [flat_get encR 5 encR_len _ q r x h5 hx] at hu
      rw [List.getElem?_drop] at hx
      rw [Addr.add_lit]
      show w.cell? _ = _
      rw [cellOf hg, ← Array.getElem?_toList]
      have e6 : (cur.toList.take (P.length * 5))[(k + 1) * 5 + (q * 5 + r)]? = cur.toList[(k + 1) * 5 + (q * 5 + r)]? := by rw [List.getElem?_take, if_pos (by omega)]
      rw [← e6, hc4, show (k + 1) * 5 + (q * 5 + r) = (k + 1 + q) * 5 + r by omega, flat_get encR 5 encR_len P _ r x h5 hx]
      exact hu
  have s1 := Lib.hid hnl
  have s2 := Lib.hid hn1
  have s3 := Lib.hid hsrc
  have s4 := Lib.hid (show ∀ t, t < news.length → (w.drew.cell? ⟨g, 0 + k * 5 + t, none⟩).isSome = true ∧ w.drew.frozen? ⟨g, 0 + k * 5 + t, none⟩ = false from fun t ht => by
    rw [hnl] at ht
    refine ⟨?_, freeOf hg _⟩
    show (w.cell? _).isSome = true
    rw [cellOf hg, Array.getElem?_eq_getElem (by omega)]; rfl)
  obtain ⟨W1, hW1⟩ : ∃ W1, W1 = w.drew.setCells g (0 + k * 5) news := ⟨_, rfl⟩
  rw [← hW1] at d1 d3 d6
  have hcl := fun ty => run_clear5 W1 ty g (m * 5) (cap - m) (fun j hj => by rw [cellOf d1, Array.getElem?_eq_getElem (by omega)]; rfl) (fun j _ => freeOf d1 _)
  rw [hm, Nat.add_sub_cancel] at d3 d5 d6
  have s5 := Lib.hid hW1
  have s6 := Lib.hid (show DelPost g cap P k w (.returned (.slice (some ⟨g, 0, none⟩) m cap)) (W1.setCells g (m * 5) zeroL) from ⟨by rw [hm]; rfl, ⟨c2, d3, d4, by rw [hm]; exact d5⟩, (Fr.drewN _ w 1).trans0 d6⟩)
  have hkm : (k : Int) ≤ (m : Int) := by omega
  have hmc : (m : Int) + 1 ≤ (cap : Int) := by omega
  have hic : k ≤ cap := by omega
  have h0k : (0 : Int) ≤ (k : Int) + 1 := by omega
  have hjc : k + 1 ≤ cap := by omega
  have hkm2 : k ≤ m := by omega
  obtain ⟨i0, hi0, _, hz1, _⟩ := info_parts Try.infoW
  clear d1 d2 d3 d4 d5 d6 hW1 hg hsrc hn1 hnl hc3 hc4 hnews
  rw [hm]
  go_enter Try.func33, Try.ntmps33
  go_wp2_with fail
  go_region_law (refine step_append_room rfl (.tmp 22) (.tmp 25) 62 rfl 70 i0 5 Try.underlying62 hi0 hz1 g 0 k cap (by simp [Act.eval, Act.put]) A (m - k) (cap - (k + 1)) news (by simp [Act.eval, Act.put]) s1.out s3.out s2.out (by omega) s4.out ?_; rw [← s5.out])
  go_wp2_with fail
  go_ret
  exact s6.out
end Go.Proofs.Ytjjndndhmccflaa
