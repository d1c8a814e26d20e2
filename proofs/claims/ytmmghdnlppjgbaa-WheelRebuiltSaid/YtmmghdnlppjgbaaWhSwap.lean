/-
  The walks of the row's own methods: Len, Less, Swap.
-/
import Derived.Test.YtmmghdnlppjgbaaWhBox
import Derived.Handy
namespace Go.Proofs.Ytmmghdnlppjgbaa
set_option maxRecDepth 100000
open Go.RowKit
theorem hd_inj {L : List Hd} (h : (L.map Hd.a).Nodup) {i j : Nat} {x y : Hd} (hx : L[i]? = some x) (hy : L[j]? = some y) (e : x.a = y.a) : i = j := by
  have h1 := (List.getElem?_eq_some_iff.1 hx).1
  exact (List.getElem?_inj (l := L.map Hd.a) (by rw [List.length_map]; exact h1) h).1 (by simp [hx, hy, e])
section
variable {O : Nat → Prop} {b : Nat} {n : Int} {mt : Nat} {sv : Nat → Option Nat} {v : Value} {L : List Hd} {w : World}
theorem HS.of_heap {w' : World} (h : HS O b n mt sv v L w) (e : w'.heap = w.heap) : HS O b n mt sv v L w' := by
  refine ⟨h.wb.of (by rw [e]), ?_, fun k x hx => (h.hd k x hx).of (by rw [e]), h.nd, h.ob, h.ov, h.ol, h.few, by rw [e]; exact h.olt⟩
  obtain ⟨h1, h2⟩ := h.row
  exact ⟨h1, by rw [e]; exact h2⟩
theorem HS.ne_row {g cap m : Nat} (h : HS O b n mt sv (.slice (some ⟨g, 0, none⟩) m cap) L w) : b ≠ g ∧ ∀ x ∈ L, x.a ≠ g := by
  refine ⟨fun e => ?_, fun x hx e => ?_⟩
  · obtain ⟨cs, h0, _⟩ := h.wb
    exact own_kind h.row h0 (by decide) (by rw [e]; rfl)
  · obtain ⟨k, hk, rfl⟩ := List.getElem_of_mem hx
    exact own_kind h.row (h.hd k _ (List.getElem?_eq_getElem hk)) (by decide) (by rw [e]; rfl)
theorem HS.ne_b (h : HS O b n mt sv v L w) : ∀ x ∈ L, x.a ≠ b := by
  intro x hx e
  obtain ⟨k, hk, rfl⟩ := List.getElem_of_mem hx
  obtain ⟨cs, h0, _⟩ := h.wb
  have := h.hd k _ (List.getElem?_eq_getElem hk)
  unfold TmB at this
  rw [e, h0] at this
  injection this with this
  injection this with _ h2
  exact absurd h2 (by decide)
theorem mem_at {α : Type} {l : List α} {k : Nat} {x : α} (h : l[k]? = some x) : x ∈ l := List.mem_of_getElem? h
theorem HS.swapped {g cap i j m : Nat} {x y : Hd} (h : HS O b n mt sv (.slice (some ⟨g, 0, none⟩) m cap) L w) (hx : L[i]? = some x) (hy : L[j]? = some y) (hm : m = L.length) :
    HS O b n mt sv (.slice (some ⟨g, 0, none⟩) m cap) (swL L i j) ((((w.setCell ⟨g, i, none⟩ (ptrV y.a)).setCell ⟨g, j, none⟩ (ptrV x.a)).setCell ⟨y.a, 3, none⟩ (.int .i64 i)).setCell ⟨x.a, 3, none⟩ (.int .i64 j)) := by
  subst hm
  obtain ⟨n1, n2⟩ := h.ne_row
  have n3 := h.ne_b
  have hi := (List.getElem?_eq_some_iff.1 hx).1
  have hj := (List.getElem?_eq_some_iff.1 hy).1
  have lt := h.olt
  have e1 : (swL L i j).map Hd.ptr = ((L.map Hd.ptr).set i (ptrV y.a)).set j (ptrV x.a) := by rw [swL_is hx hy, List.map_set, List.map_set]
  refine ⟨(((h.wb.far n1 _ _).far n1 _ _).far (n3 y (mem_at hy)).symm _ _).far (n3 x (mem_at hx)).symm _ _, ?_, fun k z hz => ?_, ?_, h.ob, h.ov, fun z hz => h.ol z ((swL_perm L i j).mem_iff.1 hz), by rw [swL_length]; exact h.few, fun k hk => by simp only [World.size_setCell]; exact lt k hk⟩
  · rw [swL_length, e1]
    have r1 := (h.row.stored i (ptrV y.a)).1
    have r2 := (r1.stored j (ptrV x.a)).1
    exact ownsRow_setCell_other (ownsRow_setCell_other r2 (a := ⟨y.a, 3, none⟩) (by simp [Value.ownBlock]; exact fun e => n2 y (mem_at hy) e.symm) _) (a := ⟨x.a, 3, none⟩) (by simp [Value.ownBlock]; exact fun e => n2 x (mem_at hx) e.symm) _
  · have far : ∀ z ∈ L, ∀ {p : Int}, TmB w z.a z.id z.f 4 p → TmB ((w.setCell ⟨g, i, none⟩ (ptrV y.a)).setCell ⟨g, j, none⟩ (ptrV x.a)) z.a z.id z.f 4 p := fun z hz p t => (t.far (n2 z hz) _ _).far (n2 z hz) _ _
    rw [swL_get hx hy] at hz
    by_cases h1 : k = j
    · subst h1
      rw [if_pos rfl] at hz
      cases hz
      by_cases h2 : y.a = x.a
      · have e3 := hd_inj h.nd hx hy h2.symm
        subst e3
        rw [hx] at hy; cases hy
        exact ((far x (mem_at hx) (h.hd _ _ hx)).setPlace _).setPlace _
      · exact ((far x (mem_at hx) (h.hd _ _ hx)).far (fun e => h2 e.symm) _ _).setPlace _
    · rw [if_neg h1] at hz
      by_cases h2 : k = i
      · subst h2
        rw [if_pos rfl] at hz
        cases hz
        exact ((far y (mem_at hy) (h.hd _ _ hy)).setPlace _).far (fun e => h1 (hd_inj h.nd hx hy e.symm)) _ _
      · rw [if_neg h2] at hz
        exact ((far z (mem_at hz) (h.hd _ _ hz)).far (fun e => h1 (hd_inj h.nd hz hy e)) _ _).far (fun e => h2 (hd_inj h.nd hz hx e)) _ _
  · exact (((swL_perm L i j).map Hd.a).nodup_iff).2 h.nd
theorem len_x (v' : Value) (l c : Nat) (A : Option Addr) (hv : v' = .slice A l c) (w : World) : Calls Try.prog 78 #[v'] w fun e w' => e = .returned (.int .i64 l) ∧ w' = w := by
  subst hv
  go_enter Try.func78, Try.ntmps78
  go_wp2_with fail
  go_ret
  exact ⟨rfl, rfl⟩
set_option maxHeartbeats 1000000 in
theorem less_x (h : HS O b n mt sv v L w) {i j : Nat} {x y : Hd} (hx : L[i]? = some x) (hy : L[j]? = some y) :
    Calls Try.prog 79 #[v, .int .i64 i, .int .i64 j] w fun e w' => e = .returned (.bool (decide (x.f < y.f))) ∧ ∃ m, w' = w.drewN m := by
  have hi := (List.getElem?_eq_some_iff.1 hx).1
  have hj := (List.getElem?_eq_some_iff.1 hy).1
  obtain ⟨g, cap, rfl, h1, h2, hc, hf, _⟩ := h.form (by omega)
  have ci := hc i x hx
  have cj := hc j y hy
  obtain ⟨_, x1, _⟩ := (h.hd i x hx).cells
  obtain ⟨_, y1, _⟩ := (h.hd j y hy).cells
  clear hc hf h hx hy h2
  generalize L.length = l at hi hj h1
  go_enter Try.func79, Try.ntmps79
  go_wp2_with fail
  go_quiet (fail)
  go_wp2_with fail
  go_ret
  exact ⟨rfl, _, rfl⟩
set_option maxHeartbeats 2000000 in
theorem swap_x (h : HS O b n mt sv v L w) {i j : Nat} {x y : Hd} (hx : L[i]? = some x) (hy : L[j]? = some y) :
    Calls Try.prog 80 #[v, .int .i64 i, .int .i64 j] w fun e w' => e = .returned (.tuple #[]) ∧ HS O b n mt sv v (swL L i j) w' ∧ Fr O w w' := by
  have hi := (List.getElem?_eq_some_iff.1 hx).1
  have hj := (List.getElem?_eq_some_iff.1 hy).1
  obtain ⟨g, cap, rfl, h1, h2, hc, hf, og⟩ := h.form (by omega)
  have ci := hc i x hx
  have cj := hc j y hy
  have fi := hf i
  have fj := hf j
  have HSW := Lib.hid (h.swapped hx hy rfl)
  have HO := Lib.hid (show O g ∧ O x.a ∧ O y.a from ⟨og, h.ol _ (mem_at hx), h.ol _ (mem_at hy)⟩)
  have fx : w.frozen? ⟨x.a, 3, none⟩ = false := freeOf (h.hd i x hx) 3
  have fy : w.frozen? ⟨y.a, 3, none⟩ = false := freeOf (h.hd j y hy) 3
  obtain ⟨_, _, _, x3⟩ := (h.hd i x hx).cells
  obtain ⟨_, _, _, y3⟩ := (h.hd j y hy).cells
  obtain ⟨_, n2⟩ := h.ne_row
  have nx := n2 x (mem_at hx)
  have ny := n2 y (mem_at hy)
  have same : i = j → x = y := fun e => by subst e; rw [hx] at hy; injection hy
  obtain ⟨k1, k2, k3, k4⟩ : (w.setCell ⟨g, i, none⟩ (ptrV y.a)).cell? ⟨g, j, none⟩ = some (ptrV y.a) ∧ ((w.setCell ⟨g, i, none⟩ (ptrV y.a)).setCell ⟨g, j, none⟩ (ptrV x.a)).cell? ⟨g, i, none⟩ = some (ptrV y.a) ∧ ((w.setCell ⟨g, i, none⟩ (ptrV y.a)).setCell ⟨g, j, none⟩ (ptrV x.a)).cell? ⟨g, j, none⟩ = some (ptrV x.a) ∧
      (((w.setCell ⟨g, i, none⟩ (ptrV y.a)).setCell ⟨g, j, none⟩ (ptrV x.a)).setCell ⟨y.a, 3, none⟩ (.int .i64 i)).cell? ⟨x.a, 3, none⟩ = some (.int .i64 i) := by
    have far3 : ∀ u v, ((w.setCell ⟨g, i, none⟩ u).setCell ⟨g, j, none⟩ v).cell? ⟨x.a, 3, none⟩ = some (.int .i64 i) := fun u v => by
      rw [World.cell?_setCell_far _ _ _ _ (show g ≠ x.a from fun e => nx e.symm), World.cell?_setCell_far _ _ _ _ (show g ≠ x.a from fun e => nx e.symm)]; exact x3
    by_cases e : i = j
    · have hxy := same e
      subst hxy
      subst e
      have c1 := World.cell?_setCell_same _ _ (ptrV x.a) ci
      have c2 := World.cell?_setCell_same _ _ (ptrV x.a) c1
      exact ⟨c1, c2, c2, World.cell?_setCell_same _ _ _ (far3 _ _)⟩
    · have hd := fun e2 => e (hd_inj h.nd hx hy e2)
      have c1 : (w.setCell ⟨g, i, none⟩ (ptrV y.a)).cell? ⟨g, j, none⟩ = some (ptrV y.a) := by rw [World.cell?_setCell_other _ _ _ _ (by simp)]; exact cj
      refine ⟨c1, ?_, World.cell?_setCell_same _ _ _ c1, ?_⟩
      · rw [World.cell?_setCell_other _ _ _ _ (by simp)]; exact World.cell?_setCell_same _ _ _ ci
      · rw [World.cell?_setCell_far _ _ _ _ (show y.a ≠ x.a from fun e2 => hd e2.symm)]; exact far3 _ _
  have k5 : ((w.setCell ⟨g, i, none⟩ (ptrV y.a)).setCell ⟨g, j, none⟩ (ptrV x.a)).cell? ⟨y.a, 3, none⟩ = some (.int .i64 j) := by
    rw [World.cell?_setCell_far _ _ _ _ (show g ≠ y.a from fun e => ny e.symm), World.cell?_setCell_far _ _ _ _ (show g ≠ y.a from fun e => ny e.symm)]; exact y3
  clear hc hf h hx hy h2 same n2
  generalize L.length = l at hi hj h1 HSW
  go_enter Try.func80, Try.ntmps80
  go_wp2_with fail
  go_region
  go_wp2_with fail
  go_region
  all_goals
    go_wp2_with fail
    go_end0
    obtain ⟨o1, o2, o3⟩ := HO.out
    exact ⟨rfl, HSW.out.of_heap rfl, ((((Fr.refl O w).set o1 i (ptrV y.a)).set o1 j (ptrV x.a)).set o3 3 (.int .i64 i)).set o2 3 (.int .i64 j) |>.heap rfl rfl rfl rfl⟩
end
end Go.Proofs.Ytmmghdnlppjgbaa
