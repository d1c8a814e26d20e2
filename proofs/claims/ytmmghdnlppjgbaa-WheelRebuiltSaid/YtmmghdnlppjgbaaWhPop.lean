/-
  The walks of the row's Pop, of heap's Push, Pop and Remove.
-/
import Derived.Test.YtmmghdnlppjgbaaWhPush
namespace Go.Proofs.Ytmmghdnlppjgbaa
set_option maxRecDepth 100000
open Go.RowKit
section
variable {O : Nat → Prop} {b : Nat} {n : Int} {mt : Nat} {sv : Nat → Option Nat} {v : Value} {L : List Hd} {w : World}
theorem HS.popped {g cap m : Nat} {t : Hd} (h : HS O b n mt sv (.slice (some ⟨g, 0, none⟩) (m + 1) cap) (L ++ [t]) w) (hm : m = L.length) :
    HS O b n mt sv (.slice (some ⟨g, 0, none⟩) m cap) L ((w.setCell ⟨g, m, none⟩ (.pointer none)).setCell ⟨b, 258, none⟩ (.slice (some ⟨g, 0, none⟩) m cap)) ∧ TmB ((w.setCell ⟨g, m, none⟩ (.pointer none)).setCell ⟨b, 258, none⟩ (.slice (some ⟨g, 0, none⟩) m cap)) t.a t.id t.f 4 m := by
  subst hm
  obtain ⟨n1, n2⟩ := h.ne_row
  have n3 := h.ne_b
  have lt := h.olt
  have far : ∀ z ∈ L ++ [t], ∀ {p : Int} {u : Value}, TmB w z.a z.id z.f 4 p → TmB ((w.setCell ⟨g, L.length, none⟩ (.pointer none)).setCell ⟨b, 258, none⟩ u) z.a z.id z.f 4 p := fun z hz p u k => (k.far (n2 z hz) _ _).far (n3 z hz) _ _
  have ht : (L ++ [t])[L.length]? = some t := by simp
  have e0 : (L ++ [t]).length = L.length + 1 := by simp
  have nd := h.nd
  rw [List.map_append] at nd
  refine ⟨⟨(h.wb.far n1 _ _).setList _, ?_, fun k x hx => ?_, (List.nodup_append.1 nd).1, h.ob, fun k hk => h.ov k hk, fun x hx => h.ol x (List.mem_append_left _ hx), by have := h.few; simp at this; omega, fun k hk => by simp only [World.size_setCell]; exact lt k hk⟩, far t (by simp) (h.hd _ t ht)⟩
  · have r0 := h.row
    rw [e0, List.map_append] at r0
    have r1 := (r0.stored L.length (.pointer none)).1
    have e1 : (L.map Hd.ptr ++ [t].map Hd.ptr).set L.length (.pointer none) = L.map Hd.ptr ++ [Value.pointer none] := by
      rw [List.set_append_right _ _ (by simp)]
      simp
    rw [e1] at r1
    have r2 := ownsRow_pop (xs := L.map Hd.ptr) (last := [Value.pointer none]) (n := L.length) (by simp) r1
    exact ownsRow_setCell_other r2 (a := ⟨b, 258, none⟩) (by simp [Value.ownBlock]; exact fun e => n1 e.symm) _
  · have hk := (List.getElem?_eq_some_iff.1 hx).1
    exact far x (List.mem_append_left _ (mem_at hx)) (h.hd k x (by rw [List.getElem?_append_left hk]; exact hx))
set_option maxHeartbeats 2000000 in
theorem pop_x {t : Hd} (h : HS O b n mt sv v (L ++ [t]) w) :
    Calls Try.prog 81 #[lsP b] w fun e w' => e = .returned (.iface 66 (ptrV t.a)) ∧ ∃ v', HS O b n mt sv v' L w' ∧ Fr O w w' ∧ TmB w' t.a t.id t.f 4 L.length := by
  obtain ⟨g, cap, rfl, h1, h2, hc, hf, og⟩ := h.form (by simp)
  have e0 : (L ++ [t]).length = L.length + 1 := by simp
  rw [e0] at h h1
  have HP := Lib.hid (h.popped rfl)
  have HO := Lib.hid (And.intro og h.ob)
  have c0 := h.wb.list
  have fb := h.wb.free 258
  have cl := hc L.length t (by simp)
  have fl := hf L.length
  have few := h.few
  rw [e0] at few
  obtain ⟨n1, _⟩ := h.ne_row
  clear h hc hf e0
  generalize L.length = m at *
  go_enter Try.func81, Try.ntmps81
  go_wp2_with fail
  go_ret
  exact ⟨rfl, _, HP.out.1, ((Fr.refl O w).set HO.out.1 m (.pointer none)).set HO.out.2 258 _, HP.out.2⟩
theorem snoc_at {α : Type} {l : List α} {k : Nat} {x : α} (hl : l.length = k + 1) (hx : l[k]? = some x) : l = l.take k ++ [x] := by
  obtain ⟨hk, rfl⟩ := List.getElem?_eq_some_iff.1 hx
  have := List.take_succ_eq_append_getElem (l := l) (i := k) hk
  rw [← this, List.take_of_length_le (by omega)]
theorem keyL_take {L : List Hd} {m : Nat} : ∀ k, k < m → keyL (L.take m) k = keyL L k := fun k hk => by unfold keyL; rw [List.getElem?_take_of_lt hk]
set_option maxHeartbeats 2000000 in
theorem hpush_x (h : HS O b n mt sv v L w) (ho : HOrd L.length (keyL L)) {t : Hd} {p : Int} (ht : TmB w t.a t.id t.f 4 p) (ha : ∀ x ∈ L, x.a ≠ t.a) (oa : O t.a) (hf : L.length < 1000000) :
    Calls Try.prog 31 #[lsI b, .iface 66 (ptrV t.a)] w fun e w' => e = .returned (.tuple #[]) ∧ ∃ O' v' L', HS O' b n mt sv v' L' w' ∧ Fr O w w' ∧ (∀ k, O' k → O k ∨ w.heap.size ≤ k) ∧ L'.Perm (t :: L) ∧ HOrd L'.length (keyL L') := by
  have HPu := Lib.hid (push_x h ht ha oa hf)
  have HUp : Hid (∀ O1 v1 w1, HS O1 b n mt sv v1 (L ++ [t]) w1 → Calls Try.prog 33 #[lsI b, .int .i64 L.length] w1 fun e w' => e = .returned (.tuple #[]) ∧ ∃ L', HP O1 b n mt sv v1 (L ++ [t]) L' (L ++ [t]).length w1 w' ∧ HOrd (L ++ [t]).length (keyL L')) := Lib.hid fun O1 v1 w1 h1 =>
    up_x h1 (j0 := L.length) (by simp) (Nat.le_refl _) (by rw [List.length_append]; exact push_up (hord_of ho fun k hk => by unfold keyL; rw [List.getElem?_append_left hk]))
  have mP := meth_push w b
  have eP := enter_push
  have eN := enter_len
  have e0 : (L ++ [t]).length = L.length + 1 := by simp
  have few := h.few
  clear h ho ht ha oa
  go_enter Try.func31, Try.ntmps31
  go_wp2_with (first
    | (go_at_call 82; refine HPu.out.mono ?_; rintro e w1 ⟨rfl, O1, v1, h1, f1, s1⟩; obtain ⟨A, c, rfl⟩ := own_slice h1.row; have mN := meth_len h1.wb.list; have H1 := Lib.hid (And.intro h1 (And.intro f1 s1)); clear h1 f1 s1; rw [e0] at mN)
    | (go_at_call 78; refine (len_x _ (L.length + 1) _ _ rfl _).mono ?_; rintro e w' ⟨rfl, rfl⟩)
    | (go_at_call 33; refine (HUp.out _ _ _ H1.out.1).mono ?_; rintro e w' ⟨rfl, L', hp, ho⟩))
  go_end0
  exact ⟨rfl, _, _, L', hp.hs, H1.out.2.1.trans hp.fr fun k hk ho => (H1.out.2.2 k ho).elim id fun e => by omega, H1.out.2.2, hp.perm.trans (List.perm_append_comm), by rw [hp.len]; exact ho⟩
set_option maxHeartbeats 4000000 in
theorem hpop_x (h : HS O b n mt sv v L w) (ho : HOrd L.length (keyL L)) {t : Hd} (h0 : L[0]? = some t) :
    Calls Try.prog 35 #[lsI b] w fun e w' => e = .returned (.iface 66 (ptrV t.a)) ∧ ∃ v' L', HS O b n mt sv v' L' w' ∧ Fr O w w' ∧ (t :: L').Perm L ∧ HOrd L'.length (keyL L') ∧ ∃ p, TmB w' t.a t.id t.f 4 p := by
  have hl := (List.getElem?_eq_some_iff.1 h0).1
  obtain ⟨m, hm⟩ : ∃ m, L.length = m + 1 := ⟨L.length - 1, by omega⟩
  obtain ⟨y, hy⟩ := at_some (L := L) (k := m) (by omega)
  obtain ⟨g, cap, rfl, _⟩ := h.form hl
  have HSw := Lib.hid (swap_x h h0 hy)
  have HDn : Hid (∀ w1, HS O b n mt sv (.slice (some ⟨g, 0, none⟩) L.length cap) (swL L 0 m) w1 → Calls Try.prog 32 #[lsI b, .int .i64 0, .int .i64 m] w1 fun e w' => ∃ mv, e = .returned (.bool mv) ∧ ∃ L', HP O b n mt sv (.slice (some ⟨g, 0, none⟩) L.length cap) (swL L 0 m) L' m w1 w' ∧ Downed m 0 (keyL L') mv) := Lib.hid fun w1 h1 => by
    refine down_x h1 (by rw [swL_length]; omega) (i0 := 0) (Nat.zero_le _) (by rw [swL_length]; omega) ?_
    rw [show keyL (swL L 0 m) = swK (keyL L) 0 m from funext (keyL_sw hl (by omega))]
    exact rem_down (by rw [← hm]; exact ho) (Nat.zero_le _)
  have HLast : Hid (∀ L' : List Hd, L'.length = m + 1 → (∀ k, m ≤ k → L'[k]? = (swL L 0 m)[k]?) → L' = L'.take m ++ [t]) := Lib.hid fun L' h1 h2 => snoc_at h1 (by rw [h2 m (Nat.le_refl _), swL_get h0 hy, if_pos rfl])
  have mN := meth_len h.wb.list
  have mS := meth_swap h.wb.list
  have eN := enter_len
  have eS := enter_swap
  have eP := enter_pop
  rw [hm] at mN mS
  have few := h.few
  rw [hm] at few HSw HDn
  have e9 : ((m : Int) + 1) - 1 = (m : Int) := by omega
  have HM := Lib.hid hm
  clear h ho h0 hy hl hm
  go_enter Try.func35, Try.ntmps35
  go_wp2_with (first
    | (go_at_call 78; refine (len_x _ (m + 1) _ _ rfl _).mono ?_; rintro e w' ⟨rfl, rfl⟩)
    | (go_at_call 80; refine HSw.out.mono ?_; rintro e w1 ⟨rfl, h1, f1⟩; have H1 := Lib.hid (And.intro h1 f1); clear h1 f1)
    | (go_at_call 32; refine (HDn.out _ H1.out.1).mono ?_; rintro e w2 ⟨mv, rfl, L2, hp, hd⟩; have H2 := Lib.hid (And.intro hp hd); clear hp hd; have mP := meth_pop w2 b))
  have e2 := HLast.out L2 (by rw [H2.out.1.len, swL_length, HM.out]) H2.out.1.far
  have h2 := H2.out.1.hs
  rw [e2] at h2
  have HX := Lib.hid e2
  have HPop := Lib.hid (pop_x h2)
  have hlen : (L2.take m).length = m := by rw [List.length_take, H2.out.1.len, swL_length, HM.out]; omega
  have HL := Lib.hid hlen
  clear e2 h2 hlen
  refine HPop.out.mono ?_
  rintro e w3 ⟨rfl, v3, h3, f3, t3⟩
  have H3 := Lib.hid (And.intro h3 (And.intro f3 t3))
  clear h3 f3 t3
  go_wp2_with fail
  go_ret
  have hp := H2.out.1
  refine ⟨rfl, v3, L2.take m, H3.out.1, (H1.out.2.trans0 hp.fr).trans0 H3.out.2.1, ?_, ?_, _, H3.out.2.2⟩
  · have e2 := HX.out
    have : (t :: L2.take m).Perm L2 := by
      conv => rhs; rw [e2]
      exact (List.perm_append_comm (l₁ := [t]) (l₂ := L2.take m))
    exact this.trans (hp.perm.trans (swL_perm _ _ _))
  · rw [HL.out]
    refine hord_of (K := keyL L2) ?_ keyL_take
    cases mv with
    | true => exact H2.out.2.1 rfl
    | false => exact up_end (H2.out.2.2 rfl) (above_zero _)
set_option maxHeartbeats 4000000 in
theorem hrem_x (h : HS O b n mt sv v L w) (ho : HOrd L.length (keyL L)) {t : Hd} {i : Nat} (h0 : L[i]? = some t) :
    Calls Try.prog 23 #[lsI b, .int .i64 i] w fun e w' => e = .returned (.iface 66 (ptrV t.a)) ∧ ∃ v' L', HS O b n mt sv v' L' w' ∧ Fr O w w' ∧ (t :: L').Perm L ∧ HOrd L'.length (keyL L') ∧ ∃ p, TmB w' t.a t.id t.f 4 p := by
  have hl := (List.getElem?_eq_some_iff.1 h0).1
  obtain ⟨m, hm⟩ : ∃ m, L.length = m + 1 := ⟨L.length - 1, by omega⟩
  obtain ⟨y, hy⟩ := at_some (L := L) (k := m) (by omega)
  obtain ⟨g, cap, rfl, _⟩ := h.form (by omega)
  have mN := meth_len h.wb.list
  have mS := meth_swap h.wb.list
  have eN := enter_len
  have eS := enter_swap
  have eP := enter_pop
  rw [hm] at mN mS
  have few := h.few
  rw [hm] at few
  have e9 : ((m : Int) + 1) - 1 = (m : Int) := by omega
  have HM := Lib.hid hm
  by_cases him : i = m
  · subst him
    rw [h0] at hy
    injection hy with hy
    have e2 := snoc_at hm h0
    have h2 := h
    rw [e2] at h2
    have HPop := Lib.hid (pop_x h2)
    have HX := Lib.hid e2
    have HO := Lib.hid ho
    have mP := meth_pop w b
    have e3 : (((i : Nat) : Int) != (i : Int)) = false := by simp
    clear h ho h0 hl hm e2 h2 hy
    go_enter Try.func23, Try.ntmps23
    go_wp2_with (first
      | (go_at_call 78; refine (len_x _ (i + 1) _ _ rfl _).mono ?_; rintro e w' ⟨rfl, rfl⟩)
      | (go_at_call 81; refine HPop.out.mono ?_; rintro e w3 ⟨rfl, v3, h3, f3, t3⟩; have H3 := Lib.hid (And.intro h3 (And.intro f3 t3)); clear h3 f3 t3))
    go_ret
    refine ⟨rfl, v3, L.take i, H3.out.1, H3.out.2.1, ?_, ?_, _, H3.out.2.2⟩
    · have e2 := HX.out
      conv => rhs; rw [e2]
      exact (List.perm_append_comm (l₁ := [t]) (l₂ := L.take i))
    · rw [List.length_take, HM.out, Nat.min_eq_left (by omega)]
      refine hord_of (hord_cut HO.out (by rw [HM.out]; omega)) keyL_take
  · have him' : i < m := by omega
    have HSw := Lib.hid (swap_x h h0 hy)
    have HDn : Hid (∀ w1, HS O b n mt sv (.slice (some ⟨g, 0, none⟩) L.length cap) (swL L i m) w1 → Calls Try.prog 32 #[lsI b, .int .i64 i, .int .i64 m] w1 fun e w' => ∃ mv, e = .returned (.bool mv) ∧ ∃ L', HP O b n mt sv (.slice (some ⟨g, 0, none⟩) L.length cap) (swL L i m) L' m w1 w' ∧ Downed m i (keyL L') mv) := Lib.hid fun w1 h1 => by
      refine down_x h1 (by rw [swL_length]; omega) (i0 := i) (by omega) (by rw [swL_length]; omega) ?_
      rw [show keyL (swL L i m) = swK (keyL L) i m from funext (keyL_sw hl (by omega))]
      exact rem_down (by rw [← hm]; exact ho) (by omega)
    have HLast : Hid (∀ L' : List Hd, L'.length = m + 1 → (∀ k, m ≤ k → L'[k]? = (swL L i m)[k]?) → L' = L'.take m ++ [t]) := Lib.hid fun L' h1 h2 => snoc_at h1 (by rw [h2 m (Nat.le_refl _), swL_get h0 hy, if_pos rfl])
    have HLen : Hid ((swL L i m).length = m + 1) := Lib.hid (by rw [swL_length, hm])
    have e3 : ((m : Int) != (i : Int)) = true := by simp; omega
    have HUp : Hid (∀ L1 w1, HP O b n mt sv (.slice (some ⟨g, 0, none⟩) L.length cap) (swL L i m) L1 m w w1 → UOk m (keyL L1) i → Calls Try.prog 33 #[lsI b, .int .i64 i] w1 fun e w' => e = .returned (.tuple #[]) ∧ ∃ L', HP O b n mt sv (.slice (some ⟨g, 0, none⟩) L.length cap) L1 L' m w1 w' ∧ HOrd m (keyL L')) := Lib.hid fun L1 w1 h1 h2 =>
      up_x h1.hs him' (by rw [h1.len, swL_length]; omega) h2
    rw [hm] at HSw HDn HUp
    clear h ho h0 hy hl hm
    go_enter Try.func23, Try.ntmps23
    go_wp2_with (first
      | (go_at_call 78; refine (len_x _ (m + 1) _ _ rfl _).mono ?_; rintro e w' ⟨rfl, hN⟩; rw [hN]; clear hN w')
      | (go_at_call 80; refine HSw.out.mono ?_; rintro e w1 ⟨rfl, h1, f1⟩; have H1 := Lib.hid (And.intro h1 f1); clear h1 f1)
      | (go_at_call 32; refine (HDn.out _ H1.out.1).mono ?_; rintro e w2 ⟨mv, rfl, L2, hp, hd⟩; have H2 := Lib.hid (And.intro (show HP O b n mt sv (.slice (some ⟨g, 0, none⟩) (m + 1) cap) (swL L i m) L2 m w w2 from ⟨hp.hs, H1.out.2.trans0 hp.fr, hp.perm, hp.far⟩) hd); clear hp hd; have mP := fun w => meth_pop w b; cases mv)
      | (go_at_call 33; refine (HUp.out _ _ H2.out.1 (H2.out.2.2 rfl)).mono ?_; rintro e w3 ⟨rfl, L3, hp, hd⟩; have H3 := Lib.hid (And.intro (show HP O b n mt sv (.slice (some ⟨g, 0, none⟩) (m + 1) cap) (swL L i m) L3 m w w3 from ⟨hp.hs, H2.out.1.fr.trans0 hp.fr, hp.perm.trans H2.out.1.perm, fun k hk => (hp.far k hk).trans (H2.out.1.far k hk)⟩) hd); clear hp hd))
    · have e2 := HLast.out L3 (by rw [H3.out.1.len, HLen.out]) H3.out.1.far
      have h2 := H3.out.1.hs
      rw [e2] at h2
      have HX := Lib.hid e2
      have HPop := Lib.hid (pop_x h2)
      have HL := Lib.hid (show (L3.take m).length = m by rw [List.length_take, H3.out.1.len, HLen.out]; omega)
      clear e2 h2
      refine HPop.out.mono ?_
      rintro e w4 ⟨rfl, v3, h3, f3, t3⟩
      have H4 := Lib.hid (And.intro h3 (And.intro f3 t3))
      clear h3 f3 t3
      go_wp2_with fail
      go_ret
      have hp := H3.out.1
      refine ⟨rfl, v3, L3.take m, H4.out.1, hp.fr.trans0 H4.out.2.1, ?_, ?_, _, H4.out.2.2⟩
      · have e2 := HX.out
        have : (t :: L3.take m).Perm L3 := by
          conv => rhs; rw [e2]
          exact (List.perm_append_comm (l₁ := [t]) (l₂ := L3.take m))
        exact this.trans (hp.perm.trans (swL_perm _ _ _))
      · rw [HL.out]
        exact hord_of H3.out.2 keyL_take
    · have e2 := HLast.out L2 (by rw [H2.out.1.len, HLen.out]) H2.out.1.far
      have h2 := H2.out.1.hs
      rw [e2] at h2
      have HX := Lib.hid e2
      have HPop := Lib.hid (pop_x h2)
      have HL := Lib.hid (show (L2.take m).length = m by rw [List.length_take, H2.out.1.len, HLen.out]; omega)
      clear e2 h2
      refine HPop.out.mono ?_
      rintro e w4 ⟨rfl, v3, h3, f3, t3⟩
      have H4 := Lib.hid (And.intro h3 (And.intro f3 t3))
      clear h3 f3 t3
      go_wp2_with fail
      go_ret
      have hp := H2.out.1
      refine ⟨rfl, v3, L2.take m, H4.out.1, hp.fr.trans0 H4.out.2.1, ?_, ?_, _, H4.out.2.2⟩
      · have e2 := HX.out
        have : (t :: L2.take m).Perm L2 := by
          conv => rhs; rw [e2]
          exact (List.perm_append_comm (l₁ := [t]) (l₂ := L2.take m))
        exact this.trans (hp.perm.trans (swL_perm _ _ _))
      · rw [HL.out]
        exact hord_of (H2.out.2.1 rfl) keyL_take
end
end Go.Proofs.Ytmmghdnlppjgbaa
