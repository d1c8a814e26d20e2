/-
  The walk of turn.
-/
import Derived.Test.YtmmghdnlppjgbaaWhAhead
namespace Go.Proofs.Ytmmghdnlppjgbaa
set_option maxRecDepth 100000
open Go.RowKit
/-- The two boxes of a closure that seeks the least. -/
def Bx (w : World) (fb ib : Nat) (found : Bool) (first : Int) : Prop := w.heap[fb]? = some (.cells #[.bool found] 4 (0, 0)) ∧ w.heap[ib]? = some (.cells #[.int .i64 first] 3 (0, 0))
theorem Bx.below {w w' : World} {fb ib : Nat} {found : Bool} {first : Int} (h : Bx w fb ib found first) (hb : Below w.heap.size w w') : Bx w' fb ib found first := ⟨(hb.block fb (ltOf h.1)).trans h.1, (hb.block ib (ltOf h.2)).trans h.2⟩
theorem Bx.drewN {w : World} {fb ib : Nat} {found : Bool} {first : Int} (h : Bx w fb ib found first) (m : Nat) : Bx (w.drewN m) fb ib found first := h
/-- What is found, behind one more. -/
def seekN (found : Bool) (first tick : Int) : Int := if found = true ∧ ¬ tick < first then first else tick
theorem Bx.set {w : World} {fb ib : Nat} {found : Bool} {first : Int} (h : Bx w fb ib found first) (tick : Int) : Bx ((w.setCell ⟨ib, 0, none⟩ (.int .i64 tick)).setCell ⟨fb, 0, none⟩ (.bool true)) fb ib true tick := by
  have hne : fb ≠ ib := fun e => by have h1 := h.1; rw [e, h.2] at h1; injection h1 with h1; injection h1 with h1 _; cases h1
  refine ⟨?_, ?_⟩
  · have h1 : (w.setCell ⟨ib, 0, none⟩ (.int .i64 tick)).heap[fb]? = some (.cells #[.bool found] 4 (0, 0)) := (set_far hne _ _).trans h.1
    exact setOf h1 0 (.bool true)
  · exact (set_far hne.symm _ _).trans (setOf h.2 0 (.int .i64 tick))
set_option maxHeartbeats 1000000 in
theorem seekT_x {w : World} {fb ib : Nat} {found : Bool} {first : Int} (h : Bx w fb ib found first) (tick : Int) :
    Calls Try.prog 34 #[.int .i64 tick, .pointer (some ⟨fb, 0, none⟩), .pointer (some ⟨ib, 0, none⟩)] w fun e w' => e = .returned (.tuple #[]) ∧ Bx w' fb ib true (seekN found first tick) ∧ Fr (fun k => k = fb ∨ k = ib) w w' := by
  have c1 : w.cell? ⟨fb, 0, none⟩ = some (.bool found) := cellOf h.1 0
  have c2 : w.cell? ⟨ib, 0, none⟩ = some (.int .i64 first) := cellOf h.2 0
  have f1 : w.frozen? ⟨fb, 0, none⟩ = false := freeOf h.1 0
  have f2 : w.frozen? ⟨ib, 0, none⟩ = false := freeOf h.2 0
  have hne : ib ≠ fb := fun e => by have h1 := h.1; rw [← e, h.2] at h1; injection h1 with h1; injection h1 with h1 _; cases h1
  have H := Lib.hid h
  have HF : Hid (Fr (fun k => k = fb ∨ k = ib) w ((w.setCell ⟨ib, 0, none⟩ (.int .i64 tick)).setCell ⟨fb, 0, none⟩ (.bool true))) := Lib.hid (((Fr.refl _ w).set (.inr rfl) 0 _).set (.inl rfl) 0 _)
  clear h
  cases found with
  | false =>
    go_enter Try.func34, Try.ntmps34
    go_wp2_with fail
    go_end0
    exact ⟨rfl, by simpa [seekN] using H.out.set tick, HF.out⟩
  | true =>
    cases hd : decide (tick < first) with
    | true =>
      go_enter Try.func34, Try.ntmps34
      go_wp2_with fail
      go_end0
      exact ⟨rfl, by rw [seekN, if_neg (fun e => e.2 (of_decide_eq_true hd))]; exact H.out.set tick, HF.out⟩
    | false =>
      go_enter Try.func34, Try.ntmps34
      go_wp2_with fail
      go_end0
      exact ⟨rfl, by rw [seekN, if_pos ⟨rfl, of_decide_eq_false hd⟩]; exact H.out, Fr.refl _ _⟩
/-- What was found of the levels below i. -/
def FdT (S : List Tm) (n : Int) (i : Nat) (found : Bool) (first : Int) : Prop := (found = false → first = 0 ∧ ∀ t ∈ S, ¬ t.lv < i) ∧ (found = true → n < first ∧ ∀ t ∈ S, t.lv < i → first ≤ turnOf t)
theorem FdT.none {S : List Tm} {n : Int} {i : Nat} {found : Bool} {first : Int} (h : FdT S n i found first) (hn : ∀ t ∈ S, t.lv ≠ i) : FdT S n (i + 1) found first :=
  ⟨fun e => ⟨(h.1 e).1, fun t ht => by have := (h.1 e).2 t ht; have := hn t ht; omega⟩, fun e => ⟨(h.2 e).1, fun t ht hl => (h.2 e).2 t ht (by have := hn t ht; omega)⟩⟩
theorem FdT.some {S : List Tm} {n : Int} {i : Nat} {found : Bool} {first r : Int} (h : FdT S n i found first) (hr : n < r) (hn : ∀ t ∈ S, t.lv = i → r ≤ turnOf t) : FdT S n (i + 1) true (seekN found first r) := by
  refine ⟨fun e => by simp at e, fun _ => ?_⟩
  unfold seekN
  split
  · rename_i e
    obtain ⟨h1, h2⟩ := h.2 e.1
    refine ⟨h1, fun t ht hl => ?_⟩
    by_cases hi : t.lv < i
    · exact h2 t ht hi
    · have := hn t ht (by omega); omega
  · rename_i e
    refine ⟨hr, fun t ht hl => ?_⟩
    by_cases hi : t.lv < i
    · cases found with
      | false => exact absurd hi ((h.1 rfl).2 t ht)
      | true => have := (h.2 rfl).2 t ht hi; have : r < first := Classical.byContradiction fun h => e ⟨rfl, h⟩; omega
    · exact hn t ht (by omega)
theorem ah_turn {S : List Tm} {n : Int} {l : Nat} {q : Int} (hl : l < 4) (h1 : n / wd l < q) (h2 : ∀ t ∈ S, t.lv = l → q ≤ t.f / wd l) : n < q * wd l ∧ ∀ t ∈ S, t.lv = l → q * wd l ≤ turnOf t := by
  refine ⟨div_lt (l := l) (by rw [begins_div]; exact h1), fun t ht e => ?_⟩
  unfold turnOf
  rw [if_pos (by omega), e]
  exact Int.mul_le_mul_of_nonneg_right (h2 t ht e) (Int.le_of_lt (wd_pos l))
section
variable {O : Nat → Prop} {b : Nat} {n : Int} {M : List (Int × Value)} {S P : List Tm} {mt : Nat} {sv : Nat → Option Nat} {v : Value} {L : List Hd} {w w' : World}
theorem WC.first4 (h : WC O b n M S P mt sv v L w) {x : Hd} (hx : L[0]? = some x) : (∀ t ∈ S, t.lv = 4 → x.f ≤ t.f) ∧ ∃ t ∈ S, t.lv = 4 ∧ t.hd = x := by
  refine ⟨fun t ht hl => ?_, h.mem_L (mem_at hx)⟩
  have : t.hd ∈ L := h.perm.mem_iff.2 (List.mem_map.2 ⟨t, List.mem_filter.2 ⟨ht, by simp [hl]⟩, rfl⟩)
  obtain ⟨k, hk, e⟩ := List.getElem_of_mem this
  have h1 := hord_min h.ord k hk
  rw [keyL_at hx, keyL_at (h := t.hd) (by rw [List.getElem?_eq_getElem hk, e])] at h1
  exact h1
set_option maxHeartbeats 4000000 in
theorem turn_x (h : WC O b n M S P mt sv v L w) (hS : ∀ t ∈ S, Stand n t) (n0 : 0 ≤ n) (n1 : n ≤ 1099511627776) (hf : ∀ t ∈ S, t.f ≤ 4398046511104) :
    Calls Try.prog 25 #[.pointer (some ⟨b, 0, none⟩)] w fun e w' => ∃ r ok, e = .returned (.tuple #[.int .i64 r, .bool ok]) ∧ FdT S n 5 ok r ∧ Below w.heap.size w w' := by
  obtain ⟨A, c, rfl⟩ := own_slice h.hs.row
  have H := Lib.hid h
  have HS := Lib.hid hS
  have HW := Lib.hid (show ∀ w, Calls Try.prog 30 #[.int .i64 4] w fun e w' => e = .returned (.int .i64 16777216) ∧ w' = w from width_x 4 (by omega))
  have HF := Lib.hid hf
  have few := h.hs.few
  clear h hS hf
  go_enter Try.func25, Try.ntmps25
  go_wp2_with fail
  go_loopw [11] (fun s wr => ∃ (i : Nat) (found : Bool) (first : Int), s = .int .i64 i ∧ i ≤ 4 ∧ Hid (Bx wr (w.heap.size + 1) w.heap.size found first ∧ FdT S n i found first ∧ Below w.heap.size w wr)) (fun s _ => 4 - (intOf s).toNat)
  case atStart =>
    refine ⟨0, false, 0, rfl, by omega, Lib.hid ⟨⟨by simpa using newOf (w.alloc (.cells #[.int .i64 0] 3)) (.cells #[.bool false] 4), (Below.heap_alloc _ _ w.heap.size (by simp)).trans (newOf w _)⟩, ⟨fun _ => ⟨rfl, fun t _ => by omega⟩, fun e => by simp at e⟩, ((Below.refl _ w).alloc (Nat.le_refl _) _).alloc (by simp) _⟩⟩
  case round =>
    obtain ⟨i, found, first, rfl, hi, HR⟩ := hrel
    have h1 := H.out.below HR.out.2.2
    by_cases h4 : i < 4
    · have HA := Lib.hid (ahead_x h1 HS.out n0 n1 h4)
      clear h1
      go_wp2_with fail
      refine HA.out.mono ?_
      rintro e w2 ⟨x, r, rfl, hA, m, rfl⟩
      rcases hA with ⟨rfl, rfl, hA⟩ | ⟨q, m0, rfl, rfl, q1, q2, q3, q4, q5⟩
      · have hL := len_nil
        have HN := Lib.hid (HR.out.2.1.none hA)
        clear hA
        go_wp2_with fail
        go_roundw
        case rel => exact ⟨i + 1, found, first, by simp, by omega, Lib.hid ⟨HR.out.1.drewN m, HN.out, below_drewN HR.out.2.2 m⟩⟩
        case measure => simp [intOf]; omega
      · have hlen := ((H.out.below HR.out.2.2).drewN m).slot_len (k := slotN i (q * wd i)) (by have := slot_lt i (q * wd i); omega)
        rw [q3] at hlen
        have hcn : 0 < (S.filter fun t => t.no == slotN i (q * wd i)).length := by
          obtain ⟨t, ht, e⟩ := q4
          exact List.length_pos_of_mem (List.mem_filter.2 ⟨ht, by simpa using e⟩)
        generalize (S.filter fun t => t.no == slotN i (q * wd i)).length = cn at hlen hcn
        obtain ⟨a1, a2⟩ := ah_turn h4 q1 q5
        have HN := Lib.hid (HR.out.2.1.some a1 a2)
        have HSk := Lib.hid (seekT_x (HR.out.1.drewN m) (q * wd i))
        clear q1 q2 q3 q4 q5 a1 a2
        generalize q * wd i = r at *
        go_wp2_with (go_at_call 34; refine HSk.out.mono ?_; rintro e w3 ⟨rfl, hb, hf⟩; have H3 := Lib.hid (And.intro hb hf); clear hb hf)
        go_roundw
        case rel => exact ⟨i + 1, true, _, by simp, by omega, Lib.hid ⟨H3.out.1, HN.out, (below_drewN HR.out.2.2 m).trans (H3.out.2.below (by have := HR.out.2.2.size; simpa using this) fun k hk e => by omega)⟩⟩
        case measure => simp [intOf]; omega
    · have : i = 4 := by omega
      subst this
      have cl := h1.hs.wb.list
      obtain ⟨hB1, hB2⟩ := HR.out.1
      have b1 : wr.cell? ⟨w.heap.size + 1, 0, none⟩ = some (.bool found) := cellOf hB1 0
      have b2 : wr.cell? ⟨w.heap.size, 0, none⟩ = some (.int .i64 first) := cellOf hB2 0
      rcases Nat.eq_zero_or_pos L.length with hL0 | hL0
      · have HN := Lib.hid (HR.out.2.1.none (fun t ht e => by
          have : t.hd ∈ L := h1.perm.mem_iff.2 (List.mem_map.2 ⟨t, List.mem_filter.2 ⟨ht, by simp [e]⟩, rfl⟩)
          rw [List.eq_nil_of_length_eq_zero hL0] at this
          simp at this))
        rw [hL0] at cl
        clear h1 hB1 hB2 hL0 few
        go_wp2_with fail
        go_quiet (fail)
        go_wp2_with fail
        go_returns
        exact ⟨first, found, rfl, HN.out, below_drewN HR.out.2.2 _⟩
      · obtain ⟨x, hx⟩ := at_some hL0
        obtain ⟨g, cap, hv, _, _, hc, _⟩ := h1.hs.form hL0
        injection hv with e1 _ e3
        subst e1 e3
        have cg := hc 0 x hx
        obtain ⟨_, x1, _⟩ := (h1.hs.hd 0 x hx).cells
        obtain ⟨a2, t, ht, hl, ex⟩ := h1.first4 hx
        have hxf : n + 16777216 ≤ x.f := by rw [← ex]; exact (HS.out t ht).2.1 hl
        have hxg : x.f ≤ 4398046511104 := by rw [← ex]; exact HF.out t ht
        have HN := Lib.hid (HR.out.2.1.some (r := x.f - 16777216 + 1) (by omega) (fun t ht hl => by unfold turnOf; rw [if_neg (by omega)]; have := a2 t ht hl; omega))
        have HSk := Lib.hid (fun (wx : World) (e : wx.heap = wr.heap) => seekT_x (w := wx) (show Bx wx (w.heap.size + 1) w.heap.size found first from ⟨by rw [e]; exact HR.out.1.1, by rw [e]; exact HR.out.1.2⟩) (x.f - 16777216 + 1))
        have HKp := Lib.hid (fun (w3 : World) (f : Fr (fun k => k = w.heap.size + 1 ∨ k = w.heap.size) wr.drew w3) => show w3.cell? ⟨b, 258, none⟩ = some (.slice (some ⟨g, 0, none⟩) L.length c) ∧ w3.cell? ⟨g, 0, none⟩ = some (ptrV x.a) ∧ w3.cell? ⟨x.a, 1, none⟩ = some (.int .i64 x.f) by
          have hb := H.out.hs.wb.lt
          have hg := H.out.lt g (H.out.hs.ov g rfl)
          have hx' := H.out.lt x.a (H.out.hs.ol x (mem_at hx))
          have hsz : w.heap.size ≤ wr.heap.size := HR.out.2.2.size
          refine ⟨(World.cell?_of_block (f.block b ?_ ?_)).trans cl, (World.cell?_of_block (f.block g ?_ ?_)).trans cg, (World.cell?_of_block (f.block x.a ?_ ?_)).trans x1⟩
          · exact Nat.lt_of_lt_of_le hb hsz
          · rintro (e | e) <;> omega
          · exact Nat.lt_of_lt_of_le hg hsz
          · rintro (e | e) <;> omega
          · exact Nat.lt_of_lt_of_le hx' hsz
          · rintro (e | e) <;> omega)
        have z1 : IntKind.i64.wrap (x.f - 16777216) = x.f - 16777216 := by rw [IntWalk.i64_in] <;> omega
        have z2 : IntKind.i64.wrap (x.f - 16777216 + 1) = x.f - 16777216 + 1 := by rw [IntWalk.i64_in] <;> omega
        clear h1 hB1 hB2 hc hx ht hl ex a2 b1 b2
        go_wp2_with fail
        go_region_held3 (fun w' => w'.cell? ⟨b, 258, none⟩ = some (.slice (some ⟨g, 0, none⟩) L.length c) ∧ w'.cell? ⟨g, 0, none⟩ = some (ptrV x.a) ∧ w'.cell? ⟨x.a, 1, none⟩ = some (.int .i64 x.f))
          (first | (with_reducible exact HKp.out _ (by assumption)) | exact ⟨cl, cg, x1⟩)
          (first
            | (go_at_call 30; (with_reducible refine (HW.out _).mono ?_); rintro e w2 ⟨rfl, rfl⟩)
            | (go_at_call 34; (refine (HSk.out wr.drew rfl).mono ?_); rintro e w3 ⟨rfl, hb, hf⟩))
        have b3 : w3.cell? ⟨w.heap.size + 1, 0, none⟩ = some (.bool true) := cellOf hb.1 0
        have b4 : w3.cell? ⟨w.heap.size, 0, none⟩ = some (.int .i64 (seekN found first (x.f - 16777216 + 1))) := cellOf hb.2 0
        have HBe := Lib.hid ((HR.out.2.2.drew).trans (hf.below (by have := HR.out.2.2.size; simpa using this) fun k hk e => by omega))
        clear hb hf
        go_wp2_with fail
        go_quiet (fail)
        go_wp2_with fail
        go_returns
        exact ⟨_, true, rfl, HN.out, below_drewN HBe.out _⟩
end
end Go.Proofs.Ytmmghdnlppjgbaa
