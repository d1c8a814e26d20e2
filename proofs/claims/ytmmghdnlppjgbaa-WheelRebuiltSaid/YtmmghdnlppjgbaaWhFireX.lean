/-
  The walk of fire.
-/
import Derived.Test.YtmmghdnlppjgbaaWhFire
namespace Go.Proofs.Ytmmghdnlppjgbaa
set_option maxRecDepth 100000
open Go.RowKit
/-- What is left of a map when these numbers go. -/
def delM (M : List (Int × Value)) (l : List Int) : List (Int × Value) := M.filter fun p => !l.contains p.1
theorem delM_nil (M : List (Int × Value)) : delM M [] = M := by unfold delM; rw [List.filter_eq_self.2]; intro p _; simp
theorem delM_snoc {M : List (Int × Value)} {l : List Int} {i : Nat} {x : Int} (h : l[i]? = some x) : (delM M (l.take i)).filter (fun p => p.1 != x) = delM M (l.take (i + 1)) := by
  obtain ⟨hi, rfl⟩ := List.getElem?_eq_some_iff.1 h
  unfold delM
  rw [List.filter_filter, List.take_succ_eq_append_getElem hi]
  refine List.filter_congr fun p _ => ?_
  rw [Bool.eq_iff_iff]
  simp only [Bool.and_eq_true, bne_iff_ne, ne_eq, Bool.not_eq_true', List.contains_eq_mem, decide_eq_false_iff_not, List.mem_append, List.mem_singleton]
  constructor
  · rintro ⟨h1, h2⟩ h3
    rcases h3 with h3 | h3
    · exact h2 h3
    · exact h1 h3
  · exact fun h => ⟨fun e => h (.inr e), fun e => h (.inl e)⟩
abbrev intsR (l : List Int) : List Value := l.map fun i => .int .i64 i
section
variable {O : Nat → Prop} {b : Nat} {n : Int} {M : List (Int × Value)} {S P : List Tm} {mt : Nat} {sv : Nat → Option Nat} {v : Value} {L : List Hd} {w w' : World}
theorem WC.dropAll (h : WC O b n M S P mt sv v L w) : WC O b n M S [] mt sv v L w := by
  induction P with
  | nil => exact h
  | cons t P ih => exact ih h.dropP
set_option maxHeartbeats 4000000 in
theorem fire_x (h : WC O b n M S [] mt sv v L w) (n0 : 0 ≤ n) (n1 : n ≤ 1099511627776) (hnm : ∀ t ∈ S, Nm t.id) (few : S.length ≤ 100000) :
    Calls Try.prog 27 #[.pointer (some ⟨b, 0, none⟩)] w fun e w' => ∃ vr, e = .returned vr ∧ w'.ownsRow w.heap.size 3 1 vr (srtI ((S.filter fun t => t.no == slotN 0 n).map Tm.id)).length (intsR (srtI ((S.filter fun t => t.no == slotN 0 n).map Tm.id))) ∧
      (∃ sv', WC O b n (delM M (srtI ((S.filter fun t => t.no == slotN 0 n).map Tm.id))) (S.filter fun t => t.no != slotN 0 n) [] mt sv' v L w') ∧ Fr O w w' := by
  have hk4 : slotN 0 n < 256 := by have := slot_lt 0 n; omega
  have HS := Lib.hid (show ∀ w, Calls Try.prog 24 #[.pointer (some ⟨b, 0, none⟩), .int .i64 0, .int .i64 n] w fun e w' => e = .returned (.pointer (some ⟨b, 2 + slotN 0 n, none⟩)) ∧ ∃ m, w' = w.drewN m from fun w => slot_x b 0 n (by omega) n0 (by omega) w)
  have H := Lib.hid h
  have HNm := Lib.hid hnm
  have c0 := h.hs.wb.now
  generalize hk : slotN 0 n = k at *
  have ck := h.hs.wb.slot hk4
  have HC := Lib.hid (h.sn k hk4)
  have HJ := Lib.hid (fun m (e : sv k = some m) => h.sl k m hk4 e)
  generalize hS0 : (S.filter fun t => t.no == k) = S0 at *
  have HS0 := Lib.hid hS0
  have hl0 : S0.length ≤ 100000 := by rw [← hS0]; exact Nat.le_trans (List.length_filter_le _ _) few
  have hmem : ∀ i ∈ srtI (S0.map Tm.id), Nm i := fun i hi => by
    obtain ⟨t, ht, rfl⟩ := List.mem_map.1 ((srtI_perm _).mem_iff.1 hi)
    rw [← hS0] at ht
    exact hnm t (List.mem_filter.1 ht).1
  have hlen : (srtI (S0.map Tm.id)).length = S0.length := by rw [(srtI_perm _).length_eq, List.length_map]
  have HSo := Lib.hid (fun (w2 : World) (e : ∃ q, w2 = w.drewN q) => sorted_x w2 (sv k) (S0.map Tm.kv) (fun e => by
      have := HC.out e
      rw [← hS0, List.filter_eq_nil_iff.2 (fun t ht => by simpa using this t ht)]; rfl) (fun m e2 => by obtain ⟨q, rfl⟩ := e; exact HJ.out m e2) (by rw [List.length_map]; omega))
  have hids : (S0.map Tm.kv).map Prod.fst = S0.map Tm.id := by rw [List.map_map]; rfl
  rw [hids] at HSo
  simp only [List.length_map] at HSo
  rw [← hlen] at HSo
  generalize srtI (S0.map Tm.id) = l at *
  have HL := Lib.hid hmem
  have hll : l.length ≤ 100000 := by omega
  clear h hnm hmem hS0 hids hlen few hl0 hk
  generalize hx : sv k = x at ck HSo
  have HX := Lib.hid hx
  clear hx
  go_enter Try.func27, Try.ntmps27
  go_wp2_with fail
  refine (HS.out _).mono ?_
  rintro e w2 ⟨rfl, q, hw2⟩
  have HW2 := Lib.hid (show ∃ q, w2 = w.drewN q from ⟨q, hw2⟩)
  have ck2 : w2.cell? ⟨b, 2 + k, none⟩ = some (.map x) := by (rw [hw2]; exact ck)
  clear hw2
  go_wp2_with fail
  refine (keys_x _ _).mono ?_
  rintro e w' ⟨rfl, hw'⟩
  rw [hw']
  clear hw' w'
  go_wp2_with fail
  refine (HSo.out w2 HW2.out).mono ?_
  rintro e w3 ⟨vr, rfl, hrow, hb⟩
  obtain ⟨A, cc, rfl⟩ := own_slice hrow
  have H3 : Hid (WC O b n M S [] mt sv v L w3 ∧ Fr O w w3 ∧ w2.heap.size = w.heap.size) := Lib.hid (by
    obtain ⟨q, rfl⟩ := HW2.out
    exact ⟨(H.out.drewN q).below hb, (Fr.drewN O w q).trans0 (Fr.of_below hb), rfl⟩)
  have HRow : Hid (∀ wr, Fr O w3 wr → wr.ownsRow w.heap.size 3 1 (.slice A l.length cc) l.length (intsR l)) := Lib.hid (fun wr f => by
    have hsz : w2.heap.size = w.heap.size := by obtain ⟨q, rfl⟩ := HW2.out; rfl
    rw [hsz] at hrow
    refine ⟨hrow.1, ?_⟩
    rcases hrow.2 with h0 | ⟨g, cap, cur, hv, hB, hg, h1⟩
    · exact .inl h0
    · exact .inr ⟨g, cap, cur, hv, hB, (f.block g (ltOf hg) (fun ho => by have := H.out.lt g ho; omega)).trans hg, h1⟩)
  clear hrow hb
  go_wp2_with fail
  go_loopw [20] (fun s wr => ∃ i : Nat, s = .int .i64 i ∧ i ≤ l.length ∧ Hid (WC O b n (delM M (l.take i)) S [] mt sv v L wr ∧ Fr O w3 wr)) (fun s _ => l.length - (intOf s).toNat)
  case atStart => exact ⟨0, rfl, by omega, Lib.hid ⟨by rw [List.take_zero, delM_nil]; exact H3.out.1, Fr.refl _ _⟩⟩
  case round =>
    obtain ⟨i, rfl, hi, HI⟩ := hrel
    have cm := HI.out.1.hs.wb.map
    by_cases hlt : i < l.length
    · obtain ⟨y, hy⟩ : ∃ y, l[i]? = some y := ⟨_, List.getElem?_eq_getElem hlt⟩
      have HY := Lib.hid hy
      have cy : ∃ g, A = some ⟨g, 0, none⟩ ∧ wr.cell? ⟨g, i, none⟩ = some (.int .i64 y) := by
        have hr := HRow.out wr HI.out.2
        obtain ⟨g, cap, hv, _, _⟩ := hr.form (by omega)
        injection hv with e1 _ _
        subst e1
        refine ⟨g, rfl, ?_⟩
        rw [hr.cellAt i (by omega), List.getElem?_map, hy]
        rfl
      obtain ⟨g, rfl, cy⟩ := cy
      have HJm := Lib.hid HI.out.1.mp
      have hny := Lib.hid (HL.out y (List.mem_of_getElem? hy))
      clear hy
      obtain ⟨w5, hrun, j5, t5⟩ := HJm.out.del hny.out 0
      have H5 := Lib.hid (And.intro j5 t5)
      clear j5 t5
      go_wp2_with fail
      go_roundw
      case rel =>
        refine ⟨i + 1, by simp, by omega, Lib.hid ⟨?_, HI.out.2.trans0 ((Fr.refl O wr).turned H5.out.2 HI.out.1.om)⟩⟩
        have := HI.out.1.setM H5.out.1 H5.out.2
        rwa [delM_snoc HY.out] at this
      case measure => simp [intOf]; omega
    · have : i = l.length := by omega
      subst this
      have cs := HI.out.1.hs.wb.slot hk4
      have fs := HI.out.1.hs.wb.free (2 + k)
      go_wp2_with fail
      go_ret
      refine ⟨_, rfl, ?_, ⟨upS sv k none, ?_⟩, (H3.out.2.1.trans0 HI.out.2).set H.out.hs.ob (2 + k) _⟩
      · have hr := HRow.out wr HI.out.2
        refine hr.kept (row := some b) ⟨rfl, rfl, rfl, by simp, fun i hi hne => set_far (fun e => hne (by rw [e])) _ _⟩ ?_
        right
        intro e
        have := (hr.lt b e).1
        have := H.out.hs.wb.lt
        omega
      · have := (HI.out.1.clear_slot hk4).dropAll
        rwa [List.take_length] at this
end
end Go.Proofs.Ytmmghdnlppjgbaa
