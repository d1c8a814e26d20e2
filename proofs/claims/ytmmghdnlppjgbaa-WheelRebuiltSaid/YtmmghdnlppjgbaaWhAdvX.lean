/-
  The walk of Advance.
-/
import Derived.Test.YtmmghdnlppjgbaaWhPub
namespace Go.Proofs.Ytmmghdnlppjgbaa
set_option maxRecDepth 100000
open Go.RowKit
theorem Try.infoI : (Try.prog.info? 3).map (fun i => (i.zero, i.size, i.bytes)) = some (some (.int .i64 0), 1, 8) := by kernel_rfl
/-- append of a row onto another one, both the calls' own. -/
theorem run_app {w : World} {B B2 : Nat} {v u : Value} {xs ys : List Int} (ty : TypeId) (hv : w.ownsRow B 3 1 v xs.length (intsR xs)) (hu : w.ownsRow B2 3 1 u ys.length (intsR ys)) (hl : xs.length + ys.length ≤ 1000000) (hB : B ≤ w.heap.size) :
    ∃ v' w', (Builtin.append_ #[40, 40] ty #[v, u]).run Try.prog w = .ok v' w' ∧ w'.ownsRow B 3 1 v' (xs ++ ys).length (intsR (xs ++ ys)) ∧ w.grownBy w' v.ownBlock ∧ (v'.ownBlock = v.ownBlock ∨ v'.ownBlock = some w.heap.size) := by
  obtain ⟨i0, hi, hz0, hz1, hz2⟩ := info_parts Try.infoI
  rcases hu.2 with ⟨rfl, h0⟩ | ⟨g, cap, cur, rfl, _, _⟩
  · have hy := List.eq_nil_of_length_eq_zero h0
    subst hy
    exact ⟨v, w, run_append_owned_none (P := Try.prog) w B 40 ty 3 i0 1 Try.underlying40 hi v xs.length (intsR xs) hv, by simpa using hv, World.grownBy.refl _ _, .inl rfl⟩
  · obtain ⟨v', w', hr, h2, h3, _, h5⟩ := run_append_own_at (P := Try.prog) w B 40 ty 3 i0 (.int .i64 0) 1 8 Try.underlying40 hi hz0 hz1 hz2 rfl (by decide) v xs.length (intsR xs) hv ⟨g, 0, none⟩ ys.length cap (intsR ys) (by simp) (fun j x hj => by
      have hj2 : j < ys.length := by have := (List.getElem?_eq_some_iff.1 hj).1; simpa using this
      have := hu.cellAt j (by omega)
      rw [hj] at this
      rw [show (⟨g, 0, none⟩ : Addr).add j = ⟨g, j, none⟩ from by simp [Addr.add]; intro e; simp [e]]
      exact this) (fun x hx => by obtain ⟨i, _, rfl⟩ := List.mem_map.1 hx; rfl) (by unfold maxLen; omega) (by omega) hB
    refine ⟨v', w', hr, ?_, h3, h5⟩
    rw [List.length_append]
    unfold intsR
    rw [List.map_append]
    exact h2
/-- An advance under way: k have fired. -/
structure AdI (O : Nat → Prop) (b : Nat) (M : List En) (n to batch : Int) (w : World) (vr : Value) (k : Nat) (n1 : Int) (S1 : List Tm) (O1 : Nat → Prop) (mt : Nat) (sv : Nat → Option Nat) (v : Value) (L : List Hd) (wr : World) : Prop where
  le : k ≤ M.length
  past : ∀ p ∈ M.take k, p.1 ≤ n1
  lo : n ≤ n1
  hi : n1 ≤ to
  last : ∃ j : Nat, (j : Int) < batch ∧ j ≤ k ∧ ∀ p ∈ (M.take k).drop j, p.1 = n1
  wc : WC O1 b n1 (S1.map Tm.kv) S1 [] mt sv v L wr
  set : Set_ n1 S1 (M.drop k)
  sub : ∀ i, O1 i → O i ∨ w.heap.size ≤ i
  row : wr.ownsRow w.heap.size 3 1 vr ((M.take k).map Prod.snd).length (intsR ((M.take k).map Prod.snd))
  own : ∀ g, vr.ownBlock = some g → ¬ O1 g
  fr : Fr O w wr
/-- The advance is over. -/
def AdE (O : Nat → Prop) (b : Nat) (M : List En) (n to batch : Int) (w : World) (vr : Value) (m : Int) (w' : World) : Prop :=
  ∃ k, AdvP M n to batch k m ∧ w'.ownsRow w.heap.size 3 1 vr ((M.take k).map Prod.snd).length (intsR ((M.take k).map Prod.snd)) ∧ (∃ O', PW O' b m (M.drop k) w' ∧ (∀ i, O' i → O i ∨ w.heap.size ≤ i) ∧ ∀ g, vr.ownBlock = some g → ¬ O' g) ∧ Fr O w w'
section
variable {O : Nat → Prop} {b : Nat} {M : List En} {n to batch : Int} {w : World} {vr : Value} {k : Nat} {n1 : Int} {S1 : List Tm} {O1 : Nat → Prop} {mt : Nat} {sv : Nat → Option Nat} {v : Value} {L : List Hd} {wr : World}
theorem AdI.next (h : AdI O b M n to batch w vr k n1 S1 O1 mt sv v L wr) : ∀ p ∈ M.drop k, n1 < p.1 := fun p hp => by
  obtain ⟨t, ht, rfl⟩ := List.mem_map.1 (h.set.perm.mem_iff.1 hp)
  exact (h.set.stand t ht).ahead
/-- As many as were asked for have fired. -/
theorem AdI.full (h : AdI O b M n to batch w vr k n1 S1 O1 mt sv v L wr) (hk : batch ≤ k) (q : Nat) : AdE O b M n to batch w vr n1 (wr.drewN q) := by
  obtain ⟨j, h1, h2, h3⟩ := h.last
  refine ⟨k, ⟨h.le, h.past, h.next, h.lo, h.hi, .inr ⟨hk, j, h1, by omega, h3⟩⟩, h.row, ⟨O1, ⟨S1, mt, sv, v, L, h.wc.drewN q, h.set⟩, h.sub, h.own⟩, h.fr.trans0 (Fr.drewN _ _ _)⟩
/-- Nothing is to be done up to where it goes. -/
theorem AdI.done (h : AdI O b M n to batch w vr k n1 S1 O1 mt sv v L wr) (hk : (k : Int) < batch) (hto : to ≤ 1099511627776) {r : Int} {ok : Bool} (hf : FdT S1 n1 5 ok r) (hr : ok = true → to < r) {w2 : World} (hb : Below wr.heap.size wr w2) (q : Nat) : AdE O b M n to batch w vr to ((w2.setCell ⟨b, 0, none⟩ (.int .i64 to)).drewN q) := by
  have w2c := (h.wc.below hb).setNow to
  have ht : ∀ t ∈ S1, to < turnOf t := fun t ht => by
    have hl : t.lv < 5 := by have := (h.set.stand t ht).2.2; omega
    cases ok with
    | false => exact absurd hl ((hf.1 rfl).2 t ht)
    | true => have := (hf.2 rfl).2 t ht hl; have := hr rfl; omega
  have hne : ∀ g, vr.ownBlock = some g → g ≠ b := fun g hg e => h.own g hg (e ▸ h.wc.hs.ob)
  have n0 := h.set.n0
  have lo := h.lo
  have hi := h.hi
  refine ⟨k, ⟨h.le, fun p hp => Int.le_trans (h.past p hp) h.hi, fun p hp => ?_, by omega, Int.le_refl _, .inl ⟨rfl, hk⟩⟩, ?_, ⟨O1, ⟨S1, mt, sv, v, L, w2c.drewN q, ⟨fun t htS => stand_on (h.set.stand t htS) hi (ht t htS), h.set.perm, h.set.srt, h.set.ids, by omega, hto, h.set.id0, h.set.f1⟩⟩, h.sub, h.own⟩, ?_⟩
  · obtain ⟨t, htS, rfl⟩ := List.mem_map.1 (h.set.perm.mem_iff.1 hp)
    have := (turn_le (h.set.stand t htS)).1
    have := ht t htS
    show to < t.f
    omega
  · have r1 := own_below h.row hb
    exact (ownsRow_setCell_other r1 (a := ⟨b, 0, none⟩) (fun e => hne b e rfl) _)
  · have hsz := h.fr.size
    exact ((h.fr.trans0 (Fr.of_below hb)).trans ((Fr.refl O1 w2).set h.wc.hs.ob 0 (.int .i64 to)) fun i hi ho => (h.sub i ho).elim id fun e => by omega).trans0 (Fr.drewN _ _ _)
theorem AdI.an (h : AdI O b M n to batch w vr k n1 S1 O1 mt sv v L wr) (few : M.length ≤ 1000) {r : Int} (hf : FdT S1 n1 5 true r) : n1 < r ∧ An S1 r 1 S1 := by
  obtain ⟨a1, a2⟩ := hf.2 rfl
  refine ⟨a1, fun t ht => stand_mid (h.set.stand t ht) a1 (a2 t ht (by have := (h.set.stand t ht).2.2; omega)), List.Perm.refl _, fun t ht => by have := h.set.f1 t ht; omega, fun t ht => ⟨by have := (h.set.id0 t ht).1; omega, (h.set.id0 t ht).2⟩, h.set.ids, ?_⟩
  have := PW.len h.set
  have := List.length_drop (i := k) (l := M)
  omega
theorem AdI.fired {r : Int} {S2 : List Tm} {O2 : Nat → Prop} {sv3 : Nat → Option Nat} {v2 : Value} {L2 : List Hd} {w2 w4 w5 : World} {vu : Value} (h : AdI O b M n to batch w vr k n1 S1 O1 mt sv v L wr) (hk : (k : Int) < batch) (hn : n1 < r) (hr : r ≤ to) (hto : to ≤ 1099511627776)
    (hb : Below wr.heap.size wr w2) (f4 : Fr O1 (w2.setCell ⟨b, 0, none⟩ (.int .i64 r)) w4) (s2 : ∀ i, O2 i → O1 i ∨ (w2.setCell ⟨b, 0, none⟩ (.int .i64 r)).heap.size ≤ i) (ha : An S1 r 4 S2) (h4 : ∀ t ∈ S2, t.lv = 4 → r + 16777216 ≤ t.f)
    (f5 : Fr O2 w4 w5) (w5c : WC O2 b r (delM (S1.map Tm.kv) (srtI ((S2.filter fun t => t.no == slotN 0 r).map Tm.id))) (S2.filter fun t => t.no != slotN 0 r) [] mt sv3 v2 L2 w5)
    (hu : w5.ownsRow w4.heap.size 3 1 vu (srtI ((S2.filter fun t => t.no == slotN 0 r).map Tm.id)).length (intsR (srtI ((S2.filter fun t => t.no == slotN 0 r).map Tm.id))))
    (few : M.length ≤ 1000) (ty : TypeId) : ∃ v' w6, (Builtin.append_ #[40, 40] ty #[vr, vu]).run Try.prog w5 = .ok v' w6 ∧ ∃ k' S3 L3, AdI O b M n to batch w v' k' r S3 O2 mt sv3 v2 L3 w6 := by
  obtain ⟨G, R, e1, hG, hR, e2, hS, hp⟩ := fire_parts h.set hn (by omega) ha h4
  rw [e2] at w5c hu
  have hkl := h.le
  have hlen : k + G.length ≤ M.length := by
    have := congrArg List.length e1
    rw [List.length_drop, List.length_append] at this
    omega
  have t1 : M.take (k + G.length) = M.take k ++ G := by rw [List.take_add, e1, List.take_left']; rfl
  have t2 : M.drop (k + G.length) = R := by rw [← List.drop_drop, e1, List.drop_left']; rfl
  have sz1 := h.fr.size
  have sz2 := hb.size
  have sz4 := f4.size
  rw [World.size_setCell] at sz4 s2
  have sz5 := f5.size
  have f14 : Fr O1 wr w4 := ((Fr.of_below hb : Fr O1 wr w2).set h.wc.hs.ob 0 (.int .i64 r)).trans0 f4
  have f15 : Fr O1 wr w5 := f14.trans f5 fun i hi ho => (s2 i ho).elim id fun e => by omega
  have ownlt : ∀ g, vr.ownBlock = some g → g < wr.heap.size := fun g hg => (h.row.lt g hg).2
  have own2 : ∀ g, vr.ownBlock = some g → ¬ O2 g := fun g hg ho => by
    rcases s2 g ho with e | e
    · exact h.own g hg e
    · have := ownlt g hg; omega
  have row5 : w5.ownsRow w.heap.size 3 1 vr ((M.take k).map Prod.snd).length (intsR ((M.take k).map Prod.snd)) := by
    refine ⟨h.row.1, ?_⟩
    rcases h.row.2 with h0 | ⟨g, cap, cur, hv, hB, hg, h1⟩
    · exact .inl h0
    · exact .inr ⟨g, cap, cur, hv, hB, (f15.block g (ltOf hg) (h.own g (by rw [hv]; rfl))).trans hg, h1⟩
  obtain ⟨v', w6, hrun, r1, r2, r3⟩ := run_app ty row5 hu (by rw [List.length_map, List.length_map, List.length_take]; omega) (by omega)
  have f6 : Fr (fun i => O1 i ∨ vr.ownBlock = some i) wr w6 := (f15.mono fun i _ e => .inl e).trans (⟨r2.os, r2.tape, r2.output, r2.size, fun i hi hn => r2.block i hi (fun e => hn e.symm)⟩ : Fr (fun i => vr.ownBlock = some i) w5 w6) fun i _ e => .inr e
  refine ⟨v', w6, hrun, k + G.length, _, L2, ⟨hlen, fun p hp => ?_, by have := h.lo; omega, hr, ⟨k, hk, by omega, ?_⟩, (w5c.permM hp).other r2.size (fun i hi => r2.block i (w5c.lt i hi) (fun e => own2 i e.symm hi)), by rw [t2]; exact hS, fun i hi => ?_, ?_, fun g hg => ?_, ?_⟩⟩
  · rw [t1] at hp
    rcases List.mem_append.1 hp with hp | hp
    · have := h.past p hp; omega
    · have := hG p hp; omega
  · rw [t1, List.drop_append_of_le_length (by rw [List.length_take]; omega), List.drop_of_length_le (by rw [List.length_take]; omega), List.nil_append]
    exact hG
  · rcases s2 i hi with e | e
    · exact h.sub i e
    · exact .inr (by omega)
  · rw [t1, List.map_append]
    exact r1
  · rcases r3 with e | e
    · rw [e] at hg; exact own2 g hg
    · rw [e] at hg; injection hg with hg; subst hg
      exact fun ho => by have := w5c.lt _ ho; omega
  · refine h.fr.trans f6 fun i hi e => ?_
    rcases e with e | e
    · exact (h.sub i e).elim id fun e => by omega
    · have := (h.row.lt i e).1; omega
end
end Go.Proofs.Ytmmghdnlppjgbaa
