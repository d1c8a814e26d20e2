/-
  THE WHEELS AS THE DOCUMENT HAS THEM; what one turn of an advance makes of them.
-/
import Derived.Test.YtmmghdnlppjgbaaWhFireX
namespace Go.Proofs.Ytmmghdnlppjgbaa
set_option maxRecDepth 100000
open Go.RowKit
abbrev Tm.en (t : Tm) : En := (t.f, t.id)
/-- What holds of timers between calls. -/
structure Set_ (n : Int) (S : List Tm) (M : List En) : Prop where
  stand : ∀ t ∈ S, Stand n t
  perm : M.Perm (S.map Tm.en)
  srt : Srt M
  ids : (S.map Tm.id).Nodup
  n0 : 0 ≤ n
  n1 : n ≤ 1099511627776
  id0 : ∀ t ∈ S, 0 ≤ t.id ∧ t.id ≤ 9223372036854775807
  f1 : ∀ t ∈ S, t.f ≤ 2199023255552
/-- WHEELS AT BLOCK b: now, and who fires when. -/
def PW (O : Nat → Prop) (b : Nat) (n : Int) (M : List En) (w : World) : Prop :=
  ∃ S mt sv v L, WC O b n (S.map Tm.kv) S [] mt sv v L w ∧ Set_ n S M
/-- .. behind a call. -/
def PD (O : Nat → Prop) (b : Nat) (n : Int) (M : List En) (w w' : World) : Prop := (∃ O', PW O' b n M w' ∧ ∀ k, O' k → O k ∨ w.heap.size ≤ k) ∧ Fr O w w'
theorem PW.len {n : Int} {S : List Tm} {M : List En} (h : Set_ n S M) : S.length = M.length := by rw [h.perm.length_eq, List.length_map]
theorem PW.lt {O : Nat → Prop} {b : Nat} {n : Int} {M : List En} {w : World} (h : PW O b n M w) : ∀ k, O k → k < w.heap.size := by obtain ⟨S, mt, sv, v, L, h1, _⟩ := h; exact h1.lt
theorem PW.other {O : Nat → Prop} {b : Nat} {n : Int} {M : List En} {w w' : World} (h : PW O b n M w) (hs : w.heap.size ≤ w'.heap.size) (hk : ∀ k, O k → w'.heap[k]? = w.heap[k]?) : PW O b n M w' := by
  obtain ⟨S, mt, sv, v, L, h1, h2⟩ := h
  exact ⟨S, mt, sv, v, L, h1.other hs hk, h2⟩
theorem PW.below {O : Nat → Prop} {b : Nat} {n : Int} {M : List En} {w w' : World} (h : PW O b n M w) (hb : Below w.heap.size w w') : PW O b n M w' := h.other hb.size fun k hk => hb.block k (h.lt k hk)
theorem PW.drewN {O : Nat → Prop} {b : Nat} {n : Int} {M : List En} {w : World} (h : PW O b n M w) (m : Nat) : PW O b n M (w.drewN m) := h.other (Nat.le_refl _) fun _ _ => rfl
theorem PD.refl {O : Nat → Prop} {b : Nat} {n : Int} {M : List En} {w : World} (h : PW O b n M w) : PD O b n M w w := ⟨⟨O, h, fun _ e => .inl e⟩, Fr.refl _ _⟩
theorem PD.next {O O1 : Nat → Prop} {b : Nat} {n2 : Int} {M2 : List En} {w w1 w2 : World} (hs : ∀ k, O1 k → O k ∨ w.heap.size ≤ k) (hf : Fr O w w1) (h : PD O1 b n2 M2 w1 w2) : PD O b n2 M2 w w2 := by
  obtain ⟨⟨O2, h1, h2⟩, h3⟩ := h
  refine ⟨⟨O2, h1, fun k hk => ?_⟩, hf.trans h3 fun k hk ho => (hs k ho).elim id fun e => by omega⟩
  rcases h2 k hk with e | e
  · exact hs k e
  · have := hf.size; exact .inr (by omega)
/-- Ascending numbers of one tick, put in order, are as they stand. -/
theorem srt_group {G : List En} {r : Int} (h : Srt G) (hr : ∀ p ∈ G, p.1 = r) : srtI (G.map Prod.snd) = G.map Prod.snd := by
  have tr : ∀ a b c : Int, decide (a ≤ b) = true → decide (b ≤ c) = true → decide (a ≤ c) = true := fun a b c h1 h2 => by simp only [decide_eq_true_eq] at *; omega
  have tot : ∀ a b : Int, (decide (a ≤ b) || decide (b ≤ a)) = true := fun a b => by simp only [Bool.or_eq_true, decide_eq_true_eq]; omega
  refine List.Perm.eq_of_pairwise (le := fun a b : Int => decide (a ≤ b) = true) (fun a b _ _ h1 h2 => ?_) (List.pairwise_mergeSort tr tot _) ?_ (List.mergeSort_perm _ _)
  · simp only [decide_eq_true_eq] at h1 h2; omega
  · rw [List.pairwise_map]
    refine h.imp_of_mem fun {p q} hp hq hl => ?_
    have h1 := hr p hp
    have h2 := hr q hq
    unfold lt2 at hl
    simp only [decide_eq_true_eq]
    omega
theorem srt_parts {M : List En} {r : Int} (h : Srt M) (hr : ∀ p ∈ M, r ≤ p.1) : M = (M.filter fun p => p.1 == r) ++ M.filter fun p => p.1 != r := by
  have p1 : ((M.filter fun p => p.1 == r) ++ M.filter fun p => p.1 != r).Perm M := List.filter_append_perm (fun p : En => p.1 == r) M
  refine srt_eq h ?_ p1.symm
  refine List.pairwise_append.2 ⟨h.filter _, h.filter _, fun p hp q hq => ?_⟩
  obtain ⟨_, h2⟩ := List.mem_filter.1 hp
  obtain ⟨h3, h4⟩ := List.mem_filter.1 hq
  have := hr q h3
  simp at h2 h4
  unfold lt2
  omega
/-- WHO FIRES AT A TICK, and who is left. -/
theorem fire_parts {n r : Int} {S1 S2 : List Tm} {M : List En} (h : Set_ n S1 M) (hn : n < r) (hr : r ≤ 1099511627776) (ha : An S1 r 4 S2) (h4 : ∀ t ∈ S2, t.lv = 4 → r + 16777216 ≤ t.f) :
    ∃ G R, M = G ++ R ∧ (∀ p ∈ G, p.1 = r) ∧ (∀ p ∈ R, r < p.1) ∧ srtI ((S2.filter fun t => t.no == slotN 0 r).map Tm.id) = G.map Prod.snd ∧ Set_ r (S2.filter fun t => t.no != slotN 0 r) R ∧
      (delM (S1.map Tm.kv) (G.map Prod.snd)).Perm ((S2.filter fun t => t.no != slotN 0 r).map Tm.kv) := by
  have hat : ∀ t ∈ S2, (t.no = slotN 0 r ↔ t.f = r) ∧ r ≤ t.f := by
    intro t ht
    have hm := ha.mid t ht
    by_cases hl : t.lv = 0
    · obtain ⟨a1, a2⟩ := hm.1 hl
      refine ⟨⟨fun e => ?_, fun e => ?_⟩, a1⟩
      · unfold Tm.no at e
        rw [hl] at e
        have := slot_mod e
        simp only [wd, Int.ediv_one] at this
        omega
      · unfold Tm.no; rw [hl, e]
    · have hgt : r < t.f := by
        by_cases h4' : t.lv < 4
        · exact div_lt ((hm.2.1 (by omega) h4').2.2.2 h4')
        · have := h4 t ht (by have := hm.2.2.2; omega); omega
      exact ⟨⟨fun e => absurd (slot_lv e) hl, fun e => by omega⟩, by omega⟩
  have hperm : M.Perm (S2.map Tm.en) := by
    refine h.perm.trans ?_
    have := (ha.core.symm).map (fun x : Nat × Int × Int => ((x.2.2, x.2.1) : En))
    rwa [List.map_map, List.map_map] at this
  have hge : ∀ p ∈ M, r ≤ p.1 := fun p hp => by
    obtain ⟨t, ht, rfl⟩ := List.mem_map.1 (hperm.mem_iff.1 hp)
    exact (hat t ht).2
  have e1 := srt_parts h.srt hge
  have q1 : (M.filter fun p => p.1 == r).Perm ((S2.filter fun t => t.no == slotN 0 r).map Tm.en) := by
    have := hperm.filter (fun p => p.1 == r)
    rw [List.filter_map] at this
    rwa [show (S2.filter fun t => t.no == slotN 0 r) = S2.filter ((fun p : En => p.1 == r) ∘ Tm.en) from List.filter_congr fun t ht => by
      have := (hat t ht).1
      simp only [Function.comp_apply]
      rw [Bool.eq_iff_iff, beq_iff_eq, beq_iff_eq]; exact this]
  have q2 : (M.filter fun p => p.1 != r).Perm ((S2.filter fun t => t.no != slotN 0 r).map Tm.en) := by
    have := hperm.filter (fun p => p.1 != r)
    rw [List.filter_map] at this
    rwa [show (S2.filter fun t => t.no != slotN 0 r) = S2.filter ((fun p : En => p.1 != r) ∘ Tm.en) from List.filter_congr fun t ht => by
      have := (hat t ht).1
      simp only [Function.comp_apply]
      rw [Bool.eq_iff_iff, bne_iff_ne, bne_iff_ne]; exact not_congr this]
  have hG : ∀ p ∈ M.filter (fun p => p.1 == r), p.1 = r := fun p hp => by simpa using (List.mem_filter.1 hp).2
  have ids1 : srtI ((S2.filter fun t => t.no == slotN 0 r).map Tm.id) = (M.filter fun p => p.1 == r).map Prod.snd := by
    rw [← srt_group (h.srt.filter _) hG]
    refine merge_perm ?_
    have := (q1.map Prod.snd).symm
    rwa [List.map_map] at this
  have sub : ∀ t ∈ S2.filter (fun t => t.no != slotN 0 r), t ∈ S2 ∧ t.f ≠ r := fun t ht => by
    obtain ⟨a, c⟩ := List.mem_filter.1 ht
    refine ⟨a, fun e => ?_⟩
    have := (hat t a).1.2 e
    simp [this] at c
  have core : ∀ t ∈ S2, ∃ s ∈ S1, s.id = t.id ∧ s.f = t.f ∧ s.a = t.a := fun t ht => by
    obtain ⟨s, hs, e⟩ := List.mem_map.1 (ha.core.mem_iff.1 (List.mem_map.2 ⟨t, ht, rfl⟩))
    simp only [Tm.core, Prod.mk.injEq] at e
    exact ⟨s, hs, e.2.1, e.2.2, e.1⟩
  refine ⟨_, _, e1, hG, fun p hp => ?_, ids1, ⟨fun t ht => ?_, q2, h.srt.filter _, ?_, by have := h.n0; omega, hr, fun t ht => ?_, fun t ht => ?_⟩, ?_⟩
  · obtain ⟨a, c⟩ := List.mem_filter.1 hp
    have := hge p a
    simp at c
    omega
  · obtain ⟨a, c⟩ := sub t ht
    exact mid_end (ha.mid t a) (h4 t a) fun _ => c
  · exact (List.filter_sublist.map Tm.id).nodup ha.ids
  · obtain ⟨s, hs, e, _, _⟩ := core t (sub t ht).1
    rw [← e]; exact h.id0 s hs
  · obtain ⟨s, hs, _, e, _⟩ := core t (sub t ht).1
    rw [← e]; exact h.f1 s hs
  · have k1 : (S1.map Tm.kv).Perm (S2.map Tm.kv) := by
      have := (ha.core.symm).map (fun x : Nat × Int × Int => ((x.2.1, ptrV x.1) : Int × Value))
      rwa [List.map_map, List.map_map] at this
    have k2 := k1.filter (fun p => !((M.filter fun p => p.1 == r).map Prod.snd).contains p.1)
    refine k2.trans ?_
    rw [List.filter_map]
    rw [show (S2.filter fun t => t.no != slotN 0 r) = S2.filter ((fun p : Int × Value => !((M.filter fun p => p.1 == r).map Prod.snd).contains p.1) ∘ Tm.kv) from List.filter_congr fun t ht => ?_]
    have hm : t.id ∈ (M.filter fun p => p.1 == r).map Prod.snd ↔ t.no = slotN 0 r := by
      have h1 : t.id ∈ (M.filter fun p => p.1 == r).map Prod.snd ↔ t.id ∈ (S2.filter fun t => t.no == slotN 0 r).map Tm.id := by
        rw [← ids1]; exact (srtI_perm _).mem_iff
      rw [h1]
      constructor
      · intro hin
        obtain ⟨s, hs, e⟩ := List.mem_map.1 hin
        obtain ⟨a, c⟩ := List.mem_filter.1 hs
        have : s = t := by
          obtain ⟨i, hi, rfl⟩ := List.getElem_of_mem a
          obtain ⟨j, hj, rfl⟩ := List.getElem_of_mem ht
          have := (List.getElem?_inj (l := S2.map Tm.id) (by rw [List.length_map]; exact hi) ha.ids (j := j)).1 (by simp [hi, hj, e])
          subst this
          rfl
        rw [← this]; simpa using c
      · intro e
        exact List.mem_map.2 ⟨t, List.mem_filter.2 ⟨ht, by simp [e]⟩, rfl⟩
    simp only [Function.comp_apply]
    rw [Bool.eq_iff_iff, bne_iff_ne, Bool.not_eq_true', List.contains_eq_mem, decide_eq_false_iff_not]
    exact (not_congr hm).symm
end Go.Proofs.Ytmmghdnlppjgbaa
