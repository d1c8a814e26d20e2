/-
  How what the wheels hold turns: timers laid behind the wheels, and taken from there.
-/
import Derived.Test.YtmmghdnlppjgbaaWhTurn2
namespace Go.Proofs.Ytmmghdnlppjgbaa
set_option maxRecDepth 100000
open Go.RowKit
/-- What a turn of the row behind the wheels reaches. -/
def OHp (b : Nat) (v : Value) (L : List Hd) (a : Nat) : Nat → Prop := fun k => k = b ∨ v.ownBlock = some k ∨ (∃ x ∈ L, x.a = k) ∨ k = a
section
variable {O : Nat → Prop} {b : Nat} {n : Int} {M : List (Int × Value)} {S P : List Tm} {mt : Nat} {sv : Nat → Option Nat} {v : Value} {L : List Hd} {w w' : World}
theorem WC.hsp (h : WC O b n M S P mt sv v L w) {a : Nat} (ha : O a) : HS (OHp b v L a) b n mt sv v L w :=
  ⟨h.hs.wb, h.hs.row, h.hs.hd, h.hs.nd, .inl rfl, fun g hg => .inr (.inl hg), fun x hx => .inr (.inr (.inl ⟨x, hx, rfl⟩)), h.hs.few, fun k hk => by
    rcases hk with rfl | hk | ⟨x, hx, rfl⟩ | rfl
    · exact h.lt _ h.hs.ob
    · exact h.lt _ (h.hs.ov k hk)
    · exact h.lt _ (h.hs.ol x hx)
    · exact h.lt _ ha⟩
theorem WC.ohp (h : WC O b n M S P mt sv v L w) {a : Nat} (ha : O a) : ∀ k, OHp b v L a k → O k := fun k hk => by
  rcases hk with rfl | hk | ⟨x, hx, rfl⟩ | rfl
  · exact h.hs.ob
  · exact h.hs.ov k hk
  · exact h.hs.ol x hx
  · exact ha
theorem nd_same {A : List Tm} (h : (A.map Tm.a).Nodup) {s t : Tm} (hs : s ∈ A) (ht : t ∈ A) (e : s.a = t.a) : s = t := by
  obtain ⟨i, hi, rfl⟩ := List.getElem_of_mem hs
  obtain ⟨j, hj, rfl⟩ := List.getElem_of_mem ht
  have := (List.getElem?_inj (l := A.map Tm.a) (by rw [List.length_map]; exact hi) h (j := j)).1 (by simp [hi, hj, e])
  subst this
  rfl
/-- The maps, and the timers that stand in slots, or are to be laid, stay. -/
theorem WC.stays (h : WC O b n M S P mt sv v L w) {t : Tm} (ht : t ∈ S ++ P) (fr : Fr (OHp b v L t.a) w w') : (∀ {m : Nat} {K : List (Int × Value)}, JAt w m K → JAt w' m K) ∧ (∀ s ∈ S ++ P, s.a ≠ t.a → (s ∈ S → s.lv < 4) → ∀ {i f l p : Int}, TmB w s.a i f l p → TmB w' s.a i f l p) := by
  obtain ⟨kb, vb, vt, km⟩ := h.kinds
  refine ⟨fun hm => hm.block (fr.block _ hm.lt ?_), fun s hs hne hl i f l p hp => hp.of (fr.block _ (ltOf hp) ?_)⟩
  · rintro (e | e | ⟨x, hx, e⟩ | e)
    · exact (km hm).1 e
    · exact (km hm).2.1 e
    · obtain ⟨s, hs, _, e2⟩ := h.mem_L hx
      exact (km hm).2.2 s (List.mem_append_left _ hs) (by rw [← e, ← e2])
    · exact (km hm).2.2 t ht e.symm
  · rintro (e | e | ⟨x, hx, e⟩ | e)
    · exact kb s hs e
    · exact vt s hs e
    · obtain ⟨s', hs', h4, e2⟩ := h.mem_L hx
      have e3 : s' = s := nd_same h.nd (List.mem_append_left _ hs') hs (by rw [← e, ← e2])
      subst e3
      have := hl hs'
      omega
    · exact hne e
theorem WC.setLevelP {t : Tm} (h : WC O b n M S (t :: P) mt sv v L w) (l : Int) : WC O b n M S (t :: P) mt sv v L (w.setCell ⟨t.a, 2, none⟩ (.int .i64 l)) := by
  obtain ⟨kb, vb, vt, km⟩ := h.kinds
  have tm : t ∈ S ++ t :: P := by simp
  obtain ⟨ndt, _⟩ := nd_mid h.nd
  have same : ∀ j, j ≠ t.a → (w.setCell ⟨t.a, 2, none⟩ (.int .i64 l)).heap[j]? = w.heap[j]? := fun j hne => set_far hne _ _
  have tms : ∀ s ∈ S ++ P, ∀ {i f l' p : Int}, TmB w s.a i f l' p → TmB (w.setCell ⟨t.a, 2, none⟩ (.int .i64 l)) s.a i f l' p := fun s hs i f l' p hp => hp.of (same _ (ndt s hs))
  refine ⟨⟨h.hs.wb.of (same _ (kb t tm).symm), row_of h.hs.row fun i hi => same i (fun e => vt t tm (e ▸ hi)), fun i x hx => ?_, h.hs.nd, h.hs.ob, h.hs.ov, h.hs.ol, h.hs.few, fun j hj => by rw [World.size_setCell]; exact h.lt j hj⟩, h.ord, h.perm, h.mp.block (same mt ((km h.mp).2.2 t tm).symm), fun i m' hi hm' => (h.sl i m' hi hm').block (same m' ((km (h.sl i m' hi hm')).2.2 t tm).symm), h.sn, h.inj, h.ne, fun s hs hl' => ?_, fun s hs => ?_, h.nd, h.lv4, h.om, h.os, h.ot⟩
  · obtain ⟨s, hs, _, e⟩ := h.mem_L (mem_at hx)
    have := h.hs.hd i x hx
    rw [← e] at this ⊢
    exact tms s (List.mem_append_left _ hs) this
  · obtain ⟨p, hp⟩ := h.tS s hs hl'
    exact ⟨p, tms s (List.mem_append_left _ hs) hp⟩
  · rcases List.mem_cons.1 hs with rfl | hs
    · obtain ⟨l', p, hp⟩ := h.tP s (by simp)
      exact ⟨l, p, hp.setLevel l⟩
    · obtain ⟨l', q, hq⟩ := h.tP s (List.mem_cons_of_mem _ hs)
      exact ⟨l', q, tms s (List.mem_append_right _ hs) hq⟩
theorem HS.more {O' : Nat → Prop} (h : HS O b n mt sv v L w) (ho : ∀ k, O k → O' k) (hl : ∀ k, O' k → k < w.heap.size) : HS O' b n mt sv v L w :=
  ⟨h.wb, h.row, h.hd, h.nd, ho _ h.ob, fun g hg => ho _ (h.ov g hg), fun x hx => ho _ (h.ol x hx), h.few, hl⟩
theorem WC.far_laid {t : Tm} {O2 : Nat → Prop} {v' : Value} {L' : List Hd} (h : WC O b n M S (t :: P) mt sv v L w) (hs : HS O2 b n mt sv v' L' w') (fr : Fr (OHp b v L t.a) w w') (hp : L'.Perm (t.hd :: L)) (ho : HOrd L'.length (keyL L')) :
    WC (fun j => O j ∨ O2 j) b n M (⟨t.a, t.id, t.f, 4⟩ :: S) P mt sv v' L' w' := by
  have tm : t ∈ S ++ t :: P := by simp
  obtain ⟨ndt, nd2⟩ := nd_mid h.nd
  obtain ⟨s1, s2⟩ := h.stays tm fr
  refine ⟨hs.more (fun k hk => .inr hk) (fun k hk => ?_), ho, ?_, s1 h.mp, fun i m' hi hm' => ?_, fun i hi hn s hs => ?_, h.inj, h.ne, fun s hs hl' => ?_, fun s hs => ?_, nd2, fun s hs => ?_, .inl h.om, fun i m' hi e => .inl (h.os i m' hi e), fun s hs => ?_⟩
  · rcases hk with hk | hk
    · exact Nat.lt_of_lt_of_le (h.lt k hk) fr.size
    · exact hs.olt k hk
  · rw [List.filter_cons_of_pos (by simp)]
    exact hp.trans (List.Perm.cons _ h.perm)
  · rw [List.filter_cons_of_neg (by simp [Tm.no]; have := slot_lt 4 t.f; omega)]
    exact s1 (h.sl i m' hi hm')
  · rcases List.mem_cons.1 hs with rfl | hs
    · simp only [Tm.no]; have := slot_lt 4 t.f; omega
    · exact h.sn i hi hn s hs
  · rcases List.mem_cons.1 hs with rfl | hs
    · simp at hl'
    · obtain ⟨q, hq⟩ := h.tS s hs hl'
      exact ⟨q, s2 s (List.mem_append_left _ hs) (ndt s (List.mem_append_left _ hs)) (fun _ => hl') hq⟩
  · obtain ⟨l', q, hq⟩ := h.tP s (List.mem_cons_of_mem _ hs)
    refine ⟨l', q, s2 s (by simp [hs]) (ndt s (List.mem_append_right _ hs)) (fun hS => ?_) hq⟩
    exfalso
    have := nd2
    rw [List.cons_append, List.map_cons, List.nodup_cons, List.map_append] at this
    exact (List.nodup_append.1 this.2).2.2 s.a (List.mem_map.2 ⟨s, hS, rfl⟩) s.a (List.mem_map.2 ⟨s, hs, rfl⟩) rfl
  · rcases List.mem_cons.1 hs with rfl | hs
    · exact Nat.le_refl _
    · exact h.lv4 s hs
  · rw [List.cons_append] at hs
    rcases List.mem_cons.1 hs with rfl | hs
    · exact .inl (h.ot t tm)
    · exact .inl (h.ot s (by rcases List.mem_append.1 hs with e | e <;> simp [e]))
theorem WC.far_off {t : Tm} {v' : Value} {L' : List Hd} {p : Int} (h : WC O b n M (t :: S) P mt sv v L w) (hl : t.lv = 4) (hs : HS (OHp b v L t.a) b n mt sv v' L' w') (fr : Fr (OHp b v L t.a) w w') (hp : (t.hd :: L').Perm L) (ho : HOrd L'.length (keyL L')) (tb : TmB w' t.a t.id t.f 4 p) :
    WC O b n M S (t :: P) mt sv v' L' w' := by
  have tm : t ∈ t :: S ++ P := by simp
  obtain ⟨ndt, nd2⟩ := nd_out h.nd
  obtain ⟨s1, s2⟩ := h.stays tm fr
  refine ⟨hs.more (h.ohp (h.ot t tm)) (fun k hk => Nat.lt_of_lt_of_le (h.lt k hk) fr.size), ho, ?_, s1 h.mp, fun i m' hi hm' => ?_, fun i hi hn s hs => h.sn i hi hn s (List.mem_cons_of_mem _ hs), h.inj, h.ne, fun s hs hl' => ?_, fun s hs => ?_, nd2, fun s hs => h.lv4 s (List.mem_cons_of_mem _ hs), h.om, h.os, fun s hs => h.ot s (mem_mid.1 hs)⟩
  · have e := h.perm
    rw [List.filter_cons_of_pos (by simp [hl]), List.map_cons] at e
    exact (List.perm_cons t.hd).1 (hp.trans e)
  · have := h.sl i m' hi hm'
    rw [List.filter_cons_of_neg (by simp [Tm.no, hl]; have := slot_lt 4 t.f; omega)] at this
    exact s1 this
  · obtain ⟨q, hq⟩ := h.tS s (List.mem_cons_of_mem _ hs) hl'
    exact ⟨q, s2 s (by simp [hs]) (ndt s (List.mem_append_left _ hs)) (fun _ => hl') hq⟩
  · rcases List.mem_cons.1 hs with rfl | hs
    · exact ⟨4, p, tb⟩
    · obtain ⟨l', q, hq⟩ := h.tP s hs
      refine ⟨l', q, s2 s (by simp [hs]) (ndt s (List.mem_append_right _ hs)) (fun hS => ?_) hq⟩
      exfalso
      have := h.nd
      rw [List.map_append] at this
      exact (List.nodup_append.1 this).2.2 s.a (List.mem_map.2 ⟨s, hS, rfl⟩) s.a (List.mem_map.2 ⟨s, hs, rfl⟩) rfl
end
end Go.Proofs.Ytmmghdnlppjgbaa
