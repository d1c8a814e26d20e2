/-
  How what the wheels hold turns, further: timers taken from a slot, or from behind the wheels; the map of all; new timers.
-/
import Derived.Test.YtmmghdnlppjgbaaWhTurn
namespace Go.Proofs.Ytmmghdnlppjgbaa
set_option maxRecDepth 100000
open Go.RowKit
section
variable {O : Nat → Prop} {b : Nat} {n : Int} {M : List (Int × Value)} {S P : List Tm} {mt : Nat} {sv : Nat → Option Nat} {v : Value} {L : List Hd} {w w' : World}
theorem nd_out {t : Tm} (h : ((t :: S ++ P).map Tm.a).Nodup) : (∀ s ∈ S ++ P, s.a ≠ t.a) ∧ ((S ++ t :: P).map Tm.a).Nodup := by
  have p : (S ++ t :: P).Perm (t :: S ++ P) := List.perm_middle
  have h2 := ((p.map Tm.a).nodup_iff).2 h
  exact ⟨(nd_mid h2).1, h2⟩
theorem mem_mid {α : Type} {s t : α} {S P : List α} : s ∈ S ++ t :: P ↔ s ∈ t :: S ++ P := (List.perm_middle (a := t) (l₁ := S) (l₂ := P)).mem_iff
/-- A timer taken off its slot's map. -/
theorem WC.off_slot {t : Tm} {k m : Nat} (h : WC O b n M (t :: S) P mt sv v L w) (hl : t.lv < 4) (hk : k = t.no) (h0 : sv k = some m)
    (jm : JAt w' m ((S.filter fun s => s.no == k).map Tm.kv)) (fr : w.mapTurned w' m) : WC O b n M S (t :: P) mt sv v L w' := by
  obtain ⟨kb, vb, vt, km⟩ := h.kinds
  obtain ⟨ndt, nd2⟩ := nd_out h.nd
  have hk4 : k < 256 := by have := slot_lt t.lv t.f; unfold Tm.no at hk; omega
  have g := fr.grown
  have sm := h.sl k m hk4 h0
  have same : ∀ j, j < w.heap.size → j ≠ m → w'.heap[j]? = w.heap[j]? := fun j hj hne => g.block j hj (fun e => hne (by injection e))
  have mne : ∀ {i : Nat} {cs : Array Value} {ty : TypeId} {fz : Nat × Nat}, w.heap[i]? = some (.cells cs ty fz) → w'.heap[i]? = w.heap[i]? := fun hi => same _ (ltOf hi) (map_ne sm hi)
  have tms : ∀ {a : Nat} {i f l p : Int}, TmB w a i f l p → TmB w' a i f l p := fun hp => hp.of (mne hp)
  have wb : WB w' b n mt sv v := by
    have := h.hs.wb
    obtain ⟨cs, hb, _⟩ := this
    exact h.hs.wb.of (mne hb)
  refine ⟨⟨wb, row_of h.hs.row fun i hi => same i (h.hs.olt i (h.hs.ov i hi)) (fun e => (km sm).2.1 (e ▸ hi)), fun i x hx => tms (h.hs.hd i x hx), h.hs.nd, h.hs.ob, h.hs.ov, h.hs.ol, h.hs.few, fun j hj => Nat.lt_of_lt_of_le (h.lt j hj) g.size⟩, h.ord, ?_, h.mp.block (same mt h.mp.lt (fun e => h.ne k hk4 (by rw [e]; exact h0))), fun i m' hi hm' => ?_, fun i hi hn s hs => h.sn i hi hn s (List.mem_cons_of_mem _ hs), h.inj, h.ne, fun s hs hl' => ?_, fun s hs => ?_, nd2, fun s hs => h.lv4 s (List.mem_cons_of_mem _ hs), h.om, h.os, fun s hs => h.ot s (mem_mid.1 hs)⟩
  · have := h.perm
    rwa [List.filter_cons_of_neg (by simp; omega)] at this
  · by_cases e : i = k
    · subst e
      rw [h0] at hm'
      injection hm' with hm'
      subst hm'
      exact jm
    · have := h.sl i m' hi hm'
      rw [List.filter_cons_of_neg (by simp; rw [← hk]; exact fun e2 => e e2.symm)] at this
      exact this.block (same m' this.lt (fun e2 => e (h.inj i k m' hi hk4 hm' (by rw [e2]; exact h0))))
  · obtain ⟨p, hp⟩ := h.tS s (List.mem_cons_of_mem _ hs) hl'
    exact ⟨p, tms hp⟩
  · rcases List.mem_cons.1 hs with rfl | hs
    · obtain ⟨p, hp⟩ := h.tS s (List.mem_cons_self) hl
      exact ⟨_, p, tms hp⟩
    · obtain ⟨l', q, hq⟩ := h.tP s hs
      exact ⟨l', q, tms hq⟩
/-- A slot let go: its timers are to be laid. -/
theorem WC.clear_slot {k : Nat} (h : WC O b n M S P mt sv v L w) (hk4 : k < 256) :
    WC O b n M (S.filter fun s => s.no != k) ((S.filter fun s => s.no == k) ++ P) mt (upS sv k none) v L (w.setCell ⟨b, 2 + k, none⟩ (.map none)) := by
  obtain ⟨kb, vb, vt, km⟩ := h.kinds
  have same : ∀ j, j ≠ b → (w.setCell ⟨b, 2 + k, none⟩ (.map none)).heap[j]? = w.heap[j]? := fun j hne => set_far hne _ _
  have pp : ((S.filter fun s => s.no != k) ++ ((S.filter fun s => s.no == k) ++ P)).Perm (S ++ P) := by
    rw [← List.append_assoc]
    refine List.Perm.append_right P ?_
    have : (S.filter fun s => s.no != k) = S.filter fun s => !(s.no == k) := rfl
    rw [this]
    exact (List.perm_append_comm).trans (List.filter_append_perm (fun s => s.no == k) S)
  have tms : ∀ s ∈ S ++ P, ∀ {i f l p : Int}, TmB w s.a i f l p → TmB (w.setCell ⟨b, 2 + k, none⟩ (.map none)) s.a i f l p := fun s hs i f l p hp => hp.of (same _ (kb s hs))
  refine ⟨⟨h.hs.wb.setSlot hk4 none, row_of h.hs.row fun i hi => same i (fun e => vb (e ▸ hi)), fun i x hx => ?_, h.hs.nd, h.hs.ob, h.hs.ov, h.hs.ol, h.hs.few, fun j hj => by rw [World.size_setCell]; exact h.lt j hj⟩, h.ord, ?_, h.mp.block (same mt (km h.mp).1), fun i m' hi hm' => ?_, fun i hi hn s hs => ?_, fun i i' m' hi hi' e1 e2 => ?_, fun i hi e => ?_, fun s hs hl' => ?_, fun s hs => ?_, ((pp.map Tm.a).nodup_iff).2 h.nd, fun s hs => h.lv4 s (List.mem_filter.1 hs).1, h.om, fun i m' hi e => ?_, fun s hs => h.ot s (pp.mem_iff.1 hs)⟩
  · obtain ⟨s, hs, _, e⟩ := h.mem_L (mem_at hx)
    have := h.hs.hd i x hx
    rw [← e] at this ⊢
    exact tms s (List.mem_append_left _ hs) this
  · have e : (S.filter fun s => s.no != k).filter (fun t => t.lv == 4) = S.filter fun t => t.lv == 4 := by
      rw [List.filter_filter]
      refine List.filter_congr fun s hs => ?_
      by_cases h4 : s.lv = 4
      · have : s.no ≠ k := by unfold Tm.no; have := slot_lt s.lv s.f; omega
        simp [h4, this]
      · simp [h4]
    rw [e]
    exact h.perm
  · unfold upS at hm'
    by_cases e : i = k
    · rw [if_pos e] at hm'; cases hm'
    · rw [if_neg e] at hm'
      have e2 : (S.filter fun s => s.no != k).filter (fun t => t.no == i) = S.filter fun t => t.no == i := by
        rw [List.filter_filter]
        refine List.filter_congr fun s _ => ?_
        by_cases h4 : s.no = i
        · simp [h4, e]
        · simp [h4]
      rw [e2]
      exact (h.sl i m' hi hm').block (same m' (km (h.sl i m' hi hm')).1)
  · obtain ⟨h1, h2⟩ := List.mem_filter.1 hs
    unfold upS at hn
    by_cases e : i = k
    · simp at h2; rw [e]; exact h2
    · rw [if_neg e] at hn
      exact h.sn i hi hn s h1
  · unfold upS at e1 e2
    by_cases c1 : i = k
    · rw [if_pos c1] at e1; cases e1
    · by_cases c2 : i' = k
      · rw [if_pos c2] at e2; cases e2
      · rw [if_neg c1] at e1
        rw [if_neg c2] at e2
        exact h.inj i i' m' hi hi' e1 e2
  · unfold upS at e
    by_cases c : i = k
    · rw [if_pos c] at e; cases e
    · rw [if_neg c] at e; exact h.ne i hi e
  · have h1 := (List.mem_filter.1 hs).1
    obtain ⟨p, hp⟩ := h.tS s h1 hl'
    exact ⟨p, tms s (List.mem_append_left _ h1) hp⟩
  · rcases List.mem_append.1 hs with hs | hs
    · have h1 := (List.mem_filter.1 hs).1
      obtain ⟨p, hp⟩ := h.tm h1
      exact ⟨_, p, tms s (List.mem_append_left _ h1) hp⟩
    · obtain ⟨l', q, hq⟩ := h.tP s hs
      exact ⟨l', q, tms s (List.mem_append_right _ hs) hq⟩
  · unfold upS at e
    by_cases c : i = k
    · rw [if_pos c] at e; cases e
    · rw [if_neg c] at e; exact h.os i m' hi e
/-- The map of all turned. -/
theorem WC.setM {M' : List (Int × Value)} (h : WC O b n M S P mt sv v L w) (jm : JAt w' mt M') (fr : w.mapTurned w' mt) : WC O b n M' S P mt sv v L w' := by
  obtain ⟨kb, vb, vt, km⟩ := h.kinds
  have g := fr.grown
  have same : ∀ j, j < w.heap.size → j ≠ mt → w'.heap[j]? = w.heap[j]? := fun j hj hne => g.block j hj (fun e => hne (by injection e))
  have mne : ∀ {i : Nat} {cs : Array Value} {ty : TypeId} {fz : Nat × Nat}, w.heap[i]? = some (.cells cs ty fz) → w'.heap[i]? = w.heap[i]? := fun hi => same _ (ltOf hi) (map_ne h.mp hi)
  have tms : ∀ {a : Nat} {i f l p : Int}, TmB w a i f l p → TmB w' a i f l p := fun hp => hp.of (mne hp)
  have wb : WB w' b n mt sv v := by
    have := h.hs.wb
    obtain ⟨cs, hb, _⟩ := this
    exact h.hs.wb.of (mne hb)
  refine ⟨⟨wb, row_of h.hs.row fun i hi => same i (h.hs.olt i (h.hs.ov i hi)) (fun e => (km h.mp).2.1 (e ▸ hi)), fun i x hx => tms (h.hs.hd i x hx), h.hs.nd, h.hs.ob, h.hs.ov, h.hs.ol, h.hs.few, fun j hj => Nat.lt_of_lt_of_le (h.lt j hj) g.size⟩, h.ord, h.perm, jm, fun i m' hi hm' => (h.sl i m' hi hm').block (same m' (h.sl i m' hi hm').lt (fun e => h.ne i hi (by rw [hm', e]))), h.sn, h.inj, h.ne, fun s hs hl' => ?_, fun s hs => ?_, h.nd, h.lv4, h.om, h.os, h.ot⟩
  · obtain ⟨p, hp⟩ := h.tS s hs hl'
    exact ⟨p, tms hp⟩
  · obtain ⟨l', q, hq⟩ := h.tP s hs
    exact ⟨l', q, tms hq⟩
/-- A timer that is to be laid no more. -/
theorem WC.dropP {t : Tm} (h : WC O b n M S (t :: P) mt sv v L w) : WC O b n M S P mt sv v L w :=
  ⟨h.hs, h.ord, h.perm, h.mp, h.sl, h.sn, h.inj, h.ne, h.tS, fun s hs => h.tP s (List.mem_cons_of_mem _ hs), ((List.sublist_cons_self t P).append_left S |>.map Tm.a).nodup h.nd, h.lv4, h.om, h.os, fun s hs => h.ot s (by rcases List.mem_append.1 hs with e | e <;> simp [e])⟩
/-- A new timer. -/
theorem WC.newP (h : WC O b n M S P mt sv v L w) (id f : Int) : WC (fun j => O j ∨ j = w.heap.size) b n M S (⟨w.heap.size, id, f, 0⟩ :: P) mt sv v L (w.alloc (.cells (tmC id f 0 0) 68)) := by
  have h1 := h.below (w' := w.alloc (.cells (tmC id f 0 0) 68)) ((Below.refl _ w).alloc (Nat.le_refl _) _)
  have hn : ∀ s ∈ S ++ P, s.a ≠ w.heap.size := fun s hs e => by have := h.lt s.a (h.ot s hs); omega
  refine ⟨⟨h1.hs.wb, h1.hs.row, h1.hs.hd, h1.hs.nd, .inl h1.hs.ob, fun g hg => .inl (h1.hs.ov g hg), fun x hx => .inl (h1.hs.ol x hx), h1.hs.few, fun j hj => ?_⟩, h1.ord, h1.perm, h1.mp, h1.sl, h1.sn, h1.inj, h1.ne, h1.tS, fun s hs => ?_, ?_, h1.lv4, .inl h1.om, fun k m hk e => .inl (h1.os k m hk e), fun s hs => ?_⟩
  · rcases hj with hj | rfl
    · exact h1.lt j hj
    · simp
  · rcases List.mem_cons.1 hs with rfl | hs
    · exact ⟨0, 0, newOf w _⟩
    · exact h1.tP s hs
  · have p : (S ++ ⟨w.heap.size, id, f, 0⟩ :: P).Perm (⟨w.heap.size, id, f, 0⟩ :: (S ++ P)) := List.perm_middle
    refine ((p.map Tm.a).nodup_iff).2 ?_
    rw [List.map_cons, List.nodup_cons]
    refine ⟨fun hm => ?_, h.nd⟩
    obtain ⟨s, hs, e⟩ := List.mem_map.1 hm
    exact hn s hs e
  · rcases List.mem_cons.1 (mem_mid.1 hs) with rfl | hs
    · exact .inr rfl
    · exact .inl (h.ot s hs)
end
end Go.Proofs.Ytmmghdnlppjgbaa
