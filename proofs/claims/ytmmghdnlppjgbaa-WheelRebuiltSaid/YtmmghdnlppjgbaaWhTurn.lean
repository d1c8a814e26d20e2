/-
  How what the wheels hold turns: a timer laid in a slot, behind the wheels, taken from there; a slot emptied.
-/
import Derived.Test.YtmmghdnlppjgbaaWhCore
namespace Go.Proofs.Ytmmghdnlppjgbaa
set_option maxRecDepth 100000
open Go.RowKit
section
variable {O : Nat → Prop} {b : Nat} {n : Int} {M : List (Int × Value)} {S P : List Tm} {mt : Nat} {sv : Nat → Option Nat} {v : Value} {L : List Hd} {w w' : World}
theorem WC.permS {S' : List Tm} (h : WC O b n M S P mt sv v L w) (hp : S'.Perm S) : WC O b n M S' P mt sv v L w :=
  ⟨h.hs, h.ord, h.perm.trans ((hp.symm.filter _).map _), h.mp, fun k m h1 h2 => (h.sl k m h1 h2).perm ((hp.symm.filter _).map _), fun k h1 h2 t ht => h.sn k h1 h2 t (hp.mem_iff.1 ht), h.inj, h.ne, fun t ht => h.tS t (hp.mem_iff.1 ht), h.tP, (((hp.append (List.Perm.refl P)).map Tm.a).nodup_iff).2 h.nd, fun t ht => h.lv4 t (hp.mem_iff.1 ht), h.om, h.os, fun t ht => h.ot t ((hp.append (List.Perm.refl P)).mem_iff.1 ht)⟩
theorem WC.cellsOf (h : WC O b n M S P mt sv v L w) {t : Tm} (ht : t ∈ S ++ P) : ∃ l p, TmB w t.a t.id t.f l p := by
  rcases List.mem_append.1 ht with ht | ht
  · obtain ⟨p, hp⟩ := h.tm ht; exact ⟨_, p, hp⟩
  · exact h.tP t ht
/-- Blocks of one kind are none of another. -/
theorem WC.kinds (h : WC O b n M S P mt sv v L w) : (∀ t ∈ S ++ P, t.a ≠ b) ∧ (v.ownBlock ≠ some b) ∧ (∀ t ∈ S ++ P, v.ownBlock ≠ some t.a) ∧ (∀ {m : Nat} {K : List (Int × Value)}, JAt w m K → m ≠ b ∧ v.ownBlock ≠ some m ∧ ∀ t ∈ S ++ P, t.a ≠ m) := by
  obtain ⟨cs, h0, _⟩ := h.hs.wb
  refine ⟨fun t ht e => ?_, own_kind h.hs.row h0 (by decide), fun t ht => ?_, fun hm => ⟨fun e => map_ne hm h0 e.symm, ?_, fun t ht e => ?_⟩⟩
  · obtain ⟨l, p, hp⟩ := h.cellsOf ht
    unfold TmB at hp
    rw [e, h0] at hp
    injection hp with hp
    injection hp with _ h2
    exact absurd h2 (by decide)
  · obtain ⟨l, p, hp⟩ := h.cellsOf ht
    exact own_kind h.hs.row hp (by decide)
  · obtain ⟨es, c, h2⟩ := hm.isMap
    exact own_map h.hs.row _ h2 (fun _ _ _ e => by cases e)
  · obtain ⟨l, p, hp⟩ := h.cellsOf ht
    exact map_ne hm hp e
theorem row_of {w w' : World} {m : Nat} {xs : List Value} {v : Value} (h : w.ownsRow 0 66 1 v m xs) (hk : ∀ g, v.ownBlock = some g → w'.heap[g]? = w.heap[g]?) : w'.ownsRow 0 66 1 v m xs := by
  refine ⟨h.1, ?_⟩
  rcases h.2 with h0 | ⟨g, cap, cur, hv, hB, hg, h1⟩
  · exact .inl h0
  · exact .inr ⟨g, cap, cur, hv, hB, (hk g (by rw [hv]; rfl)).trans hg, h1⟩
theorem nd_mid {t : Tm} (h : ((S ++ t :: P).map Tm.a).Nodup) : (∀ s ∈ S ++ P, s.a ≠ t.a) ∧ ((t :: S ++ P).map Tm.a).Nodup := by
  have p : (S ++ t :: P).Perm (t :: S ++ P) := List.perm_middle
  have h2 := ((p.map Tm.a).nodup_iff).1 h
  refine ⟨fun s hs e => ?_, h2⟩
  rw [List.cons_append, List.map_cons, List.nodup_cons] at h2
  exact h2.1 (List.mem_map.2 ⟨s, hs, e⟩)
theorem WC.laid_slot {t : Tm} {l k m : Nat} {p : Int} (h : WC O b n M S (t :: P) mt sv v L w) (hl : l < 4) (hk : k = slotN l t.f)
    (h0 : sv k = some m ∨ sv k = none ∧ w.heap.size ≤ m) (wb : WB w' b n mt (upS sv k (some m)) v) (jm : JAt w' m ((t.id, ptrV t.a) :: (S.filter fun s => s.no == k).map Tm.kv)) (tb : TmB w' t.a t.id t.f l p)
    (fr : ∀ j, j < w.heap.size → j ≠ b → j ≠ t.a → j ≠ m → w'.heap[j]? = w.heap[j]?) (sz : w.heap.size ≤ w'.heap.size) :
    WC (fun j => O j ∨ j = m) b n M (⟨t.a, t.id, t.f, l⟩ :: S) P mt (upS sv k (some m)) v L w' := by
  obtain ⟨kb, vb, vt, km⟩ := h.kinds
  have tm : t ∈ S ++ t :: P := by simp
  obtain ⟨ndt, nd2⟩ := nd_mid h.nd
  have hk4 : k < 256 := by have := slot_lt l t.f; omega
  -- m is none of the others
  have mnew : ∀ {i : Nat} {cs : Array Value} {ty : TypeId} {fz : Nat × Nat}, w.heap[i]? = some (.cells cs ty fz) → i ≠ m := fun hi => by
    rcases h0 with h0 | ⟨_, h0⟩
    · exact map_ne (h.sl k m hk4 h0) hi
    · have := ltOf hi; omega
  have vm : ∀ g, v.ownBlock = some g → g ≠ m := fun g hg e => by
    subst e
    rcases h0 with h0 | ⟨_, h0⟩
    · exact (km (h.sl k g hk4 h0)).2.1 hg
    · have := h.hs.olt g (h.hs.ov g hg); omega
  have maps : ∀ {i : Nat} {K : List (Int × Value)}, JAt w i K → i ≠ m → w'.heap[i]? = w.heap[i]? := fun hi hne => fr _ hi.lt (km hi).1 (fun e => (km hi).2.2 t tm e.symm) hne
  have tms : ∀ s ∈ S ++ P, ∀ {i f l p : Int}, TmB w s.a i f l p → TmB w' s.a i f l p := fun s hs i f l p hp => hp.of (fr _ (ltOf hp) (kb s (by rcases List.mem_append.1 hs with e | e <;> simp [e])) (ndt s hs) (mnew hp))
  have mmt : mt ≠ m := by
    rcases h0 with h0 | ⟨_, h0⟩
    · exact fun e => h.ne k hk4 (by rw [e]; exact h0)
    · have := h.mp.lt; omega
  have hL : ∀ x ∈ L, ∃ s ∈ S, s.a = x.a := fun x hx => by obtain ⟨s, hs, _, e⟩ := h.mem_L hx; exact ⟨s, hs, by rw [← e]⟩
  refine ⟨⟨wb, row_of h.hs.row fun g hg => fr g (h.hs.olt g (h.hs.ov g hg)) (fun e => vb (e ▸ hg)) (fun e => vt t tm (e ▸ hg)) (vm g hg), fun i x hx => ?_, h.hs.nd, .inl h.hs.ob, fun g hg => .inl (h.hs.ov g hg), fun x hx => .inl (h.hs.ol x hx), h.hs.few, fun j hj => ?_⟩, h.ord, ?_, h.mp.block (maps h.mp mmt), fun i m' hi hm' => ?_, fun i hi hn s hs => ?_, fun i i' m' hi hi' e1 e2 => ?_, fun i hi e => ?_, fun s hs hl' => ?_, fun s hs => ?_, nd2, fun s hs => ?_, .inl h.om, fun i m' hi e => ?_, fun s hs => ?_⟩
  · obtain ⟨s, hs, e⟩ := hL x (mem_at hx)
    have hx2 := h.hs.hd i x hx
    rw [← e] at hx2 ⊢
    exact tms s (List.mem_append_left _ hs) hx2
  · rcases hj with hj | rfl
    · exact Nat.lt_of_lt_of_le (h.lt j hj) sz
    · exact jm.lt
  · rw [List.filter_cons_of_neg (by simp; omega)]
    exact h.perm
  · by_cases e : i = k
    · subst e
      simp only [upS, if_pos] at hm'
      injection hm' with hm'
      subst hm'
      rw [List.filter_cons_of_pos (by simp [Tm.no, hk])]
      exact jm
    · simp only [upS, if_neg e] at hm'
      rw [List.filter_cons_of_neg (by simp [Tm.no, ← hk]; exact fun e2 => e e2.symm)]
      refine (h.sl i m' hi hm').block (maps (h.sl i m' hi hm') ?_)
      rintro rfl
      rcases h0 with h0 | ⟨_, h0⟩
      · exact e (h.inj i k m' hi hk4 hm' h0)
      · have := (h.sl i m' hi hm').lt; omega
  · by_cases e : i = k
    · subst e; simp [upS] at hn
    · simp only [upS, if_neg e] at hn
      rcases List.mem_cons.1 hs with rfl | hs
      · simp only [Tm.no, ← hk]; exact fun e2 => e e2.symm
      · exact h.sn i hi hn s hs
  · have key : ∀ {i m' : Nat}, i < 256 → sv i = some m' → m' = m → sv k = some m := fun hi e e3 => by
      rcases h0 with h0 | ⟨_, h0⟩
      · exact h0
      · have := (h.sl _ _ hi e).lt; omega
    by_cases c1 : i = k
    · by_cases c2 : i' = k
      · omega
      · simp only [upS, if_pos c1] at e1
        simp only [upS, if_neg c2] at e2
        injection e1 with e1
        have := key hi' e2 e1.symm
        exact absurd (h.inj i' k m' hi' hk4 e2 (by rw [this, e1])) c2
    · by_cases c2 : i' = k
      · simp only [upS, if_neg c1] at e1
        simp only [upS, if_pos c2] at e2
        injection e2 with e2
        have := key hi e1 e2.symm
        exact absurd (h.inj i k m' hi hk4 e1 (by rw [this, e2])) c1
      · simp only [upS, if_neg c1] at e1
        simp only [upS, if_neg c2] at e2
        exact h.inj i i' m' hi hi' e1 e2
  · by_cases c : i = k
    · simp only [upS, if_pos c] at e
      injection e with e
      exact mmt e.symm
    · simp only [upS, if_neg c] at e
      exact h.ne i hi e
  · rcases List.mem_cons.1 hs with rfl | hs
    · exact ⟨p, tb⟩
    · obtain ⟨q, hq⟩ := h.tS s hs hl'
      exact ⟨q, tms s (List.mem_append_left _ hs) hq⟩
  · obtain ⟨l', q, hq⟩ := h.tP s (List.mem_cons_of_mem _ hs)
    exact ⟨l', q, tms s (List.mem_append_right _ hs) hq⟩
  · rcases List.mem_cons.1 hs with rfl | hs
    · show l ≤ 4; omega
    · exact h.lv4 s hs
  · by_cases c : i = k
    · simp only [upS, if_pos c] at e
      injection e with e
      exact .inr e.symm
    · simp only [upS, if_neg c] at e
      exact .inl (h.os i m' hi e)
  · rw [List.cons_append] at hs
    rcases List.mem_cons.1 hs with rfl | hs
    · exact .inl (h.ot t tm)
    · exact .inl (h.ot s (by rcases List.mem_append.1 hs with e | e <;> simp [e]))
end
end Go.Proofs.Ytmmghdnlppjgbaa
