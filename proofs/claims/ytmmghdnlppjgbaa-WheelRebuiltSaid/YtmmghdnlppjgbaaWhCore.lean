/-
  THE WHEELS AS A WHOLE: what they hold, and how that stays while one part of it turns.
-/
import Derived.Test.YtmmghdnlppjgbaaWhPop
import Derived.Test.YtmmghdnlppjgbaaWhSlot
namespace Go.Proofs.Ytmmghdnlppjgbaa
set_option maxRecDepth 100000
open Go.RowKit
abbrev Tm.kv (t : Tm) : Int × Value := (t.id, ptrV t.a)
abbrev Tm.hd (t : Tm) : Hd := ⟨t.a, t.id, t.f⟩
/-- S: who is laid; P: who is to be laid; M: what the map of all holds. -/
structure WC (O : Nat → Prop) (b : Nat) (n : Int) (M : List (Int × Value)) (S P : List Tm) (mt : Nat) (sv : Nat → Option Nat) (v : Value) (L : List Hd) (w : World) : Prop where
  hs : HS O b n mt sv v L w
  ord : HOrd L.length (keyL L)
  perm : L.Perm ((S.filter fun t => t.lv == 4).map Tm.hd)
  mp : JAt w mt M
  sl : ∀ k m, k < 256 → sv k = some m → JAt w m ((S.filter fun t => t.no == k).map Tm.kv)
  sn : ∀ k, k < 256 → sv k = none → ∀ t ∈ S, t.no ≠ k
  inj : ∀ k k' m, k < 256 → k' < 256 → sv k = some m → sv k' = some m → k = k'
  ne : ∀ k, k < 256 → sv k ≠ some mt
  tS : ∀ t ∈ S, t.lv < 4 → ∃ p, TmB w t.a t.id t.f t.lv p
  tP : ∀ t ∈ P, ∃ l p, TmB w t.a t.id t.f l p
  nd : ((S ++ P).map Tm.a).Nodup
  lv4 : ∀ t ∈ S, t.lv ≤ 4
  om : O mt
  os : ∀ k m, k < 256 → sv k = some m → O m
  ot : ∀ t ∈ S ++ P, O t.a
theorem map_ne {w : World} {i m : Nat} {K : List (Int × Value)} {cs : Array Value} {t : TypeId} {fz : Nat × Nat} (hm : JAt w m K) (h : w.heap[i]? = some (.cells cs t fz)) : i ≠ m := by
  rintro rfl
  obtain ⟨es, c, h2⟩ := hm.isMap
  rw [h] at h2
  cases h2
section
variable {O : Nat → Prop} {b : Nat} {n : Int} {M : List (Int × Value)} {S P : List Tm} {mt : Nat} {sv : Nat → Option Nat} {v : Value} {L : List Hd} {w : World}
theorem WC.lt (h : WC O b n M S P mt sv v L w) : ∀ k, O k → k < w.heap.size := h.hs.olt
theorem WC.far4 (h : WC O b n M S P mt sv v L w) {t : Tm} (ht : t ∈ S) (hl : t.lv = 4) : ∃ p, TmB w t.a t.id t.f 4 p := by
  have : t.hd ∈ L := h.perm.mem_iff.2 (List.mem_map.2 ⟨t, List.mem_filter.2 ⟨ht, by simp [hl]⟩, rfl⟩)
  obtain ⟨k, hk, e⟩ := List.getElem_of_mem this
  have h2 := h.hs.hd k _ (List.getElem?_eq_getElem hk)
  rw [e] at h2
  exact ⟨_, h2⟩
/-- Every timer's block. -/
theorem WC.tm (h : WC O b n M S P mt sv v L w) {t : Tm} (ht : t ∈ S) : ∃ p, TmB w t.a t.id t.f t.lv p := by
  by_cases hl : t.lv < 4
  · exact h.tS t ht hl
  · have hl : t.lv = 4 := by have := h.lv4 t ht; omega
    obtain ⟨p, hp⟩ := h.far4 ht hl
    exact ⟨p, by rw [hl]; exact hp⟩
theorem WC.mem_L (h : WC O b n M S P mt sv v L w) {x : Hd} (hx : x ∈ L) : ∃ t ∈ S, t.lv = 4 ∧ t.hd = x := by
  obtain ⟨t, ht, e⟩ := List.mem_map.1 (h.perm.mem_iff.1 hx)
  obtain ⟨h1, h2⟩ := List.mem_filter.1 ht
  exact ⟨t, h1, by simpa using h2, e⟩
/-- Nothing of it has turned. -/
theorem WC.other {w' : World} (h : WC O b n M S P mt sv v L w) (hsz : w.heap.size ≤ w'.heap.size) (hk : ∀ k, O k → w'.heap[k]? = w.heap[k]?) : WC O b n M S P mt sv v L w' := by
  have hrow : w'.ownsRow 0 66 1 v L.length (L.map Hd.ptr) := by
    refine ⟨h.hs.row.1, ?_⟩
    rcases h.hs.row.2 with h0 | ⟨g, cap, cur, hv, hB, hg, h1⟩
    · exact .inl h0
    · exact .inr ⟨g, cap, cur, hv, hB, (hk g (h.hs.ov g (by rw [hv]; rfl))).trans hg, h1⟩
  refine ⟨⟨h.hs.wb.of (hk b h.hs.ob), hrow, fun k x hx => (h.hs.hd k x hx).of (hk _ (h.hs.ol x (mem_at hx))), h.hs.nd, h.hs.ob, h.hs.ov, h.hs.ol, h.hs.few, fun k hO => Nat.lt_of_lt_of_le (h.hs.olt k hO) hsz⟩, h.ord, h.perm, h.mp.block (hk mt h.om), fun k m h1 h2 => (h.sl k m h1 h2).block (hk m (h.os k m h1 h2)), h.sn, h.inj, h.ne, fun t ht hl => ?_, fun t ht => ?_, h.nd, h.lv4, h.om, h.os, h.ot⟩
  · obtain ⟨p, hp⟩ := h.tS t ht hl
    exact ⟨p, hp.of (hk _ (h.ot t (List.mem_append_left _ ht)))⟩
  · obtain ⟨l, p, hp⟩ := h.tP t ht
    exact ⟨l, p, hp.of (hk _ (h.ot t (List.mem_append_right _ ht)))⟩
theorem WC.drewN (h : WC O b n M S P mt sv v L w) (m : Nat) : WC O b n M S P mt sv v L (w.drewN m) := h.other (Nat.le_refl _) fun _ _ => rfl
theorem WC.below {w' : World} (h : WC O b n M S P mt sv v L w) (hb : Below w.heap.size w w') : WC O b n M S P mt sv v L w' := h.other hb.size fun k hk => hb.block k (h.lt k hk)
theorem WC.permP {P' : List Tm} (h : WC O b n M S P mt sv v L w) (hp : P'.Perm P) : WC O b n M S P' mt sv v L w :=
  ⟨h.hs, h.ord, h.perm, h.mp, h.sl, h.sn, h.inj, h.ne, h.tS, fun t ht => h.tP t (hp.mem_iff.1 ht), ((((List.Perm.refl S).append hp).map Tm.a).nodup_iff).2 h.nd, h.lv4, h.om, h.os, fun t ht => h.ot t (((List.Perm.refl S).append hp).mem_iff.1 ht)⟩
theorem WC.permM {M' : List (Int × Value)} (h : WC O b n M S P mt sv v L w) (hp : M.Perm M') : WC O b n M' S P mt sv v L w :=
  ⟨h.hs, h.ord, h.perm, h.mp.perm hp, h.sl, h.sn, h.inj, h.ne, h.tS, h.tP, h.nd, h.lv4, h.om, h.os, h.ot⟩
/-- Now goes on. -/
theorem WC.setNow (h : WC O b n M S P mt sv v L w) (n' : Int) : WC O b n' M S P mt sv v L (w.setCell ⟨b, 0, none⟩ (.int .i64 n')) := by
  have hcb : ∃ cs t fz, w.heap[b]? = some (.cells cs t fz) := by obtain ⟨cs, h0, _⟩ := h.hs.wb; exact ⟨_, _, _, h0⟩
  obtain ⟨cs, tb, fz, hcb⟩ := hcb
  have nb : ∀ {i m : Nat} {K : List (Int × Value)}, JAt w m K → m ≠ b := fun hm e => map_ne hm hcb e.symm
  have nt : ∀ {a : Nat} {i f l p : Int}, TmB w a i f l p → a ≠ b := fun ht e => by
    obtain ⟨cs, h0, _⟩ := h.hs.wb
    unfold TmB at ht
    rw [e, h0] at ht
    injection ht with ht
    injection ht with _ h2
    exact absurd h2 (by decide)
  have nv : v.ownBlock ≠ some b := by obtain ⟨cs, h0, _⟩ := h.hs.wb; exact own_kind h.hs.row h0 (by decide)
  refine ⟨⟨h.hs.wb.setNow n', ownsRow_setCell_other h.hs.row (a := ⟨b, 0, none⟩) nv _, fun k x hx => (h.hs.hd k x hx).far (nt (h.hs.hd k x hx)) _ _, h.hs.nd, h.hs.ob, h.hs.ov, h.hs.ol, h.hs.few, fun k hO => by rw [World.size_setCell]; exact h.hs.olt k hO⟩, h.ord, h.perm, h.mp.block (set_far (nb (i := 0) h.mp) _ _), fun k m h1 h2 => (h.sl k m h1 h2).block (set_far (nb (i := 0) (h.sl k m h1 h2)) _ _), h.sn, h.inj, h.ne, fun t ht hl => ?_, fun t ht => ?_, h.nd, h.lv4, h.om, h.os, h.ot⟩
  · obtain ⟨p, hp⟩ := h.tS t ht hl
    exact ⟨p, hp.far (nt hp) _ _⟩
  · obtain ⟨l, p, hp⟩ := h.tP t ht
    exact ⟨l, p, hp.far (nt hp) _ _⟩
end
end Go.Proofs.Ytmmghdnlppjgbaa
