/-
  The walk of lay.
-/
import Derived.Test.YtmmghdnlppjgbaaWhFar
namespace Go.Proofs.Ytmmghdnlppjgbaa
set_option maxRecDepth 100000
open Go.RowKit
section
variable {O : Nat → Prop} {b : Nat} {n : Int} {M : List (Int × Value)} {S P : List Tm} {mt : Nat} {sv : Nat → Option Nat} {v : Value} {L : List Hd} {w w' : World}
/-- The wheels behind a call that turns them. -/
structure Wd (O : Nat → Prop) (b : Nat) (n : Int) (M : List (Int × Value)) (S P : List Tm) (mt : Nat) (w w' : World) : Prop where
  at_ : ∃ O' sv v L, WC O' b n M S P mt sv v L w' ∧ ∀ k, O' k → O k ∨ w.heap.size ≤ k
  fr : Fr O w w'
theorem Wd.same (h : WC O b n M S P mt sv v L w) : Wd O b n M S P mt w w := ⟨⟨O, sv, v, L, h, fun _ e => .inl e⟩, Fr.refl _ _⟩
/-- One call behind another. -/
theorem Wd.next {O1 : Nat → Prop} {n2 : Int} {M2 : List (Int × Value)} {S2 P2 : List Tm} {w1 w2 : World} (hs : ∀ k, O1 k → O k ∨ w.heap.size ≤ k) (hf : Fr O w w1) (h : Wd O1 b n2 M2 S2 P2 mt w1 w2) : Wd O b n2 M2 S2 P2 mt w w2 := by
  obtain ⟨⟨O2, sv, v, L, h1, h2⟩, h3⟩ := h
  refine ⟨⟨O2, sv, v, L, h1, fun k hk => ?_⟩, hf.trans h3 fun k hk ho => (hs k ho).elim id fun e => by omega⟩
  rcases h2 k hk with e | e
  · exact hs k e
  · have := hf.size; exact .inr (by omega)
/-- Draws, and a level that is marked. -/
theorem WC.marked {t : Tm} {w2 : World} (h : WC O b n M S (t :: P) mt sv v L w) (l : Int) (e : w2.heap = (w.setCell ⟨t.a, 2, none⟩ (.int .i64 l)).heap) (e0 : w2.os = w.os) (e1 : w2.tape = w.tape) (e2 : w2.output = w.output) :
    WC O b n M S (t :: P) mt sv v L w2 ∧ (∃ p, TmB w2 t.a t.id t.f l p) ∧ Fr O w w2 ∧ w2.heap.size = w.heap.size := by
  have h1 := h.setLevelP l
  obtain ⟨l', p, hp⟩ := h.tP t (by simp)
  refine ⟨h1.other (by rw [e]; exact Nat.le_refl _) fun k _ => by rw [e], ⟨p, (hp.setLevel l).of (by rw [e])⟩, ((Fr.refl O w).set (h.ot t (by simp)) 2 (.int .i64 l)).heap e0 e1 e2 e, by rw [e, World.size_setCell]⟩
theorem same_filter {K : List (Int × Value)} {i : Int} (h : ∀ p ∈ K, p.1 ≠ i) : (K.filter fun p => p.1 != i) = K := by
  rw [List.filter_eq_self]
  intro p hp
  simpa using h p hp
/-- Laid in a slot that has a map. -/
theorem WC.lay_old {t : Tm} {l k m : Nat} {w2 : World} (h : WC O b n M S (t :: P) mt sv v L w) (hl : l < 4) (hk : k = slotN l t.f) (hs : sv k = some m) (hid : ∀ s ∈ S, s.id ≠ t.id) (hn : Nm t.id) (few : S.length ≤ 100000)
    (e : w2.heap = (w.setCell ⟨t.a, 2, none⟩ (.int .i64 l)).heap) (e0 : w2.os = w.os) (e1 : w2.tape = w.tape) (e2 : w2.output = w.output) :
    ∃ w3, (Instr.mapUpdate 59 (.map (some m)) (.int .i64 t.id) (ptrV t.a)).run Try.prog w2 = .ok () w3 ∧ Wd O b n M (⟨t.a, t.id, t.f, l⟩ :: S) P mt w w3 := by
  obtain ⟨h2, ⟨p, tp⟩, f2, sz⟩ := h.marked l e e0 e1 e2
  have hk4 : k < 256 := by have := slot_lt l t.f; omega
  have hm := h2.sl k m hk4 hs
  obtain ⟨w3, r1, r2, r3⟩ := hm.put (ptrV t.a) hn (by rw [List.length_map]; exact Nat.le_trans (List.length_filter_le _ _) (by omega))
  rw [same_filter (fun q hq => by obtain ⟨s, hs', rfl⟩ := List.mem_map.1 hq; exact hid s (List.mem_filter.1 hs').1)] at r2
  have g := r3.grown
  obtain ⟨kb, vb, vt, km⟩ := h2.kinds
  have wb : WB w3 b n mt (upS sv k (some m)) v := by
    have e3 : upS sv k (some m) = sv := funext fun i => by unfold upS; split
                                                           · rename_i e; rw [e, hs]
                                                           · rfl
    rw [e3]
    exact h2.hs.wb.of (g.block b h2.hs.wb.lt (fun e => (km hm).1 (by injection e with e; exact e.symm)))
  have w3c := h2.laid_slot hl hk (.inl hs) wb r2 (tp.of (g.block t.a (ltOf tp) (fun e => (km hm).2.2 t (by simp) (by injection e)))) (fun j hj _ _ h3 => g.block j hj (fun e => h3 (by injection e))) g.size
  refine ⟨w3, r1, ⟨_, _, _, _, w3c, fun j hj => ?_⟩, f2.turned r3 (h2.os k m hk4 hs)⟩
  rcases hj with hj | rfl
  · exact .inl hj
  · exact .inl (h2.os k j hk4 hs)
/-- Laid in a slot that has none. -/
theorem WC.lay_new {t : Tm} {l k : Nat} {w2 wn : World} (h : WC O b n M S (t :: P) mt sv v L w) (hl : l < 4) (hk : k = slotN l t.f) (hs : sv k = none) (hn : Nm t.id)
    (e : w2.heap = (w.setCell ⟨t.a, 2, none⟩ (.int .i64 l)).heap) (e0 : w2.os = w.os) (e1 : w2.tape = w.tape) (e2 : w2.output = w.output)
    (en : wn.heap = ((w2.setCell ⟨b, 2 + k, none⟩ (.map (some w2.heap.size))).alloc (.map #[] 0)).heap) (n0 : wn.os = w.os) (n1 : wn.tape = w.tape) (n2 : wn.output = w.output) :
    ∃ w3, (Instr.mapUpdate 59 (.map (some w2.heap.size)) (.int .i64 t.id) (ptrV t.a)).run Try.prog wn = .ok () w3 ∧ Wd O b n M (⟨t.a, t.id, t.f, l⟩ :: S) P mt w w3 := by
  obtain ⟨h2, ⟨p, tp⟩, f2, sz⟩ := h.marked l e e0 e1 e2
  have hk4 : k < 256 := by have := slot_lt l t.f; omega
  have hbl := h2.hs.wb.lt
  have hm0 : JAt wn w2.heap.size [] := by
    have := JAt.made (w2.setCell ⟨b, 2 + k, none⟩ (.map (some w2.heap.size)))
    rw [World.size_setCell] at this
    exact this.block (by rw [en])
  obtain ⟨w3, r1, r2, r3⟩ := hm0.put (ptrV t.a) hn (by simp)
  have g := r3.grown
  obtain ⟨kb, vb, vt, km⟩ := h2.kinds
  have wbn : WB wn b n mt (upS sv k (some w2.heap.size)) v := by
    have h5 := h2.hs.wb.setSlot hk4 (some w2.heap.size)
    exact h5.of (by rw [en, Below.heap_alloc _ _ b (by simpa using hbl)])
  have sn : wn.heap.size = w2.heap.size + 1 := by rw [en]; simp
  have same : ∀ j, j < w2.heap.size → j ≠ b → w3.heap[j]? = w2.heap[j]? := fun j hj hne =>
    ((g.block j (by omega) (fun e => by injection e with e; omega)).trans (by rw [en])).trans ((Below.heap_alloc _ _ j (by simpa using hj)).trans (set_far hne _ _))
  have empty : (S.filter fun s => s.no == k) = [] := by
    rw [List.filter_eq_nil_iff]
    intro s hs'
    simpa using h.sn k hk4 hs s hs'
  have w3c := h2.laid_slot (w' := w3) hl hk (.inr ⟨hs, Nat.le_refl _⟩) (wbn.of (g.block b (by omega) (fun e => by injection e with e; omega))) (by rw [empty]; simpa using r2) (tp.of (same t.a (ltOf tp) (kb t (by simp)))) (fun j hj h1 _ _ => same j hj h1) (by have := g.size; omega)
  have hob := h.hs.ob
  have fn : Fr O w wn := ((f2.set hob (2 + k) (.map (some w2.heap.size))).alloc (.map #[] 0)).heap (n0.trans f2.os.symm |>.trans rfl) (n1.trans f2.tape.symm |>.trans rfl) (n2.trans f2.output.symm |>.trans rfl) en
  refine ⟨w3, r1, ⟨_, _, _, _, w3c, fun j hj => ?_⟩, fn.trans ((Fr.refl (fun j => j = w2.heap.size) wn).turned r3 rfl) fun i hi e => by omega⟩
  rcases hj with hj | rfl
  · exact .inl hj
  · exact .inr (by omega)
end
end Go.Proofs.Ytmmghdnlppjgbaa
