/-
  What the walk of layAnew needs: who is laid anew, and that who is laid stays the same timers.
-/
import Derived.Test.YtmmghdnlppjgbaaWhTurnX
namespace Go.Proofs.Ytmmghdnlppjgbaa
set_option maxRecDepth 100000
open Go.RowKit
/-- A timer but for its level. -/
def Tm.core (t : Tm) : Nat × Int × Int := (t.a, t.id, t.f)
theorem core_ids {A B : List Tm} (h : (A.map Tm.core).Perm (B.map Tm.core)) : (A.map Tm.id).Perm (B.map Tm.id) := by
  have := h.map (fun x : Nat × Int × Int => x.2.1)
  rwa [List.map_map, List.map_map] at this
theorem ids_hid {S P : List Tm} {t : Tm} (h : ((S ++ t :: P).map Tm.id).Nodup) : ∀ s ∈ S, s.id ≠ t.id := by
  intro s hs e
  rw [List.map_append] at h
  exact (List.nodup_append.1 h).2.2 s.id (List.mem_map.2 ⟨s, hs, rfl⟩) t.id (List.mem_map.2 ⟨t, List.mem_cons_self, rfl⟩) e
/-- One of those that are still to come, put first. -/
theorem first_perm {P0 : List Tm} {lf : Int → Bool} {t : Tm} (hnd : (P0.map Tm.id).Nodup) (ht : t ∈ P0) (hl : lf t.id = true) : (P0.filter fun s => lf s.id).Perm (t :: P0.filter fun s => lf s.id && !(s.id == t.id)) := by
  induction P0 with
  | nil => simp at ht
  | cons p P0 ih =>
    rw [List.map_cons, List.nodup_cons] at hnd
    obtain ⟨h1, h2⟩ := hnd
    rcases List.mem_cons.1 ht with rfl | ht
    · rw [List.filter_cons_of_pos (by simpa using hl), List.filter_cons_of_neg (by simp)]
      refine List.Perm.cons _ ?_
      have : (P0.filter fun s => lf s.id) = P0.filter fun s => lf s.id && !(s.id == t.id) := List.filter_congr fun s hs => by
        have : s.id ≠ t.id := fun e => h1 (List.mem_map.2 ⟨s, hs, e⟩)
        simp [this]
      rw [this]
    · have hne : p.id ≠ t.id := fun e => h1 (List.mem_map.2 ⟨t, ht, e.symm⟩)
      have := ih h2 ht
      by_cases hp : lf p.id = true
      · rw [List.filter_cons_of_pos (by simpa using hp), List.filter_cons_of_pos (by simp [hp, hne])]
        exact (List.Perm.cons p this).trans (List.Perm.swap _ _ _)
      · rw [List.filter_cons_of_neg (by simpa using hp), List.filter_cons_of_neg (by simp [hp])]
        exact this
theorem rng_nil (w : World) : (Instr.range 59 (.map none)).run Try.prog w = .ok (.pointer (some ⟨w.heap.size, 0, none⟩)) (w.alloc (.mapIter none 0 #[] 0)) := by kernel_rfl
theorem nxt_nil {w : World} {r : Nat} (h : w.heap[r]? = some (.mapIter none 0 #[] 0)) (ty : TypeId) : (Instr.next (.pointer (some ⟨r, 0, none⟩)) false ty).run Try.prog w = .ok (.tuple #[.bool false]) w := by
  have e : (getObj r).run Try.prog w = .ok (.mapIter none 0 #[] 0) w := by simp [getObj, Sem.run, h]
  unfold Instr.next
  simp only [Sem.run_bind, e, Result.andThen_ok]
  rfl
section
variable {O : Nat → Prop} {b : Nat} {n : Int} {M : List (Int × Value)} {S P : List Tm} {mt : Nat} {sv : Nat → Option Nat} {v : Value} {L : List Hd} {w w' : World}
/-- A map that is none of its any more. -/
theorem WC.less {m0 : Nat} {K : List (Int × Value)} (h : WC O b n M S P mt sv v L w) (hm : JAt w m0 K) (h1 : m0 ≠ mt) (h2 : ∀ k, k < 256 → sv k ≠ some m0) : WC (fun k => O k ∧ k ≠ m0) b n M S P mt sv v L w := by
  obtain ⟨kb, vb, vt, km⟩ := h.kinds
  obtain ⟨m1, m2, m3⟩ := km hm
  refine ⟨⟨h.hs.wb, h.hs.row, h.hs.hd, h.hs.nd, ⟨h.hs.ob, m1.symm⟩, fun g hg => ⟨h.hs.ov g hg, fun e => m2 (e ▸ hg)⟩, fun x hx => ⟨h.hs.ol x hx, fun e => ?_⟩, h.hs.few, fun k hk => h.hs.olt k hk.1⟩, h.ord, h.perm, h.mp, h.sl, h.sn, h.inj, h.ne, h.tS, h.tP, h.nd, h.lv4, ⟨h.om, h1.symm⟩, fun k m hk e => ⟨h.os k m hk e, fun e2 => h2 k hk (by rw [e, e2])⟩, fun t ht => ⟨h.ot t ht, m3 t ht⟩⟩
  obtain ⟨s, hs, _, e2⟩ := h.mem_L hx
  exact m3 s (List.mem_append_left _ hs) (by rw [← e, ← e2])
theorem Wd.wide {O' : Nat → Prop} {n2 : Int} {M2 : List (Int × Value)} {S2 P2 : List Tm} (h : Wd O b n2 M2 S2 P2 mt w w') (ho : ∀ k, O k → O' k) : Wd O' b n2 M2 S2 P2 mt w w' := by
  obtain ⟨⟨O2, sv, v, L, h1, h2⟩, h3⟩ := h
  exact ⟨⟨O2, sv, v, L, h1, fun k hk => (h2 k hk).imp (ho k) id⟩, h3.mono fun k _ => ho k⟩
/-- The timers of a level are those of its slot that begins now, or stand as they may. -/
theorem mid_skip {c : Nat} {t : Tm} (h : Mid n c t) (hc : t.lv = c → 0 < c → c < 4 → slotN c t.f ≠ slotN c n ∨ n % wd c ≠ 0) : Mid n (c + 1) t := by
  refine ⟨h.1, fun h0 h4 => ⟨(h.2.1 h0 h4).1, (h.2.1 h0 h4).2.1, (h.2.1 h0 h4).2.2.1, fun hl => ?_⟩, h.2.2⟩
  by_cases e : t.lv = c
  · exact mid_not h h0 h4 (by have := hc e (by omega) (by omega); rw [e]; exact this)
  · exact (h.2.1 h0 h4).2.2.2 (by omega)
end
end Go.Proofs.Ytmmghdnlppjgbaa
