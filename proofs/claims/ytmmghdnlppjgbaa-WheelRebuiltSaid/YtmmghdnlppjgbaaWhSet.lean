/-
  The walks of Cancel, Due, Len.
-/
import Derived.Test.YtmmghdnlppjgbaaWhAdv
namespace Go.Proofs.Ytmmghdnlppjgbaa
set_option maxRecDepth 100000
open Go.RowKit
section
variable {O : Nat → Prop} {b : Nat} {M : List En} {n : Int} {w : World}
theorem en_id {S : List Tm} {M : List En} {n : Int} (h : Set_ n S M) (i : Int) : (M.any fun p => p.2 == i) = true ↔ ∃ t ∈ S, t.id = i := by
  rw [List.any_eq_true]
  constructor
  · rintro ⟨p, hp, e⟩
    obtain ⟨t, ht, rfl⟩ := List.mem_map.1 (h.perm.mem_iff.1 hp)
    exact ⟨t, ht, by simpa using e⟩
  · rintro ⟨t, ht, e⟩
    exact ⟨t.en, h.perm.mem_iff.2 (List.mem_map.2 ⟨t, ht, rfl⟩), by simpa using e⟩
theorem Set_.del {s1 s2 : List Tm} {t : Tm} {M : List En} {n : Int} (h : Set_ n (s1 ++ t :: s2) M) : Set_ n (s1 ++ s2) (delE M t.id) ∧ ((s1 ++ t :: s2).map Tm.kv).filter (fun p => p.1 != t.id) = (s1 ++ s2).map Tm.kv := by
  have hi := h.ids
  have hne : ∀ s ∈ s1 ++ s2, s.id ≠ t.id := fun s hs e => by
    have h2 := (((List.perm_middle (a := t) (l₁ := s1) (l₂ := s2)).map Tm.id).nodup_iff).1 hi
    rw [List.map_cons, List.nodup_cons] at h2
    exact h2.1 (List.mem_map.2 ⟨s, hs, e⟩)
  have sub : ∀ s ∈ s1 ++ s2, s ∈ s1 ++ t :: s2 := fun s hs => by rcases List.mem_append.1 hs with e | e <;> simp [e]
  have e1 : ∀ l : List Tm, (∀ s ∈ l, s.id ≠ t.id) → (l.map Tm.kv).filter (fun p => p.1 != t.id) = l.map Tm.kv := fun l hl => by
    rw [List.filter_eq_self]
    intro p hp
    obtain ⟨s, hs, rfl⟩ := List.mem_map.1 hp
    simpa using hl s hs
  have e2 : ∀ l : List Tm, (∀ s ∈ l, s.id ≠ t.id) → (l.map Tm.en).filter (fun p => p.2 != t.id) = l.map Tm.en := fun l hl => by
    rw [List.filter_eq_self]
    intro p hp
    obtain ⟨s, hs, rfl⟩ := List.mem_map.1 hp
    simpa using hl s hs
  have n1 : ∀ s ∈ s1, s.id ≠ t.id := fun s hs => hne s (List.mem_append_left _ hs)
  have n2 : ∀ s ∈ s2, s.id ≠ t.id := fun s hs => hne s (List.mem_append_right _ hs)
  refine ⟨⟨fun s hs => h.stand s (sub s hs), ?_, h.srt.filter _, ?_, h.n0, h.n1, fun s hs => h.id0 s (sub s hs), fun s hs => h.f1 s (sub s hs)⟩, ?_⟩
  · have := h.perm.filter (fun p => p.2 != t.id)
    rw [List.map_append, List.map_cons, List.filter_append, List.filter_cons_of_neg (by simp), e2 s1 n1, e2 s2 n2, ← List.map_append] at this
    exact this
  · have h2 := (((List.perm_middle (a := t) (l₁ := s1) (l₂ := s2)).map Tm.id).nodup_iff).1 hi
    rw [List.map_cons, List.nodup_cons] at h2
    exact h2.2
  · rw [List.map_append, List.map_cons, List.filter_append, List.filter_cons_of_neg (by simp), e1 s1 n1, e1 s2 n2, List.map_append]
theorem Set_.del_no {S : List Tm} {M : List En} {n i : Int} (h : Set_ n S M) (hi : ∀ t ∈ S, t.id ≠ i) : delE M i = M := by
  unfold delE
  rw [List.filter_eq_self]
  intro p hp
  obtain ⟨t, ht, rfl⟩ := List.mem_map.1 (h.perm.mem_iff.1 hp)
  simpa using hi t ht
set_option maxHeartbeats 4000000 in
theorem cancel_x (h : PW O b n M w) (i : Int) (hi : Nm i) :
    Calls Try.prog 13 #[.pointer (some ⟨b, 0, none⟩), .int .i64 i] w fun e w' => e = .returned (.bool (M.any fun p => p.2 == i)) ∧ PD O b n (delE M i) w w' := by
  obtain ⟨S, mt, sv, v, L, h1, h2⟩ := h
  have cm := h1.hs.wb.map
  by_cases hex : ∃ t ∈ S, t.id = i
  · obtain ⟨t, ht, rfl⟩ := hex
    have hany : (M.any fun p => p.2 == t.id) = true := (en_id h2 t.id).2 ⟨t, ht, rfl⟩
    rw [hany]
    obtain ⟨p, tp⟩ := h1.tm ht
    obtain ⟨s1, s2, rfl⟩ := List.append_of_mem ht
    obtain ⟨d1, d2⟩ := h2.del
    have hps := (List.perm_middle (a := t) (l₁ := s1) (l₂ := s2))
    have hlook := h1.mp.look_yes (n := t.id) (a := ptrV t.a) (List.mem_map.2 ⟨t, ht, rfl⟩) hi
    obtain ⟨w2, hdel, j2, t2⟩ := h1.mp.del hi 0
    rw [d2] at j2
    have c2 := (h1.setM j2 t2).permS hps.symm
    have f2 : Fr O w w2 := (Fr.refl O w).turned t2 h1.om
    have sz2 := t2.grown.size
    obtain ⟨p', tp'⟩ := c2.tm (t := t) (by simp)
    obtain ⟨t0, t1, t2', t3⟩ := tp'.cells
    have HD := Lib.hid d1
    have HN2 := Lib.hid (And.intro h2.n0 h2.n1)
    have hfn := h2.f1 t ht
    have hlo := (h2.stand t ht).ahead
    by_cases hl : t.lv = 4
    · have hmL : t.hd ∈ L := c2.perm.mem_iff.2 (List.mem_map.2 ⟨t, List.mem_filter.2 ⟨by simp, by simp [hl]⟩, rfl⟩)
      obtain ⟨i0, hi0, e0⟩ := List.getElem_of_mem hmL
      have hx : L[i0]? = some t.hd := by rw [List.getElem?_eq_getElem hi0, e0]
      have tb := c2.hs.hd i0 _ hx
      have t3' : w2.cell? ⟨t.a, 3, none⟩ = some (.int .i64 i0) := tb.cells.2.2.2
      have mt' : t ∈ t :: (s1 ++ s2) ++ ([] : List Tm) := by simp
      have HRem := Lib.hid (show ∀ q, Calls Try.prog 23 #[lsI b, .int .i64 i0] (w2.drewN q) (fun e w' => e = .returned (.iface 66 (ptrV t.a)) ∧ PD O b n (delE M t.id) w w') from fun q => (hrem_x ((c2.drewN q).hsp (c2.ot t mt')) c2.ord hx).mono (by
        rintro e w3 ⟨rfl, v', L', g1, g2, g3, g4, p3, g5⟩
        have c3 := ((c2.drewN q).far_off hl g1 g2 g3 g4 g5).dropP
        exact ⟨rfl, ⟨⟨O, ⟨s1 ++ s2, mt, sv, v', L', c3, d1⟩, fun _ e => .inl e⟩, (f2.trans0 (Fr.drewN O _ q)).trans g2 fun i _ ho => c2.ohp (c2.ot t mt') i ho⟩⟩))
      rw [hl] at t2'
      clear h1 h2 tp d1 d2 hps j2 t2 c2 f2 tp' hany ht hmL e0 hx tb mt' t3
      go_enter Try.func13, Try.ntmps13
      go_wp2_with fail
      go_still_tail 8, (by kernel_rfl)
      go_wp2_with (go_at_call 23; refine (HRem.out 1).mono ?_; rintro e w' ⟨rfl, hd⟩)
      go_ret
      exact ⟨rfl, hd⟩
    · have hl4 : t.lv < 4 := by have := (h2.stand t ht).2.2; omega
      have dl : ((t.lv : Int) == 4) = false := by simp; omega
      have HS := Lib.hid (fun w => slot_x b t.lv t.f hl4 (by have := h2.n0; omega) (by omega) w)
      have hk4 : slotN t.lv t.f < 256 := by have := slot_lt t.lv t.f; omega
      cases hsv : sv (slotN t.lv t.f) with
      | none => exact absurd rfl (c2.sn _ hk4 hsv t (by simp))
      | some m0 =>
        have cs := c2.hs.wb.slot hk4
        rw [hsv] at cs
        have sm := c2.sl _ m0 hk4 hsv
        rw [List.filter_cons_of_pos (by simp [Tm.no]), List.map_cons] at sm
        have HDel : Hid (∀ w3, (∃ q, w3 = w2.drewN q) → ∃ w4, (Builtin.delete_ #[59, 3] 0 #[.map (some m0), .int .i64 t.id]).run Try.prog w3 = .ok (.tuple #[]) w4 ∧ PD O b n (delE M t.id) w w4 ∧ w4.cell? ⟨t.a, 2, none⟩ = some (.int .i64 t.lv) ∧ w4.cell? ⟨t.a, 1, none⟩ = some (.int .i64 t.f) ∧ w4.cell? ⟨b, 2 + slotN t.lv t.f, none⟩ = some (.map (some m0))) := Lib.hid fun w3 hq => by
          obtain ⟨q, rfl⟩ := hq
          obtain ⟨w4, r1, r2, r3⟩ := (show JAt (w2.drewN q) m0 _ from sm).del hi 0
          refine ⟨w4, r1, ⟨⟨O, ⟨s1 ++ s2, mt, sv, v, L, ?_, d1⟩, fun _ e => .inl e⟩, (f2.trans0 (Fr.drewN O _ _)).turned r3 (c2.os _ m0 hk4 hsv)⟩, ?_⟩
          rotate_left
          · have g := r3.grown
            obtain ⟨kb, _, _, km⟩ := c2.kinds
            obtain ⟨k1, _, k3⟩ := km sm
            have ea : w4.heap[t.a]? = w2.heap[t.a]? := g.block t.a (ltOf tp') (fun e => k3 t (by simp) (by injection e))
            have eb : w4.heap[b]? = w2.heap[b]? := g.block b c2.hs.wb.lt (fun e => k1 (by injection e with e; exact e.symm))
            exact ⟨(World.cell?_of_block ea).trans t2', (World.cell?_of_block ea).trans t1, (World.cell?_of_block eb).trans cs⟩
          refine ((c2.drewN q).off_slot hl4 rfl hsv ?_ r3).dropP
          rw [List.filter_cons_of_neg (by simp)] at r2
          have : (((s1 ++ s2).filter fun s => s.no == slotN t.lv t.f).map Tm.kv).filter (fun p => p.1 != t.id) = ((s1 ++ s2).filter fun s => s.no == slotN t.lv t.f).map Tm.kv := by
            rw [List.filter_eq_self]
            intro p hp
            obtain ⟨s, hs, rfl⟩ := List.mem_map.1 hp
            have hs2 := (List.mem_filter.1 hs).1
            have h3 := (((List.perm_middle (a := t) (l₁ := s1) (l₂ := s2)).map Tm.id).nodup_iff).1 h2.ids
            rw [List.map_cons, List.nodup_cons] at h3
            simpa using fun e : s.id = t.id => h3.1 (List.mem_map.2 ⟨s, hs2, e⟩)
          rwa [this] at r2
        clear h1 h2 tp d1 d2 hps j2 t2 c2 f2 tp' sm hany ht
        go_enter Try.func13, Try.ntmps13
        obtain ⟨F, hF⟩ : ∃ F : Nat → World, ∀ q, (Builtin.delete_ #[59, 3] 0 #[.map (some m0), .int .i64 t.id]).run Try.prog (w2.drewN q) = .ok (.tuple #[]) (F q) ∧ PD O b n (delE M t.id) w (F q) ∧ (F q).cell? ⟨t.a, 2, none⟩ = some (.int .i64 t.lv) ∧ (F q).cell? ⟨t.a, 1, none⟩ = some (.int .i64 t.f) ∧ (F q).cell? ⟨b, 2 + slotN t.lv t.f, none⟩ = some (.map (some m0)) := ⟨fun q => (HDel.out (w2.drewN q) ⟨q, rfl⟩).choose, fun q => (HDel.out (w2.drewN q) ⟨q, rfl⟩).choose_spec⟩
        have hrun := fun q => (hF q).1
        have HPD := Lib.hid (fun q => (hF q).2.1)
        have HFc := Lib.hid (fun q => (hF q).2.2)
        clear hF
        go_wp2_with fail
        have HCe : Hid (∀ q, (w2.drewN q).cell? ⟨t.a, 2, none⟩ = some (.int .i64 t.lv) ∧ (w2.drewN q).cell? ⟨t.a, 1, none⟩ = some (.int .i64 t.f) ∧ (w2.drewN q).cell? ⟨b, 2 + slotN t.lv t.f, none⟩ = some (.map (some m0))) := Lib.hid fun q => ⟨t2', t1, cs⟩
        go_region_held3 (fun w' => w'.cell? ⟨t.a, 2, none⟩ = some (.int .i64 t.lv) ∧ w'.cell? ⟨t.a, 1, none⟩ = some (.int .i64 t.f) ∧ w'.cell? ⟨b, 2 + slotN t.lv t.f, none⟩ = some (.map (some m0)))
          (first | (with_reducible exact HFc.out _) | (with_reducible exact HCe.out _) | exact HCe.out 1 | exact HCe.out _)
          (first
            | (go_at_call 24; (with_reducible refine (HS.out _).mono ?_); rintro e w3 ⟨rfl, q, rfl⟩))
        all_goals
          go_wp2_with fail
          go_ret
          exact ⟨rfl, HPD.out _⟩
  · have hno : ∀ t ∈ S, t.id ≠ i := fun t ht e => hex ⟨t, ht, e⟩
    have hany : (M.any fun p => p.2 == i) = false := by
      cases e : (M.any fun p => p.2 == i) with
      | false => rfl
      | true => exact absurd ((en_id h2 i).1 e) hex
    rw [hany, h2.del_no hno]
    have hlook := h1.mp.look_no (n := i) (fun p hp => by obtain ⟨t, ht, rfl⟩ := List.mem_map.1 hp; exact hno t ht) hi
    have HP := Lib.hid (PD.refl ⟨S, mt, sv, v, L, h1, h2⟩ : PD O b n M w w)
    clear h1 h2 hany hno hex
    go_enter Try.func13, Try.ntmps13
    go_wp2_with fail
    go_ret
    exact ⟨rfl, HP.out⟩
end
end Go.Proofs.Ytmmghdnlppjgbaa
