/-
  The walk of Next.
-/
import Derived.Test.YtmmghdnlppjgbaaWhNext
namespace Go.Proofs.Ytmmghdnlppjgbaa
set_option maxRecDepth 100000
open Go.RowKit
/-- When the first one fires, if there is one. -/
def headE (M : List En) : Int × Bool := match M with | [] => (0, false) | p :: _ => (p.1, true)
section
variable {O : Nat → Prop} {b : Nat} {M : List En} {n : Int} {w : World}
theorem FdN.head {S : List Tm} {M : List En} {n : Int} {found : Bool} {first : Int} (hs : Set_ n S M) (h : FdN S 5 found first) : (first, found) = headE M := by
  have hl : ∀ t ∈ S, t.lv < 5 := fun t ht => by have := (hs.stand t ht).2.2; omega
  cases found with
  | false =>
    obtain ⟨e1, e2⟩ := h.1 rfl
    have hS : S = [] := by
      cases S with
      | nil => rfl
      | cons t S => exact absurd (hl t (by simp)) (e2 t (by simp))
    have := hs.perm
    rw [hS] at this
    rw [this.eq_nil, e1]
    rfl
  | true =>
    obtain ⟨⟨t, ht, e1⟩, e2⟩ := h.2 rfl
    cases M with
    | nil => have := hs.perm.mem_iff.2 (List.mem_map.2 ⟨t, ht, rfl⟩); simp at this
    | cons p M =>
      have h1 : first ≤ p.1 := by
        obtain ⟨s, hs', e3⟩ := List.mem_map.1 (hs.perm.mem_iff.1 (List.mem_cons_self (a := p) (l := M)))
        rw [← e3]
        exact e2 s hs' (hl s hs')
      have h2 : p.1 ≤ first := by
        have hm : t.en ∈ p :: M := hs.perm.mem_iff.2 (List.mem_map.2 ⟨t, ht, rfl⟩)
        rcases List.mem_cons.1 hm with e | e
        · rw [← e, ← e1]; exact Int.le_refl _
        · have := (List.pairwise_cons.1 hs.srt).1 _ e
          unfold lt2 at this
          have h3 : t.en.1 = first := e1
          omega
      show (first, true) = (p.1, true)
      rw [Int.le_antisymm h1 h2]
set_option maxHeartbeats 8000000 in
theorem next_x (h : PW O b n M w) : Calls Try.prog 20 #[.pointer (some ⟨b, 0, none⟩)] w fun e w' => e = .returned (.tuple #[.int .i64 (headE M).1, .bool (headE M).2]) ∧ Below w.heap.size w w' := by
  obtain ⟨S, mt, sv, v, L, h1, h2⟩ := h
  obtain ⟨A, c, rfl⟩ := own_slice h1.hs.row
  have H := Lib.hid (And.intro h1 h2)
  have hn0 := h2.n0
  have hn1 := h2.n1
  have fewL := h1.hs.few
  clear h1 h2
  go_enter Try.func20, Try.ntmps20
  go_wp2_with fail
  go_loopw [13] (fun s wr => ∃ (i : Nat) (found : Bool) (first : Int), s = .int .i64 i ∧ i ≤ 4 ∧ Hid (Bx wr (w.heap.size + 1) w.heap.size found first ∧ FdN S i found first ∧ Below w.heap.size w wr)) (fun s _ => 4 - (intOf s).toNat)
  case atStart =>
    refine ⟨0, false, 0, rfl, by omega, Lib.hid ⟨⟨by simpa using newOf (w.alloc (.cells #[.int .i64 0] 3)) (.cells #[.bool false] 4), (Below.heap_alloc _ _ w.heap.size (by simp)).trans (newOf w _)⟩, ⟨fun _ => ⟨rfl, fun t _ => by omega⟩, fun e => by simp at e⟩, ((Below.refl _ w).alloc (Nat.le_refl _) _).alloc (by simp) _⟩⟩
  case round =>
    obtain ⟨i, found, first, rfl, hi, HR⟩ := hrel
    have h1 := H.out.1.below HR.out.2.2
    by_cases h4 : i < 4
    · have HA := Lib.hid (ahead_x h1 H.out.2.stand hn0 hn1 h4)
      clear h1
      go_wp2_with fail
      refine HA.out.mono ?_
      rintro e w2 ⟨x, r, rfl, hA, m, rfl⟩
      have B2 := Lib.hid (show Bx (wr.drewN m) (w.heap.size + 1) w.heap.size found first ∧ Below w.heap.size w (wr.drewN m) from ⟨HR.out.1.drewN m, below_drewN HR.out.2.2 m⟩)
      generalize wr.drewN m = w2 at *
      rcases hA with ⟨rfl, rfl, hA⟩ | ⟨q, m0, rfl, rfl, q1, q2, q3, q4, q5⟩
      · have HN := Lib.hid (HR.out.2.1.none hA)
        have hr := rng_nil
        clear hA
        go_wp2_with fail
        go_loopw [] (fun wx => wx = w2.alloc (.mapIter none 0 #[] 0)) (fun _ => 0)
        case atStart => rfl
        case round =>
          have hnew : wr.heap[w2.heap.size]? = some (.mapIter none 0 #[] 0) := by rw [hrel]; exact newOf w2 _
          have hx := fun ty => nxt_nil hnew ty
          have hb : Below w2.heap.size w2 wr := by rw [hrel]; exact (Below.refl _ _).alloc (Nat.le_refl _) _
          have HB := Lib.hid (And.intro (B2.out.1.below hb) (below_next B2.out.2 hb))
          clear hnew hrel hb
          go_wp2_with fail
          go_roundw
          case rel => exact ⟨i + 1, found, first, by simp, by omega, Lib.hid ⟨HB.out.1, HN.out, HB.out.2⟩⟩
          case measure => simp [intOf]; omega
      · have h2 := H.out.1.below B2.out.2
        have hk4 : slotN i (q * wd i) < 256 := by have := slot_lt i (q * wd i); omega
        have HJ := Lib.hid (h2.sl _ m0 hk4 q3)
        have HO := Lib.hid (fun lf found first (g : FdR S (S.filter fun t => t.no == slotN i (q * wd i)) i lf found first) (hl : ∀ z, lf z = false) => g.over h4 rfl q4 q5 H.out.2.stand q1 q2 hl)
        have HS0 : Hid (FdR S (S.filter fun t => t.no == slotN i (q * wd i)) i (fun z => ((S.filter fun t => t.no == slotN i (q * wd i)).map Tm.kv).any fun p => p.1 == z) found first) := Lib.hid (HR.out.2.1.start fun t ht => List.any_eq_true.2 ⟨t.kv, List.mem_map.2 ⟨t, ht, rfl⟩, by simp⟩)
        have HSub : Hid (∀ t ∈ S.filter (fun t => t.no == slotN i (q * wd i)), t ∈ S) := Lib.hid fun t ht => (List.mem_filter.1 ht).1
        clear h2 q1 q2 q3 q4 q5
        generalize (S.filter fun t => t.no == slotN i (q * wd i)) = S0 at *
        generalize q * wd i = r0 at *
        generalize hKK : S0.map Tm.kv = K at HJ HS0
        have HKE := Lib.hid hKK
        clear hKK
        go_wp2_with (at_range; refine wpList_range_ent rfl w2 rfl (.tmp 22) rfl m0 K rfl HJ.out ?_; intro w3 hit hg hsz; have HG := Lib.hid hg; generalize hrr : w2.heap.size = r at hit hsz ⊢; have HRR := Lib.hid hrr; clear hrr; have HIT := Lib.hid hit; have HSZ := Lib.hid hsz; clear hit hg hsz)
        go_frame
        go_loopw [] (fun wx => ∃ (lf : Int → Bool) (cnt : Nat) (found : Bool) (first : Int), Hid (Jt wx m0 r K lf cnt ∧ Bx wx (w.heap.size + 1) w.heap.size found first ∧ FdR S S0 i lf found first ∧ Below w.heap.size w wx)) (fun wx => wx.rangeLeft m0 r)
        case atStart =>
          have hb : Below w2.heap.size w2 w3 := (Below.refl _ _).grown HG.out (Nat.le_refl _) fun j hj => by cases hj
          exact ⟨_, _, found, first, Lib.hid ⟨HIT.out, B2.out.1.below hb, HS0.out, below_next B2.out.2 hb⟩⟩
        case round =>
          obtain ⟨lf, cnt, fd, fs, HI⟩ := hrel
          go_wp2_with (at_next; refine wpList_next_ent rfl _ rfl (.tmp 23) rfl m0 r cnt _ lf rfl HI.out.1 ?_ ?_)
          · intro hl0
            have HN := Lib.hid (HO.out lf fd fs HI.out.2.2.1 hl0)
            clear hl0
            go_wp2_with fail
            go_roundw
            case rel => exact ⟨i + 1, fd, fs, by simp, by omega, Lib.hid ⟨HI.out.2.1, HN.out, HI.out.2.2.2⟩⟩
            case measure => simp [intOf]; omega
          · intro nn ad w5 cnt' hm hl hit hlt hgr hsz hen
            rw [← HKE.out] at hm
            obtain ⟨t, ht, e⟩ := List.mem_map.1 hm
            have e1 : t.id = nn := congrArg Prod.fst e
            have e2 : ptrV t.a = ad := congrArg Prod.snd e
            subst e1 e2
            have hbx : w.heap.size + 1 < r := by
              have := (ltOf B2.out.1.1)
              have := HRR.out
              omega
            have hbx5 : Bx w5 (w.heap.size + 1) w.heap.size fd fs := ⟨(hgr.block _ (ltOf HI.out.2.1.1) (fun e => by injection e with e; omega)).trans HI.out.2.1.1, (hgr.block _ (ltOf HI.out.2.1.2) (fun e => by injection e with e; omega)).trans HI.out.2.1.2⟩
            have hb5 : Below w.heap.size w w5 := HI.out.2.2.2.grown hgr (HI.out.2.2.2.size) fun j hj => by cases hj; omega
            obtain ⟨p5, tp5⟩ := (H.out.1.below hb5).tm (HSub.out t ht)
            have ct := tp5.cells.2.1
            have hm0 : m0 < w.heap.size ∨ w.heap.size + 1 < m0 ∨ (m0 ≠ w.heap.size + 1 ∧ m0 ≠ w.heap.size) := by
              by_cases e1 : m0 = w.heap.size + 1
              · exact absurd HI.out.2.1.1 (fun h => by obtain ⟨es, cl, h3⟩ := HI.out.1.map.isMap; rw [e1, h] at h3; cases h3)
              · by_cases e2 : m0 = w.heap.size
                · exact absurd HI.out.2.1.2 (fun h => by obtain ⟨es, cl, h3⟩ := HI.out.1.map.isMap; rw [e2, h] at h3; cases h3)
                · exact .inr (.inr ⟨e1, e2⟩)
            have hids : ∀ s ∈ S0, s.id = t.id → s = t := fun s hs e => by
              obtain ⟨i1, hi1, rfl⟩ := List.getElem_of_mem (HSub.out s hs)
              obtain ⟨j1, hj1, rfl⟩ := List.getElem_of_mem (HSub.out t ht)
              have := (List.getElem?_inj (l := S.map Tm.id) (by rw [List.length_map]; exact hi1) H.out.2.ids (j := j1)).1 (by simp [hi1, hj1, e])
              subst this
              rfl
            have HSk := Lib.hid (seekM_x hbx5 ct)
            have HR5 : Hid (∀ w6, Bx w6 (w.heap.size + 1) w.heap.size true (seekN fd fs t.f) ∧ Fr (fun k => k = w.heap.size + 1 ∨ k = w.heap.size) w5 w6 →
                (∃ (lf : Int → Bool) (cnt : Nat) (found : Bool) (first : Int), Hid (Jt w6 m0 r K lf cnt ∧ Bx w6 (w.heap.size + 1) w.heap.size found first ∧ FdR S S0 i lf found first ∧ Below w.heap.size w w6)) ∧ w6.rangeLeft m0 r < wr.rangeLeft m0 r) := Lib.hid fun w6 hx => by
              have hm5 : m0 < w5.heap.size := hit.map.lt
              have hr5 : r < w5.heap.size := hit.lt
              have hit6 : Jt w6 m0 r K (fun z => lf z && !(z == t.id)) cnt' := hit.block (hx.2.block m0 hm5 (by rintro (e | e) <;> omega)) (hx.2.block r hr5 (by rintro (e | e) <;> omega))
              refine ⟨⟨_, _, true, _, Lib.hid ⟨hit6, hx.1, HI.out.2.2.1.step ht HSub.out hids, hb5.trans (hx.2.below hb5.size fun k hk e => by omega)⟩⟩, ?_⟩
              rw [hit6.left_eq, HI.out.1.left_eq]; exact hlt
            clear hm hl hit hlt hgr hsz hbx5 hb5 tp5 hm0 hids ht e hbx ct
            go_wp2_with (go_at_call 28; refine HSk.out.mono ?_; rintro e w6 ⟨rfl, hx1, hx2⟩; have HX := Lib.hid (And.intro hx1 hx2); clear hx1 hx2)
            go_roundw
            case rel => exact (HR5.out _ HX.out).1
            case measure => exact (HR5.out _ HX.out).2
    · have : i = 4 := by omega
      subst this
      have cl := h1.hs.wb.list
      obtain ⟨hB1, hB2⟩ := HR.out.1
      have b1 : wr.cell? ⟨w.heap.size + 1, 0, none⟩ = some (.bool found) := cellOf hB1 0
      have b2 : wr.cell? ⟨w.heap.size, 0, none⟩ = some (.int .i64 first) := cellOf hB2 0
      rcases Nat.eq_zero_or_pos L.length with hL0 | hL0
      · have HN := Lib.hid ((HR.out.2.1.none (fun t ht e => by
          have : t.hd ∈ L := h1.perm.mem_iff.2 (List.mem_map.2 ⟨t, List.mem_filter.2 ⟨ht, by simp [e]⟩, rfl⟩)
          rw [List.eq_nil_of_length_eq_zero hL0] at this
          simp at this)).head H.out.2)
        rw [hL0] at cl
        clear h1 hB1 hB2 hL0
        go_wp2_with fail
        go_quiet (fail)
        go_wp2_with fail
        go_returns
        rw [← HN.out]
        exact ⟨rfl, below_drewN HR.out.2.2 _⟩
      · obtain ⟨x, hx⟩ := at_some hL0
        obtain ⟨g, cap, hv, _, _, hc, _⟩ := h1.hs.form hL0
        injection hv with e1 _ e3
        subst e1 e3
        obtain ⟨a2, t, ht, hl, rfl⟩ := h1.first4 hx
        have cg : wr.cell? ⟨g, 0, none⟩ = some (ptrV t.a) := hc 0 _ hx
        have x1 : wr.cell? ⟨t.a, 1, none⟩ = some (.int .i64 t.f) := (h1.hs.hd 0 _ hx).cells.2.1
        have HN := Lib.hid (show FdN S (4 + 1) true (seekN found first t.f) from by
          obtain ⟨s1, s2, s3⟩ := seekN_le found first t.f
          refine ⟨fun e => by simp at e, fun _ => ⟨?_, fun s hs hlt => ?_⟩⟩
          · rcases s3 with e | ⟨e1, e2⟩
            · exact ⟨t, ht, e.symm⟩
            · rw [e2]; exact (HR.out.2.1.2 e1).1
          · by_cases h5 : s.lv < 4
            · cases found with
              | false => exact absurd h5 ((HR.out.2.1.1 rfl).2 s hs)
              | true => have := (HR.out.2.1.2 rfl).2 s hs h5; have := s2 rfl; omega
            · have : t.f ≤ s.f := a2 s hs (by omega)
              omega)
        have HSk := Lib.hid (seekM_x HR.out.1 x1)
        clear h1 hB1 hB2 hc hx ht hl a2 b1 b2
        go_wp2_with (go_at_call 28; refine HSk.out.mono ?_; rintro e w6 ⟨rfl, hx1, hx2⟩; have b3 : w6.cell? ⟨w.heap.size + 1, 0, none⟩ = some (.bool true) := cellOf hx1.1 0; have b4 : w6.cell? ⟨w.heap.size, 0, none⟩ = some (.int .i64 (seekN found first t.f)) := cellOf hx1.2 0; have HX := Lib.hid (And.intro hx1 hx2); clear hx1 hx2)
        go_quiet (fail)
        go_wp2_with fail
        go_returns
        rw [← HN.out.head H.out.2]
        exact ⟨rfl, below_drewN (HR.out.2.2.trans (HX.out.2.below HR.out.2.2.size fun k hk e => by omega)) _⟩
end
end Go.Proofs.Ytmmghdnlppjgbaa
