/-
  The walk of layAnew.
-/
import Derived.Test.YtmmghdnlppjgbaaWhAnew
namespace Go.Proofs.Ytmmghdnlppjgbaa
set_option maxRecDepth 100000
open Go.RowKit
section
variable {O : Nat → Prop} {b : Nat} {n : Int} {M : List (Int × Value)} {S P : List Tm} {mt : Nat} {sv : Nat → Option Nat} {v : Value} {L : List Hd} {w w' : World}
/-- What holds of timers while they are laid anew. -/
structure An (S0 : List Tm) (n : Int) (c : Nat) (S : List Tm) : Prop where
  mid : ∀ t ∈ S, Mid n c t
  core : (S.map Tm.core).Perm (S0.map Tm.core)
  f1 : ∀ t ∈ S, t.f ≤ 4398046511104
  nm : ∀ t ∈ S, Nm t.id
  ids : (S.map Tm.id).Nodup
  few : S.length ≤ 100000
/-- While one slot's timers are laid: those laid, those to come. -/
structure An2 (S0 : List Tm) (n : Int) (c : Nat) (S P P0 : List Tm) (lf : Int → Bool) : Prop where
  mid : ∀ t ∈ S, Mid n c t
  core : ((S ++ P).map Tm.core).Perm (S0.map Tm.core)
  left : P.Perm (P0.filter fun s => lf s.id)
  f1 : ∀ t ∈ S ++ P, t.f ≤ 4398046511104
  nm : ∀ t ∈ S ++ P, Nm t.id
  ids : ((S ++ P).map Tm.id).Nodup
  few : (S ++ P).length ≤ 100000
  due : ∀ t ∈ P0, n ≤ t.f ∧ t.f - n < 16777216
theorem An.start {S0 S1 : List Tm} {n : Int} {c k : Nat} (h : An S0 n c S1) (hc1 : 1 ≤ c) (h4 : c < 4) (hz : n % wd c = 0) (hk : slotN c n = k) :
    An2 S0 n (c + 1) (S1.filter fun s => s.no != k) ((S1.filter fun s => s.no == k) ++ []) (S1.filter fun s => s.no == k) (fun z => ((S1.filter fun s => s.no == k).map Tm.kv).any fun p => p.1 == z) := by
  have pp : ((S1.filter fun s : Tm => s.no != k) ++ ((S1.filter fun s : Tm => s.no == k) ++ [])).Perm S1 := by
    rw [List.append_nil]
    have : (S1.filter fun s => s.no != k) = S1.filter fun s => !(s.no == k) := rfl
    rw [this]
    exact (List.perm_append_comm).trans (List.filter_append_perm (fun s => s.no == k) S1)
  refine ⟨fun t ht => ?_, (pp.map _).trans h.core, ?_, fun t ht => h.f1 t (pp.mem_iff.1 ht), fun t ht => h.nm t (pp.mem_iff.1 ht), ((pp.map Tm.id).nodup_iff).2 h.ids, by rw [pp.length_eq]; exact h.few, fun t ht => ?_⟩
  · obtain ⟨h1, h2⟩ := List.mem_filter.1 ht
    refine mid_skip (h.mid t h1) fun e3 _ _ => .inl ?_
    have h3 : t.no ≠ k := by simpa using h2
    unfold Tm.no at h3
    rw [e3] at h3
    rw [hk]
    exact h3
  · have e : (S1.filter fun s => s.no == k).filter (fun s => ((S1.filter fun s => s.no == k).map Tm.kv).any fun p => p.1 == s.id) = S1.filter fun s => s.no == k := List.filter_eq_self.2 ?_
    · rw [List.append_nil, e]
    intro t ht
    exact List.any_eq_true.2 ⟨t.kv, List.mem_map.2 ⟨t, ht, rfl⟩, by simp⟩
  · obtain ⟨h1, h2⟩ := List.mem_filter.1 ht
    have h3 : t.no = k := by simpa using h2
    have hlv : t.lv = c := slot_lv (f := t.f) (g := n) (by rw [hk]; exact h3)
    obtain ⟨_, a1, a2⟩ := mid_slot (h.mid t h1) (by omega) (by omega) (by rw [hlv]; exact hz) (by rw [hlv, hk]; have := h3; unfold Tm.no at this; rwa [hlv] at this)
    have := wd_le (l := t.lv)
    exact ⟨a1, by omega⟩
theorem An2.step {S0 S2 P2 P0 : List Tm} {n : Int} {c : Nat} {lf : Int → Bool} {t : Tm} (h : An2 S0 n c S2 P2 P0 lf) (hnd : (P0.map Tm.id).Nodup) (ht : t ∈ P0) (hl : lf t.id = true) :
    P2.Perm (t :: P0.filter fun s => lf s.id && !(s.id == t.id)) ∧ An2 S0 n c (⟨t.a, t.id, t.f, lvOf n t.f⟩ :: S2) (P0.filter fun s => lf s.id && !(s.id == t.id)) P0 (fun z => lf z && !(z == t.id)) := by
  have p1 := h.left.trans (first_perm hnd ht hl)
  refine ⟨p1, ?_⟩
  generalize hP : (P0.filter fun s => lf s.id && !(s.id == t.id)) = P3 at *
  have pp : (t :: S2 ++ P3).Perm (S2 ++ P2) := (List.perm_middle.symm).trans ((List.Perm.refl S2).append p1.symm)
  have hm : ∀ s ∈ (⟨t.a, t.id, t.f, lvOf n t.f⟩ :: S2 ++ P3 : List Tm), ∃ s' ∈ S2 ++ P2, s'.f = s.f ∧ s'.id = s.id := fun s hs => by
    rw [List.cons_append] at hs
    rcases List.mem_cons.1 hs with rfl | hs
    · exact ⟨t, pp.mem_iff.1 (by simp), rfl, rfl⟩
    · exact ⟨s, pp.mem_iff.1 (by rw [List.cons_append]; exact List.mem_cons_of_mem _ hs), rfl, rfl⟩
  obtain ⟨d1, d2⟩ := h.due t ht
  refine ⟨fun s hs => ?_, ?_, by rw [← hP], fun s hs => ?_, fun s hs => ?_, ?_, ?_, h.due⟩
  · rcases List.mem_cons.1 hs with rfl | hs
    · exact (laid_mid d1 t.a t.id d2).1
    · exact h.mid s hs
  · have := pp.map Tm.core
    exact this.trans h.core
  · obtain ⟨s', h1, h2, _⟩ := hm s hs
    rw [← h2]; exact h.f1 s' h1
  · obtain ⟨s', h1, _, h2⟩ := hm s hs
    rw [← h2]; exact h.nm s' h1
  · have := pp.map Tm.id
    exact (this.nodup_iff).2 h.ids
  · have := pp.length_eq
    have h3 := h.few
    simp only [List.cons_append, List.length_cons, List.length_append] at this h3 ⊢
    omega
theorem An2.over {S0 S2 P2 P0 : List Tm} {n : Int} {c : Nat} {lf : Int → Bool} (h : An2 S0 n c S2 P2 P0 lf) (hl : ∀ z, lf z = false) : P2 = [] ∧ An S0 n c S2 := by
  have e : P2 = [] := by
    have := h.left
    rw [List.filter_eq_nil_iff.2 (fun s _ => by simp [hl])] at this
    exact this.eq_nil
  subst e
  refine ⟨rfl, h.mid, by simpa using h.core, fun t ht => h.f1 t (by simpa using ht), fun t ht => h.nm t (by simpa using ht), by simpa using h.ids, by simpa using h.few⟩
theorem An.relaid {S0 s1 s2 : List Tm} {n : Int} {t : Tm} (h : An S0 n 4 (s1 ++ t :: s2)) (h1 : n ≤ t.f) (h2 : t.f - n < 16777216) (hl : t.lv = 4) : An S0 n 4 (⟨t.a, t.id, t.f, lvOf n t.f⟩ :: (s1 ++ s2)) ∧
    ((⟨t.a, t.id, t.f, lvOf n t.f⟩ :: (s1 ++ s2)).filter fun s => s.lv == 4).length + 1 = ((s1 ++ t :: s2).filter fun s => s.lv == 4).length := by
  have pp : (s1 ++ t :: s2).Perm (t :: (s1 ++ s2)) := List.perm_middle
  have hm : ∀ s ∈ (⟨t.a, t.id, t.f, lvOf n t.f⟩ :: (s1 ++ s2) : List Tm), ∃ s' ∈ s1 ++ t :: s2, s'.f = s.f ∧ s'.id = s.id := fun s hs => by
    rcases List.mem_cons.1 hs with rfl | hs
    · exact ⟨t, by simp, rfl, rfl⟩
    · exact ⟨s, pp.mem_iff.2 (List.mem_cons_of_mem _ hs), rfl, rfl⟩
  obtain ⟨m1, m2⟩ := laid_mid (c := 4) h1 t.a t.id h2
  refine ⟨⟨fun s hs => ?_, ?_, fun s hs => ?_, fun s hs => ?_, ?_, ?_⟩, ?_⟩
  · rcases List.mem_cons.1 hs with rfl | hs
    · exact m1
    · exact h.mid s (pp.mem_iff.2 (List.mem_cons_of_mem _ hs))
  · have := pp.symm.map Tm.core
    exact this.trans h.core
  · obtain ⟨s', h3, h4, _⟩ := hm s hs
    rw [← h4]; exact h.f1 s' h3
  · obtain ⟨s', h3, _, h4⟩ := hm s hs
    rw [← h4]; exact h.nm s' h3
  · have := pp.map Tm.id
    exact (this.nodup_iff).1 h.ids
  · have := pp.length_eq
    have h3 := h.few
    simp only [List.length_cons] at this ⊢
    omega
  · rw [List.filter_cons_of_neg (by simp; omega), (pp.filter _).length_eq, List.filter_cons_of_pos (by simp [hl])]
    rfl
set_option maxHeartbeats 8000000 in
theorem anew_x (h : WC O b n M S [] mt sv v L w) (n0 : 0 ≤ n) (n1 : n ≤ 1099511627776) (ha : An S n 1 S) :
    Calls Try.prog 26 #[.pointer (some ⟨b, 0, none⟩)] w fun e w' => e = .returned (.tuple #[]) ∧ ∃ S', Wd O b n M S' [] mt w w' ∧ An S n 4 S' ∧ ∀ t ∈ S', t.lv = 4 → n + 16777216 ≤ t.f := by
  have H0 := Lib.hid (And.intro (Wd.same h) ha)
  clear h ha
  go_enter Try.func26, Try.ntmps26
  go_wp2_with fail
  go_loopw [2] (fun s wr => ∃ (c : Nat) (S1 : List Tm), s = .int .i64 c ∧ 1 ≤ c ∧ c ≤ 4 ∧ Hid (Wd O b n M S1 [] mt w wr ∧ An S n c S1)) (fun s _ => 4 - (intOf s).toNat)
  case atStart => exact ⟨1, S, rfl, by omega, by omega, H0⟩
  case round =>
    obtain ⟨c, S1, rfl, hc1, hc4, HR⟩ := hrel
    by_cases h4 : c < 4
    · obtain ⟨O1, sv1, v1, L1, h1, hO1⟩ := HR.out.1.at_
      have H1 := Lib.hid h1
      have HO1 := Lib.hid hO1
      have HW := Lib.hid (width_x c (by omega))
      have hwp := wd_pos c
      have hz : ((wd c == 0) = false) := by simp; omega
      have c0 := h1.hs.wb.now
      have hmod : n.tmod (wd c) = n % wd c := Int.tmod_eq_emod_of_nonneg n0
      cases hne : (n % wd c != 0) with
      | true =>
        have HN : Hid (An S n (c + 1) S1) := Lib.hid ⟨fun t ht => mid_skip (HR.out.2.mid t ht) fun _ _ _ => .inr (by simpa using hne), HR.out.2.core, HR.out.2.f1, HR.out.2.nm, HR.out.2.ids, HR.out.2.few⟩
        clear h1 hO1
        go_wp2_with fail
        go_quiet ((go_at_call 30; first | exact Calls.quiet_of_same (HW.out _) | exact quiet_more (HW.out _)))
        go_wp2_with fail
        go_roundw
        case rel => exact ⟨c + 1, S1, by simp, by omega, by omega, Lib.hid ⟨⟨⟨O1, sv1, v1, L1, H1.out.drewN _, HO1.out⟩, HR.out.1.fr.trans0 (Fr.drewN O _ _)⟩, HN.out⟩⟩
        case measure => simp [intOf]; omega
      | false =>
        have hk4 : slotN c n < 256 := by have := slot_lt c n; omega
        have HS := Lib.hid (fun w => slot_x b c n h4 n0 (by omega) w)
        have HZ : Hid (n % wd c = 0) := Lib.hid (by simpa using hne)
        generalize hk : slotN c n = k at *
        have HK := Lib.hid hk
        have HX := Lib.hid (fun w2 (e : ∃ q p, w2 = (wr.drewN q).drewN p) => show w2.cell? ⟨b, 2 + k, none⟩ = some (.map (sv1 k)) ∧ w2.frozen? ⟨b, 2 + k, none⟩ = false ∧ WC O1 b n M S1 [] mt sv1 v1 L1 w2 ∧ Fr O w w2 from by
          obtain ⟨q, p, rfl⟩ := e
          exact ⟨h1.hs.wb.slot hk4, h1.hs.wb.free _, (h1.drewN q).drewN p, (HR.out.1.fr.trans0 (Fr.drewN O _ _)).trans0 (Fr.drewN O _ _)⟩)
        clear hk h1 hO1
        cases hsv : sv1 k with
        | none =>
          rw [hsv] at HX
          go_wp2_with fail
          go_quiet ((go_at_call 30; first | exact Calls.quiet_of_same (HW.out _) | exact quiet_more (HW.out _)))
          go_wp2_with (go_at_call 24; refine (HS.out _).mono ?_; rintro e w2 ⟨rfl, q, hw2⟩; obtain ⟨d1, d2, d3, d4⟩ := HX.out w2 ⟨_, _, hw2⟩; have D3 := Lib.hid d3; have D4 := Lib.hid d4; have hr := rng_nil; clear hw2 d3 d4)
          go_loopw [] (fun wr2 => wr2 = (w2.setCell ⟨b, 2 + k, none⟩ (.map none)).alloc (.mapIter none 0 #[] 0)) (fun _ => 0)
          case atStart => rfl
          case round =>
            have hnew : wr.heap[w2.heap.size]? = some (.mapIter none 0 #[] 0) := by
              have := newOf (w2.setCell ⟨b, 2 + k, none⟩ (.map none)) (.mapIter none 0 #[] 0)
              rw [hrel]
              rwa [World.size_setCell] at this
            have hx := fun ty => nxt_nil hnew ty
            have HWX := Lib.hid hrel
            clear hnew hrel
            go_wp2_with fail
            have HN : Hid (Wd O b n M S1 [] mt w wr ∧ An S n (c + 1) S1) := Lib.hid (by
              have e := HWX.out
              have hcl := D3.out.clear_slot hk4
              have hno := D3.out.sn k hk4 hsv
              have e1 : (S1.filter fun s => s.no != k) = S1 := List.filter_eq_self.2 fun s hs => by simpa using hno s hs
              have e2 : (S1.filter fun s => s.no == k) = [] := List.filter_eq_nil_iff.2 fun s hs => by simpa using hno s hs
              rw [e1, e2] at hcl
              have hb : Below (w2.setCell ⟨b, 2 + k, none⟩ (.map none)).heap.size (w2.setCell ⟨b, 2 + k, none⟩ (.map none)) wr := by rw [e]; exact (Below.refl _ _).alloc (Nat.le_refl _) _
              have hsz : w.heap.size ≤ w2.heap.size := D4.out.size
              have fr : Fr O1 w2 wr := by rw [e]; exact ((Fr.refl O1 w2).set D3.out.hs.ob (2 + k) (.map none)).alloc _
              refine ⟨⟨⟨O1, _, v1, L1, hcl.below hb, HO1.out⟩, D4.out.trans fr fun i hi ho => (HO1.out i ho).elim id fun e => by omega⟩, ⟨fun t ht => mid_skip (HR.out.2.mid t ht) fun e3 _ _ => .inl ?_, HR.out.2.core, HR.out.2.f1, HR.out.2.nm, HR.out.2.ids, HR.out.2.few⟩⟩
              have := hno t ht
              unfold Tm.no at this
              rw [e3] at this
              rw [HK.out]
              exact this)
            go_roundw
            case rel => exact ⟨c + 1, S1, by simp, by omega, by omega, HN⟩
            case measure => simp [intOf]; omega
        | some m0 =>
          have HJ := Lib.hid (fun w2 (g : WC O1 b n M S1 [] mt sv1 v1 L1 w2) => show JAt (w2.setCell ⟨b, 2 + k, none⟩ (.map none)) m0 ((S1.filter fun s => s.no == k).map Tm.kv) from (g.sl k m0 hk4 hsv).block (set_far (g.kinds.2.2.2 (g.sl k m0 hk4 hsv)).1 _ _))
          have HSt := Lib.hid (HR.out.2.start hc1 h4 HZ.out HK.out)
          have HP0 : Hid (((S1.filter fun s => s.no == k).map Tm.id).Nodup) := Lib.hid ((List.filter_sublist.map Tm.id).nodup HR.out.2.ids)
          have HM0 : Hid (m0 ≠ mt ∧ ∀ i, i < 256 → upS sv1 k none i ≠ some m0) := Lib.hid ⟨fun e => H1.out.ne k hk4 (by rw [hsv, e]), fun i hi e => by
            unfold upS at e
            by_cases c1 : i = k
            · rw [if_pos c1] at e; cases e
            · rw [if_neg c1] at e; exact c1 (H1.out.inj i k m0 hi hk4 e hsv)⟩
          rw [hsv] at HX
          generalize hP0 : (S1.filter fun s => s.no == k) = P0 at HJ HSt HP0
          have HPE := Lib.hid hP0
          generalize hKK : P0.map Tm.kv = K at HJ HSt
          have HKE := Lib.hid hKK
          clear hsv hP0 hKK
          go_wp2_with fail
          go_quiet ((go_at_call 30; first | exact Calls.quiet_of_same (HW.out _) | exact quiet_more (HW.out _)))
          go_wp2_with (first
            | (go_at_call 24; refine (HS.out _).mono ?_; rintro e w2 ⟨rfl, q, hw2⟩; obtain ⟨d1, d2, d3, d4⟩ := HX.out w2 ⟨_, _, hw2⟩; have D3 := Lib.hid d3; have D4 := Lib.hid d4; clear hw2 d3 d4)
            | (at_range; refine wpList_range_ent rfl (w2.setCell ⟨b, 2 + k, none⟩ (.map none)) rfl (.tmp 32) rfl m0 K rfl (HJ.out w2 D3.out) ?_; intro w3 hit hg hsz; have HG0 := Lib.hid hg; generalize hrr : (w2.setCell ⟨b, 2 + k, none⟩ (.map none)).heap.size = r at hit hsz ⊢; have HRR := Lib.hid hrr; clear hrr; have HIT := Lib.hid hit; have HG := Lib.hid hg; have HSZ := Lib.hid hsz; clear hit hg hsz))
          go_frame
          go_loopw [] (fun wx => ∃ (lf : Int → Bool) (cnt : Nat) (O2 : Nat → Prop) (S2 P2 : List Tm) (sv2 : Nat → Option Nat) (v2 : Value) (L2 : List Hd), Hid (Jt wx m0 r K lf cnt ∧ WC O2 b n M S2 P2 mt sv2 v2 L2 wx ∧ (∀ i, O2 i → (O1 i ∧ i ≠ m0) ∨ w3.heap.size ≤ i) ∧ Fr (fun i => (O1 i ∧ i ≠ m0) ∨ i = r) w3 wx ∧ An2 S n (c + 1) S2 P2 P0 lf)) (fun wx => wx.rangeLeft m0 r)
          case atStart =>
            have hb : Below (w2.setCell ⟨b, 2 + k, none⟩ (.map none)).heap.size (w2.setCell ⟨b, 2 + k, none⟩ (.map none)) w3 := (Below.refl _ _).grown HG.out (Nat.le_refl _) fun j hj => by cases hj
            have hcl := (D3.out.clear_slot hk4).below hb
            rw [HPE.out] at hcl
            have hit := HIT.out
            refine ⟨_, _, _, _, _, _, _, _, Lib.hid ⟨hit, hcl.less hit.map HM0.out.1 HM0.out.2, fun i hi => .inl hi, Fr.refl _ _, HSt.out⟩⟩
          case round =>
            obtain ⟨lf, cnt, O2, S2, P2, sv2, v2, L2, HI⟩ := hrel
            go_wp2_with (at_next; refine wpList_next_ent rfl _ rfl (.tmp 33) rfl m0 r cnt _ lf rfl HI.out.1 ?_ ?_)
            · intro hl0
              have HL0 := Lib.hid hl0
              clear hl0
              have HN : Hid (Wd O b n M S2 [] mt w wr ∧ An S n (c + 1) S2) := Lib.hid (by
                obtain ⟨h1, h2, h3, h4', h5⟩ := HI.out
                obtain ⟨e, h6⟩ := h5.over HL0.out
                subst e
                have hsz : w.heap.size ≤ w2.heap.size := D4.out.size
                have hb : Below (w2.setCell ⟨b, 2 + k, none⟩ (.map none)).heap.size (w2.setCell ⟨b, 2 + k, none⟩ (.map none)) w3 := (Below.refl _ _).grown HG0.out (Nat.le_refl _) fun j hj => by cases hj
                have hs3 : w2.heap.size ≤ w3.heap.size := by have := hb.size; rwa [World.size_setCell] at this
                have fr : Fr O1 w2 w3 := ((Fr.refl O1 w2).set D3.out.hs.ob (2 + k) (.map none)).trans0 (Fr.of_below hb)
                have fr2 : Fr O1 w2 wr := fr.trans h4' fun i hi e => e.elim (fun e => e.1) fun e => by have := HRR.out; rw [World.size_setCell] at this; omega
                refine ⟨⟨⟨O2, sv2, v2, L2, h2, fun i hi => ?_⟩, D4.out.trans fr2 fun i hi ho => (HO1.out i ho).elim id fun e => by omega⟩, h6⟩
                rcases h3 i hi with e | e
                · exact HO1.out i e.1
                · exact .inr (by omega))
              clear HI HL0
              go_wp2_with fail
              go_roundw
              case rel => exact ⟨c + 1, S2, by simp, by omega, by omega, HN⟩
              case measure => simp [intOf]; omega
            · intro nn ad w5 cnt' hm hl hit hlt hgr hsz hen
              rw [← HKE.out] at hm
              obtain ⟨t, ht, e⟩ := List.mem_map.1 hm
              have e1 : t.id = nn := congrArg Prod.fst e
              have e2 : ptrV t.a = ad := congrArg Prod.snd e
              subst e1 e2
              have hr3 : r < w3.heap.size := by have := HSZ.out; have := HRR.out; omega
              have hm3 : m0 < w3.heap.size := by
                have := HIT.out.map.lt
                exact this
              have hO2 : ¬ O2 m0 ∧ ¬ O2 r := by
                refine ⟨fun ho => ?_, fun ho => ?_⟩
                · rcases HI.out.2.2.1 m0 ho with e | e
                  · exact e.2 rfl
                  · omega
                · rcases HI.out.2.2.1 r ho with e | e
                  · have := D3.out.lt r e.1
                    have := HRR.out
                    rw [World.size_setCell] at this
                    omega
                  · omega
              obtain ⟨p1, a2⟩ := HI.out.2.2.2.2.step HP0.out ht hl
              have h5 : WC O2 b n M S2 (t :: P0.filter fun s => lf s.id && !(s.id == t.id)) mt sv2 v2 L2 w5 := (HI.out.2.1.permP p1.symm).other hgr.size fun i hi => hgr.block i (HI.out.2.1.lt i hi) (fun e => hO2.2 (by injection e with e; rw [← e]; exact hi))
              have due := HI.out.2.2.2.2.due t ht
              have mem2 : t ∈ S2 ++ P2 := List.mem_append_right _ (p1.mem_iff.2 List.mem_cons_self)
              have HLay := Lib.hid (lay_x h5 due.1 n0 (HI.out.2.2.2.2.f1 t mem2) (ids_hid (((((List.Perm.refl S2).append p1).map Tm.id).nodup_iff).1 HI.out.2.2.2.2.ids)) (HI.out.2.2.2.2.nm t mem2) (by have := HI.out.2.2.2.2.few; rw [List.length_append] at this; omega))
              have HR5 : Hid (∀ w6, Wd O2 b n M (⟨t.a, t.id, t.f, lvOf n t.f⟩ :: S2) (P0.filter fun s => lf s.id && !(s.id == t.id)) mt w5 w6 →
                  (∃ (lf : Int → Bool) (cnt : Nat) (O2 : Nat → Prop) (S2 P2 : List Tm) (sv2 : Nat → Option Nat) (v2 : Value) (L2 : List Hd), Hid (Jt w6 m0 r K lf cnt ∧ WC O2 b n M S2 P2 mt sv2 v2 L2 w6 ∧ (∀ i, O2 i → (O1 i ∧ i ≠ m0) ∨ w3.heap.size ≤ i) ∧ Fr (fun i => (O1 i ∧ i ≠ m0) ∨ i = r) w3 w6 ∧ An2 S n (c + 1) S2 P2 P0 lf)) ∧ w6.rangeLeft m0 r < wr.rangeLeft m0 r) := Lib.hid fun w6 hd => by
                obtain ⟨⟨O3, sv3, v3, L3, g1, g2⟩, g3⟩ := hd
                have hs5 := HI.out.2.2.2.1.size
                have hit6 : Jt w6 m0 r K (fun z => lf z && !(z == t.id)) cnt' := hit.block (g3.block m0 (by omega) hO2.1) (g3.block r (by omega) hO2.2)
                have f5 : Fr (fun i => (O1 i ∧ i ≠ m0) ∨ i = r) w3 w5 := ⟨hgr.os.trans HI.out.2.2.2.1.os, hgr.tape.trans HI.out.2.2.2.1.tape, hgr.output.trans HI.out.2.2.2.1.output, Nat.le_trans hs5 hgr.size, fun i hi hn => (hgr.block i (by omega) (fun e => hn (.inr (by injection e)))).trans (HI.out.2.2.2.1.block i hi hn)⟩
                refine ⟨⟨_, _, O3, _, _, sv3, v3, L3, Lib.hid ⟨hit6, g1, fun i hi => ?_, f5.trans g3 fun i hi ho => ?_, a2⟩⟩, ?_⟩
                · rcases g2 i hi with e | e
                  · exact HI.out.2.2.1 i e
                  · exact .inr (by omega)
                · rcases HI.out.2.2.1 i ho with e | e
                  · exact .inl e
                  · omega
                · rw [hit6.left_eq, HI.out.1.left_eq]; exact hlt
              clear hm hl hit hlt hgr hsz p1 a2 h5 due mem2 hO2 ht e
              go_wp2_with (go_at_call 22; refine HLay.out.mono ?_; rintro e w6 ⟨rfl, hd⟩; have HD := Lib.hid hd; clear hd)
              go_roundw
              case rel => exact (HR5.out _ HD.out).1
              case measure => exact (HR5.out _ HD.out).2
    · have : c = 4 := by omega
      subst this
      have H4 := Lib.hid HR.out
      clear HR
      go_wp2_with fail
      go_loopg [] (S1.filter fun s => s.lv == 4).length (fun gf wx => ∃ S2 : List Tm, Hid (Wd O b n M S2 [] mt w wx ∧ An S n 4 S2 ∧ (S2.filter fun s => s.lv == 4).length ≤ gf))
      case atStart => exact ⟨S1, Lib.hid ⟨H4.out.1, H4.out.2, Nat.le_refl _⟩⟩
      case round =>
        obtain ⟨S2, HI⟩ := hrel
        obtain ⟨O2, sv2, v2, L2, h2, hO2⟩ := HI.out.1.at_
        have HO2 := Lib.hid hO2
        obtain ⟨A, cc, rfl⟩ := own_slice h2.hs.row
        have H2 := Lib.hid h2
        have cl := h2.hs.wb.list
        have few := h2.hs.few
        rcases Nat.eq_zero_or_pos L2.length with hL0 | hL0
        · rw [hL0] at cl
          clear h2 hO2 few
          go_wp2_with fail
          go_quiet (fail)
          go_wp2_with fail
          go_end0
          refine ⟨rfl, S2, ⟨⟨O2, sv2, _, L2, H2.out.drewN _, fun k hk => ?_⟩, HI.out.1.fr.trans0 (Fr.drewN O _ _)⟩, HI.out.2.1, fun t ht e => ?_⟩
          · exact HO2.out k hk
          · have : t.hd ∈ L2 := H2.out.perm.mem_iff.2 (List.mem_map.2 ⟨t, List.mem_filter.2 ⟨ht, by simp [e]⟩, rfl⟩)
            rw [List.eq_nil_of_length_eq_zero hL0] at this
            simp at this
        · obtain ⟨x, hx⟩ := at_some hL0
          obtain ⟨g, cap, hv, _, _, hc, _⟩ := h2.hs.form hL0
          injection hv with e1 _ e3
          subst e1 e3
          have c0 := h2.hs.wb.now
          obtain ⟨a2, t, ht, hl, rfl⟩ := h2.first4 hx
          have cg : wr.cell? ⟨g, 0, none⟩ = some (ptrV t.a) := hc 0 _ hx
          have x1 : wr.cell? ⟨t.a, 1, none⟩ = some (.int .i64 t.f) := (h2.hs.hd 0 _ hx).cells.2.1
          have hm := HI.out.2.1.mid t ht
          have b1 : n ≤ t.f := by have := hm.2.2.1 hl; omega
          have b2 : t.f ≤ 4398046511104 := HI.out.2.1.f1 t ht
          have HW := Lib.hid (show ∀ w, Calls Try.prog 30 #[.int .i64 4] w fun e w' => e = .returned (.int .i64 16777216) ∧ w' = w from width_x 4 (by omega))
          cases hd : decide (t.f - n < 16777216) with
          | false =>
            have HA := Lib.hid a2
            clear h2 hO2 hc hx hm a2 ht
            go_wp2_with fail
            go_quiet ((go_at_call 30; first | exact Calls.quiet_of_same (HW.out _) | exact quiet_more (HW.out _)))
            go_wp2_with fail
            go_end0
            refine ⟨rfl, S2, ⟨⟨O2, sv2, _, L2, H2.out.drewN _, HO2.out⟩, HI.out.1.fr.trans0 (Fr.drewN O _ _)⟩, HI.out.2.1, fun s hs e => ?_⟩
            have : t.f ≤ s.f := HA.out s hs e
            have := of_decide_eq_false hd
            omega
          | true =>
            obtain ⟨s1, s2, rfl⟩ := List.append_of_mem ht
            obtain ⟨r1, r2⟩ := HI.out.2.1.relaid b1 (of_decide_eq_true hd) hl
            have HRe := Lib.hid (And.intro r1 r2)
            have hps := (List.perm_middle (a := t) (l₁ := s1) (l₂ := s2))
            have h3 := h2.permS hps.symm
            have mt' : t ∈ t :: (s1 ++ s2) ++ ([] : List Tm) := by simp
            have HPop := Lib.hid (fun q => (hpop_x ((h3.drewN q).hsp (h3.ot t mt')) h3.ord hx))
            have HFar := Lib.hid (fun q (wx : World) (v' : Value) (L' : List Hd) (p : Int) hs fr hp ho tb => (h3.drewN q).far_off (w' := wx) (v' := v') (L' := L') (p := p) hl hs fr hp ho tb)
            have HLay : Hid (∀ O3 sv3 v3 L3 wx, WC O3 b n M (s1 ++ s2) [t] mt sv3 v3 L3 wx → Calls Try.prog 22 #[.pointer (some ⟨b, 0, none⟩), ptrV t.a] wx fun e w' => e = .returned (.tuple #[]) ∧ Wd O3 b n M (⟨t.a, t.id, t.f, lvOf n t.f⟩ :: (s1 ++ s2)) [] mt wx w') := Lib.hid fun O3 sv3 v3 L3 wx g =>
              lay_x g b1 n0 b2 (ids_hid (P := []) (((hps.map Tm.id).nodup_iff).1 HI.out.2.1.ids |> fun e => (((List.perm_middle (a := t) (l₁ := s1 ++ s2) (l₂ := [])).map Tm.id).nodup_iff).2 (by simpa using e))) (HI.out.2.1.nm t ht) (by have := HI.out.2.1.few; rw [hps.length_eq, List.length_cons] at this; omega)
            have HSub := Lib.hid (h3.ohp (h3.ot t mt'))
            clear h2 hO2 hc hx hm a2 h3 r1 r2 hps mt' ht
            go_wp2_with fail
            go_quiet ((go_at_call 30; first | exact Calls.quiet_of_same (HW.out _) | exact quiet_more (HW.out _)))
            go_wp2_with (first
              | (go_at_call 35; refine (HPop.out _).mono ?_; rintro e w3 ⟨rfl, v3, L3, p1, p2, p3, p4, p, p5⟩; have H5 := Lib.hid (And.intro (HFar.out _ w3 v3 L3 p p1 p2 p3 p4 p5) p2); clear p1 p2 p3 p4 p5)
              | (go_at_call 22; refine (HLay.out _ _ _ _ _ H5.out.1).mono ?_; rintro e w6 ⟨rfl, hd2⟩; have HD := Lib.hid hd2; clear hd2))
            have HN : Hid (Wd O b n M (⟨t.a, t.id, t.f, lvOf n t.f⟩ :: (s1 ++ s2)) [] mt w w6) := Lib.hid (Wd.next (fun i hi => ?_) ((HI.out.1.fr.trans0 (Fr.drewN O _ _)).trans H5.out.2 fun i hi ho => ?_) HD.out)
            · go_roundg ((⟨t.a, t.id, t.f, lvOf n t.f⟩ :: (s1 ++ s2) : List Tm).filter fun s => s.lv == 4).length
              case measure => have := HRe.out.2; have := HI.out.2.2; omega
              case rel => exact ⟨_, Lib.hid ⟨HN.out, HRe.out.1, Nat.le_refl _⟩⟩
            · exact HO2.out i hi
            · exact (HO2.out i (HSub.out i ho)).elim id fun e => by omega
end
end Go.Proofs.Ytmmghdnlppjgbaa
