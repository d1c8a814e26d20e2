/-
  does once more, with what stays behind it; what an act does, for DiskRoom.
-/
import Derived.Test.YtdjgjmbgcjhnpaaDkAct
namespace Go.Proofs.Ytdjgjmbgcjhnpaa
set_option maxRecDepth 100000
open Go.RowKit
set_option maxHeartbeats 4000000 in
theorem does_h {w : World} {B lim b m : Nat} {S : Dk} {F : List Gd} (h : DA w B lim b m S F) {k : Nat} (hi : Inv S k) (hk : k ≤ 1000000) (c : Ac) (hn : c.name.length ≤ 1000000) (hs : c.s.length ≤ 1000000) :
    Calls Try.prog 11 #[.pointer (some ⟨b, 0, none⟩), .agg (acV c)] w fun e w' => e = .returned (.int .i64 ((doD S c).1 : Int)) ∧ Live B b m (doD S c).2 w' ∧ Below B w w' ∧ ∀ j, lim ≤ j ∧ j < w.heap.size → w'.heap[j]? = w.heap[j]? := by
  obtain ⟨kd, n, s, a, q⟩ := c
  have hb0 := below_box w (.cells (acV ⟨kd, n, s, a, q⟩) 33)
  have HD := Lib.hid (h.next hb0)
  have HB := Lib.hid (h.base hb0)
  have HQ := Lib.hid hb0
  have HI := Lib.hid hi
  have HN := Lib.hid (show n.length ≤ 1000000000000 from Nat.le_trans hn (by decide))
  have HN2 := Lib.hid (show n.length ≤ 140737488355328 from Nat.le_trans hn (by decide))
  have HS := Lib.hid (show s.length ≤ 1000000000 from Nat.le_trans hs (by decide))
  have HS2 := Lib.hid (show s.length ≤ 1000000000000 from Nat.le_trans hs (by decide))
  have HC := Lib.hid (show S.chg ≤ 1000000000000 by have := hi.chg; omega)
  have HU := Lib.hid (show usedF S.fs ≤ 1000000000 by have := hi.used; have := hi.room; omega)
  have HL := Lib.hid (show S.fs.length ≤ 1000000 by have := hi.len; omega)
  have HLB := Lib.hid (show B ≤ (w.alloc (.cells (acV ⟨kd, n, s, a, q⟩) 33)).heap.size by have h1 := h.low; have h2 := h.lt; have h3 := h.lim; have h4 := hb0.size; omega)
  clear h hi hb0 hn hs hk
  by_cases e0 : kd = 0
  · subst e0
    have HV := Lib.hid (show doD S ⟨0, n, s, a, q⟩ = appD S n s from rfl)
    go_enter Try.func11, Try.ntmps11
    go_wp2_with fail
    refine (append_x HD.out n s HN.out HS.out HC.out HI.out.room HI.out.used HL.out).mono ?_
    rintro e w1 ⟨rfl, hl, ho, -⟩
    have H1 := Lib.hid hl.live
    have H2 := Lib.hid (HB.out.trans hl.below)
    have H3 := Lib.hid (fun j (hj : lim ≤ j ∧ j < w.heap.size) => ((ho j ⟨hj.1, Nat.lt_of_lt_of_le hj.2 HQ.out.size⟩).trans (HQ.out.block j hj.2) : w1.heap[j]? = w.heap[j]?))
    clear hl ho
    go_wp2_with fail
    go_ret
    exact ⟨by rw [HV.out]; rfl, (by rw [HV.out]; exact H1.out), H2.out, H3.out⟩
  have f0 : (kd == 0) = false := beq_eq_false_iff_ne.2 e0
  by_cases e1 : kd = 1
  · subst e1
    have HV := Lib.hid (show doD S ⟨1, n, s, a, q⟩ = synD S n from rfl)
    go_enter Try.func11, Try.ntmps11
    go_wp2_with fail
    refine (sync_x HD.out n HN2.out HC.out HU.out).mono ?_
    rintro e w1 ⟨rfl, hl, ho⟩
    have H1 := Lib.hid hl.live
    have H2 := Lib.hid (HB.out.trans hl.below)
    have H3 := Lib.hid (fun j (hj : lim ≤ j ∧ j < w.heap.size) => ((ho j ⟨hj.1, Nat.lt_of_lt_of_le hj.2 HQ.out.size⟩).trans (HQ.out.block j hj.2) : w1.heap[j]? = w.heap[j]?))
    clear hl ho
    go_wp2_with fail
    go_ret
    exact ⟨by rw [HV.out]; rfl, (by rw [HV.out]; exact H1.out), H2.out, H3.out⟩
  have f1 : (kd == 1) = false := beq_eq_false_iff_ne.2 e1
  by_cases e2 : kd = 2
  · subst e2
    have HV := Lib.hid (show doD S ⟨2, n, s, a, q⟩ = renD S n s from rfl)
    go_enter Try.func11, Try.ntmps11
    go_wp2_with fail
    refine (rename_x HD.out n s HN2.out HS2.out HC.out HU.out HL.out).mono ?_
    rintro e w1 ⟨rfl, hl, ho⟩
    have H1 := Lib.hid hl.live
    have H2 := Lib.hid (HB.out.trans hl.below)
    have H3 := Lib.hid (fun j (hj : lim ≤ j ∧ j < w.heap.size) => ((ho j ⟨hj.1, Nat.lt_of_lt_of_le hj.2 HQ.out.size⟩).trans (HQ.out.block j hj.2) : w1.heap[j]? = w.heap[j]?))
    clear hl ho
    go_wp2_with fail
    go_ret
    exact ⟨by rw [HV.out]; rfl, (by rw [HV.out]; exact H1.out), H2.out, H3.out⟩
  have f2 : (kd == 2) = false := beq_eq_false_iff_ne.2 e2
  by_cases e3 : kd = 3
  · subst e3
    have HV := Lib.hid (show doD S ⟨3, n, s, a, q⟩ = remD S n from rfl)
    go_enter Try.func11, Try.ntmps11
    go_wp2_with fail
    refine (remove_x HD.out n HN2.out HC.out HU.out).mono ?_
    rintro e w1 ⟨rfl, hl, -, ho⟩
    have H1 := Lib.hid hl.live
    have H2 := Lib.hid (HB.out.trans hl.below)
    have H3 := Lib.hid (fun j (hj : lim ≤ j ∧ j < w.heap.size) => ((ho j ⟨hj.1, Nat.lt_of_lt_of_le hj.2 HQ.out.size⟩).trans (HQ.out.block j hj.2) : w1.heap[j]? = w.heap[j]?))
    clear hl ho
    go_wp2_with fail
    go_ret
    exact ⟨by rw [HV.out]; rfl, (by rw [HV.out]; exact H1.out), H2.out, H3.out⟩
  have f3 : (kd == 3) = false := beq_eq_false_iff_ne.2 e3
  by_cases e4 : kd = 4
  · subst e4
    have HV := Lib.hid (show doD S ⟨4, n, s, a, q⟩ = (0, armD S a q) from rfl)
    go_enter Try.func11, Try.ntmps11
    go_wp2_with fail
    refine (arm_x HD.out a q).mono ?_
    rintro e w1 ⟨rfl, hd, ho⟩
    have H1 := Lib.hid (show Live B b m _ w1 from ⟨_, hd.raise hd.lim (Nat.le_refl _)⟩)
    have H2 := Lib.hid (HB.out.trans (ho.below (Nat.le_refl _) HLB.out))
    have H3 := Lib.hid (fun j (hj : lim ≤ j ∧ j < w.heap.size) => ((ho.block j (Nat.lt_of_lt_of_le hj.2 HQ.out.size) (.inr hj.1)).trans (HQ.out.block j hj.2) : w1.heap[j]? = w.heap[j]?))
    clear hd ho
    go_wp2_with fail
    go_ret
    exact ⟨by rw [HV.out]; rfl, (by rw [HV.out]; exact H1.out), H2.out, H3.out⟩
  have f4 : (kd == 4) = false := beq_eq_false_iff_ne.2 e4
  by_cases e5 : kd = 5
  · subst e5
    have HV := Lib.hid (show doD S ⟨5, n, s, a, q⟩ = (0, crashD S q) from rfl)
    go_enter Try.func11, Try.ntmps11
    go_wp2_with fail
    refine (crash_x HD.out q HU.out).mono ?_
    rintro e w1 ⟨rfl, F', hd, ho⟩
    have H1 := Lib.hid (show Live B b m _ w1 from ⟨_, hd.raise hd.lim (Nat.le_refl _)⟩)
    have H2 := Lib.hid (HB.out.trans (ho.below (Nat.le_refl _) HLB.out))
    have H3 := Lib.hid (fun j (hj : lim ≤ j ∧ j < w.heap.size) => ((ho.block j (Nat.lt_of_lt_of_le hj.2 HQ.out.size) (.inr hj.1)).trans (HQ.out.block j hj.2) : w1.heap[j]? = w.heap[j]?))
    clear hd ho
    go_wp2_with fail
    go_ret
    exact ⟨by rw [HV.out]; rfl, (by rw [HV.out]; exact H1.out), H2.out, H3.out⟩
  have f5 : (kd == 5) = false := beq_eq_false_iff_ne.2 e5
  by_cases e6 : kd = 6
  · subst e6
    have HV := Lib.hid (show doD S ⟨6, n, s, a, q⟩ = (0, startD S) from rfl)
    go_enter Try.func11, Try.ntmps11
    go_wp2_with fail
    refine (start_x HD.out).mono ?_
    rintro e w1 ⟨rfl, hd, -, ho⟩
    have H1 := Lib.hid (show Live B b m _ w1 from ⟨_, hd.raise hd.lim (Nat.le_refl _)⟩)
    have H2 := Lib.hid (HB.out.trans (ho.below (Nat.le_refl _) HLB.out))
    have H3 := Lib.hid (fun j (hj : lim ≤ j ∧ j < w.heap.size) => ((ho.block j (Nat.lt_of_lt_of_le hj.2 HQ.out.size) (.inr hj.1)).trans (HQ.out.block j hj.2) : w1.heap[j]? = w.heap[j]?))
    clear hd ho
    go_wp2_with fail
    go_ret
    exact ⟨by rw [HV.out]; rfl, (by rw [HV.out]; exact H1.out), H2.out, H3.out⟩
  have f6 : (kd == 6) = false := beq_eq_false_iff_ne.2 e6
  have HV := Lib.hid (show doD S ⟨kd, n, s, a, q⟩ = (0, S) by rw [doD, if_neg e0, if_neg e1, if_neg e2, if_neg e3, if_neg e4, if_neg e5, if_neg e6])
  clear e0 e1 e2 e3 e4 e5 e6
  go_enter Try.func11, Try.ntmps11
  go_wp2_with fail
  go_ret
  exact ⟨by rw [HV.out]; rfl, (by rw [HV.out]; exact ⟨F, HD.out.raise HD.out.lim (Nat.le_refl _)⟩), HB.out, fun j hj => HQ.out.block j hj.2⟩
theorem chg_zero {S : Dk} {l1 l2 : List Fl} (h : (chgD S l1 l2).1 = 0) : (chgD S l1 l2).2 = putD (tickD S) l2 := by
  rw [chgD] at h ⊢
  split
  · rename_i hc; rw [if_pos hc] at h; simp at h
  · rfl
theorem chg_or (S : Dk) (l1 l2 : List Fl) : (chgD S l1 l2).1 = 0 ∨ (chgD S l1 l2).1 = 7 := by
  rw [chgD]; split
  · exact .inr rfl
  · exact .inl rfl
theorem do_same {S : Dk} {c : Ac} (h0 : (doD S c).1 ≠ 0) (h7 : (doD S c).1 ≠ 7) : (doD S c).2 = S := by
  have key : ∀ l1 l2, (chgD S l1 l2).1 ≠ 0 → (chgD S l1 l2).1 ≠ 7 → (chgD S l1 l2).2 = S := fun l1 l2 a b => by
    rcases chg_or S l1 l2 with e | e
    · exact absurd e a
    · exact absurd e b
  rw [doD] at h0 h7 ⊢
  repeat' split
  · rw [if_pos (by assumption)] at h0 h7
    rw [appD] at h0 h7 ⊢
    repeat' split
    · rfl
    · rfl
    · rw [if_neg (by assumption), if_neg (by assumption)] at h0 h7; exact key _ _ h0 h7
  · rw [if_neg (by assumption), if_pos (by assumption)] at h0 h7
    rw [synD] at h0 h7 ⊢
    split
    · rfl
    · rw [if_neg (by assumption)] at h0 h7; exact key _ _ h0 h7
  · rw [if_neg (by assumption), if_neg (by assumption), if_pos (by assumption)] at h0 h7
    rw [renD] at h0 h7 ⊢
    repeat' split
    · rfl
    · rfl
    · rw [if_neg (by assumption), if_neg (by assumption)] at h0 h7; exact key _ _ h0 h7
  · rw [if_neg (by assumption), if_neg (by assumption), if_neg (by assumption), if_pos (by assumption)] at h0 h7
    rw [remD] at h0 h7 ⊢
    split
    · rfl
    · rw [if_neg (by assumption)] at h0 h7; exact key _ _ h0 h7
  all_goals exact absurd (by simp_all) h0
theorem do_app {S : Dk} (hu : uniq S.fs) {c : Ac} (hk : c.kind = 0) (h0 : (doD S c).1 = 0) : usedF (doD S c).2.fs = usedF S.fs + c.s.length := by
  rw [doD, if_pos hk] at h0 ⊢
  rw [appD] at h0 ⊢
  by_cases h : readyE S c.name = 0
  · have hn : ¬ readyE S c.name ≠ 0 := by simp [h]
    rw [if_neg hn] at h0 ⊢
    cases h2 : fullB S c.name c.s
    · rw [if_neg (by simp [h2])] at h0 ⊢
      rw [chg_zero h0]
      exact used_add hu _ _
    · rw [if_pos h2] at h0
      simp at h0
  · rw [if_pos h] at h0
    exact absurd h0 h
theorem do_syn {S : Dk} {c : Ac} (hk : c.kind = 1) (h0 : (doD S c).1 = 0) : usedF (doD S c).2.fs = usedF S.fs := by
  rw [doD, if_neg (by omega), if_pos hk] at h0 ⊢
  rw [synD] at h0 ⊢
  by_cases h : findE S c.name = 0
  · have hn : ¬ findE S c.name ≠ 0 := by simp [h]
    rw [if_neg hn] at h0 ⊢
    rw [chg_zero h0]
    exact used_set _ _
  · rw [if_pos h] at h0
    exact absurd h0 h
theorem del_one {l : List Fl} (hu : uniq l) {n : Txt} (hh : hasF l n = true) : usedF (delL l n) + (bytF l n).length = usedF l ∧ (delL l n).length + 1 = l.length := by
  induction l with
  | nil => simp [hasF] at hh
  | cons a r ih =>
    rw [uniq, List.map_cons, List.nodup_cons] at hu
    by_cases hn : a.name = n
    · have h1 : delL r n = r := by
        rw [delL, List.filter_eq_self]
        intro x hx
        rw [bne_iff_ne]
        intro e
        exact hu.1 (by rw [hn, ← e]; exact List.mem_map_of_mem (f := fun f => f.name) hx)
      have h2 : delL (a :: r) n = r := by rw [delL, List.filter_cons_of_neg (by simp [hn])]; exact h1
      have h3 : bytF (a :: r) n = a.byt := by simp [bytF, hn]
      rw [h2, h3, used_cons, List.length_cons]
      omega
    · have hh2 : hasF r n = true := by simpa [hasF, hn] using hh
      have h2 : delL (a :: r) n = a :: delL r n := by rw [delL, List.filter_cons_of_pos (by simp [hn])]; rfl
      have h3 : bytF (a :: r) n = bytF r n := by simp [bytF, hn]
      obtain ⟨i1, i2⟩ := ih hu.2 hh2
      rw [h2, h3, used_cons, used_cons, List.length_cons, List.length_cons]
      omega
theorem do_rem {S : Dk} (hu : uniq S.fs) {c : Ac} (hk : c.kind = 3) (h0 : (doD S c).1 = 0) : usedF (doD S c).2.fs + (readD S c.name).length = usedF S.fs ∧ (doD S c).2.fs.length + 1 = S.fs.length := by
  rw [doD, if_neg (by omega), if_neg (by omega), if_neg (by omega), if_pos hk] at h0 ⊢
  rw [remD] at h0 ⊢
  by_cases h : findE S c.name = 0
  · have hn : ¬ findE S c.name ≠ 0 := by simp [h]
    rw [if_neg hn] at h0 ⊢
    rw [chg_zero h0, readD, if_neg hn]
    exact del_one hu (find_zero h).2
  · rw [if_pos h] at h0
    exact absurd h0 h
end Go.Proofs.Ytdjgjmbgcjhnpaa
