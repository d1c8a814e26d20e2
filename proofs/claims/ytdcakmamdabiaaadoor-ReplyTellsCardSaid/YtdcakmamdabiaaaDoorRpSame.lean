/-
  The walks of few, of the sameness of texts and of replies.
-/
import Derived.Test.YtdcakmamdabiaaaDoorRpStrs
namespace Go.Proofs.YtdcakmamdabiaaaDoor
set_option maxRecDepth 100000
open Go.RowKit
def fewL (l : List Txt) : Bool := decide (l.length ≤ 60) && l.all fun t => decide (t.length ≤ 1000)
theorem few_yes {l : List Txt} (h : fewL l = true) : l.length ≤ 60 ∧ ∀ t ∈ l, t.length ≤ 1000 := by
  rw [fewL, Bool.and_eq_true, decide_eq_true_eq] at h
  exact ⟨h.1, fun t ht => of_decide_eq_true ((List.all_eq_true.1 h.2) t ht)⟩
set_option maxHeartbeats 1000000 in
theorem few_x (v : Value) (l : List Txt) (w : World) (hs : TxtsAt w v l) : Calls Tryd.prog 5 #[v] w fun e w' => e = .returned (.bool (fewL l)) ∧ w = w' := by
  obtain ⟨A, c, rfl, _, _, hc⟩ := hs
  have HS := Lib.hid hc
  clear hc
  go_enter Tryd.func5, Tryd.ntmps5
  go_wp2_with fail
  go_loop [3] (fun i => ∃ k : Nat, k ≤ l.length ∧ k ≤ 60 ∧ i = .int .i64 k ∧ Hid (∀ t ∈ l.take k, t.length ≤ 1000)) (fun i => l.length - (intOf i).toNat)
  case atStart => exact ⟨0, Nat.zero_le _, Nat.zero_le _, rfl, Lib.hid (by simp)⟩
  case round =>
    obtain ⟨k, hk, hk6, rfl, HJ⟩ := hrel
    by_cases hlt : k < l.length
    · obtain ⟨t, ht⟩ : ∃ t, l[k]? = some t := ⟨_, List.getElem?_eq_getElem hlt⟩
      obtain ⟨ad, rfl, hab, hcl⟩ := HS.out k t ht
      have hms := mkS_size t
      by_cases h60 : 60 ≤ k
      · have d1 : decide ((60 : Int) ≤ (k : Int)) = true := decide_eq_true (by omega)
        have HE := Lib.hid (show fewL l = false by rw [fewL, decide_eq_false (by omega)]; rfl)
        clear ht
        go_wp2_with fail
        go_ret
        exact ⟨ret_bool HE.out.symm, rfl⟩
      · have d1 : decide ((60 : Int) ≤ (k : Int)) = false := decide_eq_false (by omega)
        by_cases h10 : 1000 < t.length
        · have d2 : decide ((1000 : Int) < (t.length : Int)) = true := decide_eq_true (by omega)
          have HE := Lib.hid (show fewL l = false by
            rw [fewL, show (l.all fun t => decide (t.length ≤ 1000)) = false from List.all_eq_false.2 ⟨t, List.mem_of_getElem? ht, by simp; omega⟩, Bool.and_false])
          clear ht
          go_wp2_with fail
          go_ret
          exact ⟨ret_bool HE.out.symm, rfl⟩
        · have d2 : decide ((1000 : Int) < (t.length : Int)) = false := decide_eq_false (by omega)
          have HJ1 := Lib.hid (show ∀ u ∈ l.take (k + 1), u.length ≤ 1000 from fun u hu => by
            obtain ⟨i, hi⟩ := List.getElem?_of_mem hu
            rw [List.getElem?_take] at hi
            split at hi
            · by_cases e : i = k
              · subst e
                rw [ht] at hi
                injection hi with hi
                rw [← hi]; omega
              · exact HJ.out u (List.mem_of_getElem? (i := i) (by rw [List.getElem?_take, if_pos (by omega), hi]))
            · cases hi)
          clear ht
          go_wp2_with fail
          go_round
          case rel => exact ⟨k + 1, by omega, by omega, by go_num, HJ1⟩
          case measure => simp [intOf]; omega
    · have HE := Lib.hid (show fewL l = true by
        have h := HJ.out
        rw [List.take_of_length_le (by omega)] at h
        rw [fewL, decide_eq_true (by omega), Bool.true_and]
        exact List.all_eq_true.2 fun t ht => decide_eq_true (h t ht))
      go_wp2_with fail
      go_ret
      exact ⟨ret_bool HE.out.symm, rfl⟩
theorem same_no {ps qs : List Txt} {k : Nat} {p q : Txt} (h : ps[k]? = some p) (h' : qs[k]? = some q) (hne : (p == q) = false) : (ps == qs) = false :=
  beq_eq_false_iff_ne.2 fun e => by
    rw [e, h'] at h
    injection h with h
    rw [h] at hne
    simp at hne
theorem take_more {ps qs : List Txt} {k : Nat} {p : Txt} (h : ps[k]? = some p) (h' : qs[k]? = some p) (ht : ps.take k = qs.take k) : ps.take (k + 1) = qs.take (k + 1) := by
  obtain ⟨hk, e⟩ := List.getElem?_eq_some_iff.1 h
  obtain ⟨hk', e'⟩ := List.getElem?_eq_some_iff.1 h'
  rw [List.take_succ_eq_append_getElem hk, List.take_succ_eq_append_getElem hk', ht, e, e']
set_option maxHeartbeats 1000000 in
theorem same_x (v u : Value) (ps qs : List Txt) (w : World) (hs : TxtsAt w v ps) (hs' : TxtsAt w u qs) (hn : ps.length ≤ 1000000000) :
    Calls Tryd.prog 12 #[v, u] w fun e w' => e = .returned (.bool (ps == qs)) ∧ ∃ m, w' = w.drewN m := by
  obtain ⟨A, c, rfl, _, _, hc⟩ := hs
  obtain ⟨A', c', rfl, _, _, hc'⟩ := hs'
  have HS := Lib.hid hc
  have HS' := Lib.hid hc'
  clear hc hc'
  by_cases hnn : ps.length = qs.length
  · have HN := Lib.hid hnn
    rw [← hnn]
    clear hnn
    go_enter Tryd.func12, Tryd.ntmps12
    go_wp2_with fail
    go_loopw [5] (fun i wr => ∃ k : Nat, k ≤ ps.length ∧ i = .int .i64 k ∧ ps.take k = qs.take k ∧ ∃ m, wr = w.drewN m) (fun i _ => ps.length - (intOf i).toNat)
    case atStart => exact ⟨0, Nat.zero_le _, rfl, by simp, 0, rfl⟩
    case round =>
      obtain ⟨k, hk, rfl, ht, m, rfl⟩ := hrel
      have HT := Lib.hid ht
      clear ht
      by_cases hlt : k < ps.length
      · obtain ⟨p, hpk⟩ : ∃ p, ps[k]? = some p := ⟨_, List.getElem?_eq_getElem hlt⟩
        obtain ⟨q, hqk⟩ : ∃ q, qs[k]? = some q := ⟨_, List.getElem?_eq_getElem (by have := HN.out; omega)⟩
        obtain ⟨ad, rfl, hab, hcl⟩ := HS.out k p hpk
        obtain ⟨ad', rfl, hab', hcl'⟩ := HS'.out k q hqk
        have HP := Lib.hid hpk
        have HQ := Lib.hid hqk
        have e1 := mkS_eqb p q
        clear hpk hqk hab hab'
        cases hpq : (p == q)
        · rw [hpq] at e1
          go_wp2_with fail
          go_quiet (fail)
          go_wp2_with fail
          go_ret
          exact ⟨ret_bool (same_no HP.out HQ.out hpq).symm, _, World.drewN_drewN _ _ _⟩
        · rw [hpq] at e1
          go_wp2_with fail
          go_quiet (fail)
          go_wp2_with fail
          go_roundw
          case rel => exact ⟨k + 1, by omega, by go_num, take_more HP.out (by rw [HQ.out, eq_of_beq hpq]) HT.out, _, rfl⟩
          case measure => simp [intOf]; omega
      · go_wp2_with fail
        go_ret
        have e := HT.out
        rw [List.take_of_length_le (by omega), List.take_of_length_le (by have := HN.out; omega)] at e
        exact ⟨ret_bool (by rw [e]; simp), _, rfl⟩
  · have hb : ((ps.length : Int) != (qs.length : Int)) = true := by rw [bne_iff_ne]; omega
    have HNL := Lib.hid hnn
    clear hnn
    go_enter Tryd.func12, Tryd.ntmps12
    go_wp2_with fail
    go_ret
    exact ⟨ret_bool (beq_eq_false_iff_ne.2 fun e => HNL.out (by rw [e])).symm, 0, rfl⟩
set_option maxHeartbeats 1000000 in
theorem equal_x (v u : Value) (ps qs : List Txt) (w : World) (hs : TxtsAt w v ps) (hs' : TxtsAt w u qs) (hn : ps.length ≤ 1000000000) :
    Calls Tryd.prog 29 #[v, u] w fun e w' => e = .returned (.bool (ps == qs)) ∧ ∃ m, w' = w.drewN m := by
  obtain ⟨A, c, rfl, _, _, hc⟩ := hs
  obtain ⟨A', c', rfl, _, _, hc'⟩ := hs'
  have HS := Lib.hid hc
  have HS' := Lib.hid hc'
  clear hc hc'
  by_cases hnn : ps.length = qs.length
  · have HN := Lib.hid hnn
    rw [← hnn]
    clear hnn
    go_enter Tryd.func29, Tryd.ntmps29
    go_wp2_with fail
    go_loopw [13] (fun i wr => ∃ k : Nat, k ≤ ps.length ∧ i = .int .i64 k ∧ ps.take k = qs.take k ∧ ∃ m, wr = w.drewN m) (fun i _ => ps.length - (intOf i).toNat)
    case atStart => exact ⟨0, Nat.zero_le _, rfl, by simp, 0, rfl⟩
    case round =>
      obtain ⟨k, hk, rfl, ht, m, rfl⟩ := hrel
      have HT := Lib.hid ht
      clear ht
      by_cases hlt : k < ps.length
      · obtain ⟨p, hpk⟩ : ∃ p, ps[k]? = some p := ⟨_, List.getElem?_eq_getElem hlt⟩
        obtain ⟨q, hqk⟩ : ∃ q, qs[k]? = some q := ⟨_, List.getElem?_eq_getElem (by have := HN.out; omega)⟩
        obtain ⟨ad, rfl, hab, hcl⟩ := HS.out k p hpk
        obtain ⟨ad', rfl, hab', hcl'⟩ := HS'.out k q hqk
        have HP := Lib.hid hpk
        have HQ := Lib.hid hqk
        have e1 := mkS_eqb p q
        clear hpk hqk hab hab'
        cases hpq : (p == q)
        · rw [hpq] at e1
          go_wp2_with fail
          go_quiet (fail)
          go_wp2_with fail
          go_ret
          exact ⟨ret_bool (same_no HP.out HQ.out hpq).symm, _, World.drewN_drewN _ _ _⟩
        · rw [hpq] at e1
          go_wp2_with fail
          go_quiet (fail)
          go_wp2_with fail
          go_roundw
          case rel => exact ⟨k + 1, by omega, by go_num, take_more HP.out (by rw [HQ.out, eq_of_beq hpq]) HT.out, _, rfl⟩
          case measure => simp [intOf]; omega
      · go_wp2_with fail
        go_ret
        have e := HT.out
        rw [List.take_of_length_le (by omega), List.take_of_length_le (by have := HN.out; omega)] at e
        exact ⟨ret_bool (by rw [e]; simp), _, rfl⟩
  · have hb : ((ps.length : Int) != (qs.length : Int)) = true := by rw [bne_iff_ne]; omega
    have HNL := Lib.hid hnn
    clear hnn
    go_enter Tryd.func29, Tryd.ntmps29
    go_wp2_with fail
    go_ret
    exact ⟨ret_bool (beq_eq_false_iff_ne.2 fun e => HNL.out (by rw [e])).symm, 0, rfl⟩
def sameR (a b : Rp) : Bool := a.code == b.code && a.e == b.e && a.text == b.text
set_option maxHeartbeats 2000000 in
theorem psame_x (a b : Rp) (v u : Value) (w : World) (hv : TxtsAt w v a.text) (hu : TxtsAt w u b.text) (hn : a.text.length ≤ 1000000000) :
    Calls Tryd.prog 10 #[RV a.code a.e v, RV b.code b.e u] w fun x w' => x = .returned (.bool (sameR a b)) ∧ Below w.heap.size w w' := by
  have HV := Lib.hid (show sameR a b = (a.code == b.code && a.e == b.e && a.text == b.text) from rfl)
  have HI := Lib.hid (fun (w' : World) (hb : Below w.heap.size w w') => equal_x v u a.text b.text w' (hv.below hb) (hu.below hb) hn)
  have he : ∀ w, (Op.equalIn 10000 23 (.agg #[.int .i64 a.e.1, .int .i64 a.e.2.1, .int .i64 a.e.2.2]) (.agg #[.int .i64 b.e.1, .int .i64 b.e.2.1, .int .i64 b.e.2.2])).run Tryd.prog w = .ok (a.e == b.e) w := fun w => eqE3 a.e b.e w
  have HB := Lib.hid (below_next (below_box w (.cells #[.int .i64 a.code, .int .i64 a.e.1, .int .i64 a.e.2.1, .int .i64 a.e.2.2, v] 25)) (below_box _ (.cells #[.int .i64 b.code, .int .i64 b.e.1, .int .i64 b.e.2.1, .int .i64 b.e.2.2, u] 25)))
  clear hn
  obtain ⟨A, c, rfl, hcp⟩ := id hv
  obtain ⟨A', c', rfl, hcp'⟩ := id hu
  generalize hqt : (a.text == b.text) = qt at HV HI
  generalize (a.e == b.e) = qe at HV he
  generalize hq0 : (a.code == b.code) = q0 at HV
  clear hqt hv hu hcp hcp'
  cases q0
  · have HE := Lib.hid (show sameR a b = false by rw [HV.out]; rfl)
    go_enter Tryd.func10, Tryd.ntmps10
    go_wp2_with fail
    go_ret
    exact ⟨ret_bool HE.out.symm, HB.out⟩
  · cases qe
    · have HE := Lib.hid (show sameR a b = false by rw [HV.out]; rfl)
      go_enter Tryd.func10, Tryd.ntmps10
      go_wp2_with fail
      go_ret
      exact ⟨ret_bool HE.out.symm, HB.out⟩
    · have HE := Lib.hid (show sameR a b = qt by rw [HV.out]; simp)
      go_enter Tryd.func10, Tryd.ntmps10
      go_wp2_with fail
      refine (HI.out _ HB.out).mono ?_
      rintro x w2 ⟨rfl, m, rfl⟩
      have HB2 := Lib.hid (below_drewN HB.out m)
      go_wp2_with fail
      go_ret
      exact ⟨ret_bool HE.out.symm, HB2.out⟩
set_option maxHeartbeats 2000000 in
theorem rsame_x (a b : Rp) (v u : Value) (w : World) (hv : TxtsAt w v a.text) (hu : TxtsAt w u b.text) (hn : a.text.length ≤ 1000000000) :
    Calls Tryd.prog 11 #[RV a.code a.e v, RV b.code b.e u] w fun x w' => x = .returned (.bool (sameR a b)) ∧ Below w.heap.size w w' := by
  have HV := Lib.hid (show sameR a b = (a.code == b.code && a.e == b.e && a.text == b.text) from rfl)
  have HI := Lib.hid (fun (w' : World) (hb : Below w.heap.size w w') => same_x v u a.text b.text w' (hv.below hb) (hu.below hb) hn)
  have he : ∀ w, (Op.equalIn 10000 23 (.agg #[.int .i64 a.e.1, .int .i64 a.e.2.1, .int .i64 a.e.2.2]) (.agg #[.int .i64 b.e.1, .int .i64 b.e.2.1, .int .i64 b.e.2.2])).run Tryd.prog w = .ok (a.e == b.e) w := fun w => eqE3 a.e b.e w
  have HB := Lib.hid (below_next (below_box w (.cells #[.int .i64 a.code, .int .i64 a.e.1, .int .i64 a.e.2.1, .int .i64 a.e.2.2, v] 25)) (below_box _ (.cells #[.int .i64 b.code, .int .i64 b.e.1, .int .i64 b.e.2.1, .int .i64 b.e.2.2, u] 25)))
  clear hn
  obtain ⟨A, c, rfl, hcp⟩ := id hv
  obtain ⟨A', c', rfl, hcp'⟩ := id hu
  generalize hqt : (a.text == b.text) = qt at HV HI
  generalize (a.e == b.e) = qe at HV he
  generalize hq0 : (a.code == b.code) = q0 at HV
  clear hqt hv hu hcp hcp'
  cases q0
  · have HE := Lib.hid (show sameR a b = false by rw [HV.out]; rfl)
    go_enter Tryd.func11, Tryd.ntmps11
    go_wp2_with fail
    go_ret
    exact ⟨ret_bool HE.out.symm, HB.out⟩
  · cases qe
    · have HE := Lib.hid (show sameR a b = false by rw [HV.out]; rfl)
      go_enter Tryd.func11, Tryd.ntmps11
      go_wp2_with fail
      go_ret
      exact ⟨ret_bool HE.out.symm, HB.out⟩
    · have HE := Lib.hid (show sameR a b = qt by rw [HV.out]; simp)
      go_enter Tryd.func11, Tryd.ntmps11
      go_wp2_with fail
      refine (HI.out _ HB.out).mono ?_
      rintro x w2 ⟨rfl, m, rfl⟩
      have HB2 := Lib.hid (below_drewN HB.out m)
      go_wp2_with fail
      go_ret
      exact ⟨ret_bool HE.out.symm, HB2.out⟩
end Go.Proofs.YtdcakmamdabiaaaDoor
