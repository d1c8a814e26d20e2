/-
  The walk of JudgeAlarms.
-/
import Derived.Test.YtcedhgihebollaaGreatDoorJgFits
import Derived.Test.YtcedhgihebollaaGreatDoorMaJgE
import Derived.Test.YtcedhgihebollaaGreatDoorJgTime
import Derived.Test.YtcedhgihebollaaGreatDoorMaJgM
namespace Go.Proofs.YtcedhgihebollaaGreatDoor.E.J
set_option maxRecDepth 100000
open Go.RowKit Go.Shelf
set_option linter.unusedSimpArgs false
theorem rep_told {x : EM} {no : Txt} {k : KJ} {f : Bool} {t : ST} (hk : kindB4 k) (h : 0 ≤ t.told ∧ t.told ≤ 7) : 0 ≤ (repT x no k f t).told ∧ (repT x no k f t).told ≤ 7 := by
  by_cases hm : madeJ x no k f t = true
  · have hb := made_has hm
    rw [(rep_yes hm).1]
    show 0 ≤ t.told + k.bit ∧ t.told + k.bit ≤ 7
    unfold hasB at hb
    rcases hk with rfl | rfl | rfl | rfl <;> simp only [kD, kF, kS, kG] at hb ⊢ <;> simp at hb <;> omega
  · rw [(rep_no (by simpa using hm)).1]; exact h
theorem pass_told {p : PJ} {x : EM} {no : Txt} {now : Int} {t : ST} (h : 0 ≤ t.told ∧ t.told ≤ 7) : 0 ≤ (passT p x no now t).told ∧ (passT p x no now t).told ≤ 7 := by
  unfold passT
  split
  · exact rep_told (by unfold kindB4; simp) h
  · split
    · exact rep_told (by unfold kindB4; simp) h
    · split
      · exact rep_told (by unfold kindB4; simp) h
      · exact h
set_option maxHeartbeats 16000000 in
theorem alarms_x (hA : ∀ w, Calls Tryz.prog 7 #[] w fun e w' => e = .returned (.bool true) ∧ Below w.heap.size w w') (p : PJ) (x : EM) (vr vl : Value) (t : ST) (now : Int) (w : World) (hE : EAt w x vr vl) (hS : ShE x) (hR : Rdy w) :
    Calls Tryz.prog 4 #[plA p, msA x vr vl, .agg #[.int .i64 t.pl, .string (mkS t.st), .int .i64 t.tr, .int .i64 t.ne, .int .i64 t.told], .int .i64 now] w fun e w' => e = .returned (.bool true) ∧ Below w.heap.size w w' := by
  have HE := Lib.hid hE
  obtain ⟨ra, rcap, rfl, hrc0, _, hrc⟩ := hE.rc
  generalize hvr : Value.slice ra x.rc.length rcap = vr at HE hE
  have H0 := Lib.hid (XB.new w p x vr vl t)
  have HA := Lib.hid hA
  have HS := Lib.hid hS
  have HR := Lib.hid hR
  have HRC := Lib.hid hrc
  have HVR := Lib.hid hvr
  clear hA hE hS hR hrc hrc0 hvr
  go_enter Tryz.func4, Tryz.ntmps4
  go_wp2_with fail
  refine (HA.out _).mono ?_
  rintro r w1 ⟨rfl, hb⟩
  have H1 := Lib.hid (H0.out.next hb)
  clear hb H0 HA
  go_wp2_with (first | ((with_reducible refine jis_load (ty := 33) (x := .tmp 5) rfl ?_); refine jload ?_ 33 (.tmp 5) rfl (w.heap.size + 1) 0 33 (EC x vr vl) (EC x vr vl) _ rfl H1.out.mb Tryz.underlying33 rfl size_msg (fun j _ => by rw [Nat.zero_add]) ?_; (focus (first | rfl | (go_simp; done)))) | ((with_reducible refine jis_load (ty := 41) (x := .tmp 6) rfl ?_); refine jload ?_ 41 (.tmp 6) rfl (w.heap.size + 1 + 1) 0 41 (TC t) #[.int .i64 (t).pl, .string (mkS (t).st), .int .i64 (t).tr, .int .i64 (t).ne, .int .i64 (t).told] _ rfl H1.out.tb Tryz.underlying41 rfl jsize_st (fun j _ => by rw [Nat.zero_add]; rfl) ?_; (focus (first | rfl | (go_simp; done)))))
  refine (fits_x x vr vl t _ (HE.out.below H1.out.below) HS.out).mono ?_
  rintro r w2 ⟨q, rfl, hq, hb⟩
  have H2 := Lib.hid (H1.out.next hb)
  have HQ := Lib.hid hq
  clear hb H1 hq
  cases q with
  | false =>
    go_wp2_with fail
    go_ret
    exact ⟨rfl, H2.out.below⟩
  | true =>
  have HF := Lib.hid (HQ.out rfl)
  clear HQ
  go_wp2_with (((with_reducible refine jis_load (ty := 23) (x := .tmp 4) rfl ?_); refine jload ?_ 23 (.tmp 4) rfl (w.heap.size) 0 23 #[.int .i64 p.base, .int .i64 p.most, .int .i64 p.life, .int .i64 p.warn] #[.int .i64 p.base, .int .i64 p.most, .int .i64 p.life, .int .i64 p.warn] _ rfl H2.out.pb Tryz.underlying23 rfl jsize_plan (fun j _ => by rw [Nat.zero_add]) ?_; (focus (first | rfl | (go_simp; done)))))
  refine (jright_x p _).mono ?_
  rintro r w3 ⟨rfl, hb⟩
  have H3 := Lib.hid (H2.out.next hb)
  clear hb H2
  by_cases hok : okP p = true
  case neg =>
    rw [if_neg hok]
    go_wp2_with fail
    go_ret
    exact ⟨rfl, H3.out.below⟩
  rw [if_pos hok]
  have HOK := Lib.hid hok
  clear hok
  go_wp2_with (((with_reducible refine jis_load (ty := 33) (x := .tmp 5) rfl ?_); refine jload ?_ 33 (.tmp 5) rfl (w.heap.size + 1) 0 33 (EC x vr vl) (EC x vr vl) _ rfl H3.out.mb Tryz.underlying33 rfl size_msg (fun j _ => by rw [Nat.zero_add]) ?_; (focus (first | rfl | (go_simp; done)))))
  refine (right_x x vr vl _ (HE.out.below H3.out.below) HF.out.sm.fit (HR.out.below H3.out.below)).mono ?_
  rintro r w4 ⟨rfl, hb⟩
  have H4 := Lib.hid (H3.out.next hb)
  clear hb H3
  by_cases hen : enE x = 0
  case neg =>
    have he : (enE x == 0) = false := by simpa using hen
    have he2 : (enE x != 0) = true := by simpa using hen
    clear hen
    go_wp2_with fail
    go_ret
    exact ⟨rfl, H4.out.below⟩
  rw [hen]
  have HEN := Lib.hid (en_iff.1 hen)
  clear hen
  have c1 : w4.cell? ⟨w.heap.size + 1 + 1, 1, none⟩ = some (.string (mkS t.st)) := cellOf H4.out.tb 1
  have c0 : w4.cell? ⟨w.heap.size + 1 + 1, 0, none⟩ = some (.int .i64 t.pl) := cellOf H4.out.tb 0
  have e1 : ((mkS t.st).toList == [82]) = (t.st == [82]) := by rw [mkS_toList]
  rcases Bool.eq_false_or_eq_true (t.st == [82]) with hst | hst
  rotate_left
  · rw [hst] at e1
    clear hst
    go_wp2_with fail
    go_ret
    exact ⟨rfl, H4.out.below⟩
  have HST := Lib.hid (show t.st = [82] from eq_of_beq hst)
  rw [hst] at e1
  clear hst
  have cr : w4.cell? ⟨w.heap.size + 1, 19, none⟩ = some (.slice ra x.rc.length rcap) := by rw [HVR.out]; exact cellOf H4.out.mb 19
  rcases Bool.eq_false_or_eq_true (decide (t.pl < 0)) with p1 | p1
  · go_wp2_with fail
    go_ret
    exact ⟨rfl, H4.out.below⟩
  rcases Bool.eq_false_or_eq_true (decide ((x.rc.length : Int) ≤ t.pl)) with p2 | p2
  · go_wp2_with fail
    go_ret
    exact ⟨rfl, H4.out.below⟩
  rcases Bool.eq_false_or_eq_true (decide (now < 0)) with n1 | n1
  · go_wp2_with fail
    go_ret
    exact ⟨rfl, H4.out.below⟩
  rcases Bool.eq_false_or_eq_true (decide (1099511627776 < now)) with n2 | n2
  · go_wp2_with fail
    go_ret
    exact ⟨rfl, H4.out.below⟩
  have HP := Lib.hid (⟨by have := of_decide_eq_false p1; omega, by have := of_decide_eq_false p2; omega⟩ : 0 ≤ t.pl ∧ t.pl < x.rc.length)
  have HW := Lib.hid (⟨by have := of_decide_eq_false n1; omega, by have := of_decide_eq_false n2; omega⟩ : 0 ≤ now ∧ now ≤ 1099511627776)
  go_upto_region 5 with fail
  clear p1 p2 n1 n2 c1 c0 cr e1
  go_wp2_with (first | ((with_reducible refine jis_load (ty := 33) (x := .tmp 5) rfl ?_); refine jload ?_ 33 (.tmp 5) rfl (w.heap.size + 1) 0 33 (EC x vr vl) (EC x vr vl) _ rfl H4.out.mb Tryz.underlying33 rfl size_msg (fun j _ => by rw [Nat.zero_add]) ?_; (focus (first | rfl | (go_simp; done)))) | ((with_reducible refine jis_load (ty := 41) (x := .tmp 6) rfl ?_); refine jload ?_ 41 (.tmp 6) rfl (w.heap.size + 1 + 1) 0 41 (TC t) #[.int .i64 (t).pl, .string (mkS (t).st), .int .i64 (t).tr, .int .i64 (t).ne, .int .i64 (t).told] _ rfl H4.out.tb Tryz.underlying41 rfl jsize_st (fun j _ => by rw [Nat.zero_add]; rfl) ?_; (focus (first | rfl | (go_simp; done)))) | ((with_reducible refine jis_load (ty := 23) (x := .tmp 4) rfl ?_); refine jload ?_ 23 (.tmp 4) rfl (w.heap.size) 0 23 #[.int .i64 p.base, .int .i64 p.most, .int .i64 p.life, .int .i64 p.warn] #[.int .i64 p.base, .int .i64 p.most, .int .i64 p.life, .int .i64 p.warn] _ rfl H4.out.pb Tryz.underlying23 rfl jsize_plan (fun j _ => by rw [Nat.zero_add]) ?_; (focus (first | rfl | (go_simp; done)))))
  refine (alarm_x p x vr vl t _ HOK.out HF.out.bd HF.out.told.1 HF.out.told.2).mono ?_
  rintro r w5 ⟨rfl, hb⟩
  have H5 := Lib.hid (H4.out.next hb)
  clear hb H4
  go_wp2_with (first | ((with_reducible refine jis_load (ty := 33) (x := .tmp 5) rfl ?_); refine jload ?_ 33 (.tmp 5) rfl (w.heap.size + 1) 0 33 (EC x vr vl) (EC x vr vl) _ rfl H5.out.mb Tryz.underlying33 rfl size_msg (fun j _ => by rw [Nat.zero_add]) ?_; (focus (first | rfl | (go_simp; done)))) | ((with_reducible refine jis_load (ty := 41) (x := .tmp 6) rfl ?_); refine jload ?_ 41 (.tmp 6) rfl (w.heap.size + 1 + 1) 0 41 (TC t) #[.int .i64 (t).pl, .string (mkS (t).st), .int .i64 (t).tr, .int .i64 (t).ne, .int .i64 (t).told] _ rfl H5.out.tb Tryz.underlying41 rfl jsize_st (fun j _ => by rw [Nat.zero_add]; rfl) ?_; (focus (first | rfl | (go_simp; done)))) | ((with_reducible refine jis_load (ty := 23) (x := .tmp 4) rfl ?_); refine jload ?_ 23 (.tmp 4) rfl (w.heap.size) 0 23 #[.int .i64 p.base, .int .i64 p.most, .int .i64 p.life, .int .i64 p.warn] #[.int .i64 p.base, .int .i64 p.most, .int .i64 p.life, .int .i64 p.warn] _ rfl H5.out.pb Tryz.underlying23 rfl jsize_plan (fun j _ => by rw [Nat.zero_add]) ?_; (focus (first | rfl | (go_simp; done)))))
  have HM := Lib.hid (may_zero HOK.out HW.out HST.out HP.out)
  have kT := time_x p x vr vl t now w5 (HE.out.below H5.out.below) (by have := HF.out.sm.rn; omega) HF.out.bd HF.out.told.1 HF.out.told.2
  rw [show timeT p x t now = passT p x (noJ x t) now t by unfold timeT; rw [if_pos HM.out], show timeL p x t now = passL p x (noJ x t) now t by unfold timeL; rw [if_pos HM.out], HM.out] at kT
  obtain ⟨T1, hT1⟩ : ∃ T, T = passT p x (noJ x t) now t := ⟨_, rfl⟩
  obtain ⟨L1, hL1⟩ : ∃ L, L = passL p x (noJ x t) now t := ⟨_, rfl⟩
  rw [← hT1, ← hL1] at kT
  have HT1 := Lib.hid hT1
  have HL1 := Lib.hid hL1
  clear hT1 hL1
  refine kT.mono ?_
  rintro r w6 ⟨v1, rfl, ho, hb⟩
  have H6 := Lib.hid (H5.out.next hb)
  obtain ⟨A1, C1, rfl⟩ : ∃ A c, v1 = .slice A L1.length c := strs_slice ho
  clear hb H5 kT ho
  go_upto_region 7 with (first | (refine wpList_store_blk rfl 41 (.tmp 10) (.tmp 70) rfl w6.heap.size 0 41 (TC zeroT) (TC T1) (TC T1) rfl rfl (newOf w6 _) jsize_st (one_TC _) (Nat.le_of_eq rfl) (whole_TC _ _ rfl) ?_; intro w7 hB7 hA7))
  have H7 := Lib.hid (H6.out.next (far_apart hA7))
  have G7 := Lib.hid hB7
  clear hA7 hB7 H6
  generalize w6.heap.size = g1 at *
  have heq : ∀ w, (Op.equalIn 10000 41 (.agg #[.int .i64 T1.pl, .string (mkS T1.st), .int .i64 T1.tr, .int .i64 T1.ne, .int .i64 T1.told]) (.agg #[.int .i64 t.pl, .string (mkS t.st), .int .i64 t.tr, .int .i64 t.ne, .int .i64 t.told])).run Tryz.prog w = .ok (eqST T1 t) w := fun w => eqSt T1 t w
  rcases Bool.eq_false_or_eq_true (decide (now < alarmJ p x t)) with ha | ha
  · have hf := alarm_ahead (now := now) (no := noJ x t) HST.out (of_decide_eq_true ha)
    have hq : eqST T1 t = true := eqST_iff.2 (HT1.out.trans hf.1)
    have hl : L1 = [] := HL1.out.trans hf.2
    clear HL1
    subst hl
    simp only [List.length_nil]
    have hov : overJ p x now = false := by
      rcases Bool.eq_false_or_eq_true (overJ p x now) with h | h
      · have := over_alarm (t := t) HST.out h; have := of_decide_eq_true ha; omega
      · exact h
    have hts : T1.st = [82] := by rw [HT1.out, pass_st, hov]; exact HST.out
    have HOV := Lib.hid hov
    have e2 : ((mkS T1.st).toList == [82]) = true := by rw [mkS_toList, hts]; rfl
    have HTS := Lib.hid hts
    have c11 : w7.cell? ⟨g1, 1, none⟩ = some (.string (mkS T1.st)) := cellOf G7.out 1
    clear hf hov hts
    rw [hq] at heq
    clear hq
    go_upto_region 11 with (first | ((with_reducible refine jis_load (ty := 41) (x := .tmp 10) rfl ?_); refine jload ?_ 41 (.tmp 10) rfl (g1) 0 41 (TC T1) #[.int .i64 (T1).pl, .string (mkS (T1).st), .int .i64 (T1).tr, .int .i64 (T1).ne, .int .i64 (T1).told] _ rfl G7.out Tryz.underlying41 rfl jsize_st (fun j _ => by rw [Nat.zero_add]; rfl) ?_; (focus (first | rfl | (go_simp; done)))) | ((with_reducible refine jis_load (ty := 41) (x := .tmp 6) rfl ?_); refine jload ?_ 41 (.tmp 6) rfl (w.heap.size + 1 + 1) 0 41 (TC t) #[.int .i64 (t).pl, .string (mkS (t).st), .int .i64 (t).tr, .int .i64 (t).ne, .int .i64 (t).told] _ rfl H7.out.tb Tryz.underlying41 rfl jsize_st (fun j _ => by rw [Nat.zero_add]; rfl) ?_; (focus (first | rfl | (go_simp; done)))))
    clear heq e2 c11 ha
    have hpa := pass_again (p := p) (x := x) (no := noJ x t) (now := now) (t := t) HOV.out
    have hmay2 : mayJ p x T1 now = 0 := may_zero HOK.out HW.out HTS.out (by rw [HT1.out, pass_pl]; exact HP.out)
    have hno : noJ x T1 = noJ x t := by unfold noJ; rw [HT1.out, pass_pl]
    have htold : 0 ≤ T1.told ∧ T1.told ≤ 7 := by rw [HT1.out]; exact pass_told HF.out.told
    have htT : timeT p x T1 now = T1 := by
      unfold timeT
      rw [if_pos hmay2, hno, HT1.out]
      exact hpa.1
    have htL : timeL p x T1 now = [] := by
      unfold timeL
      rw [if_pos hmay2, hno, HT1.out]
      exact hpa.2
    have kT := time_x p x vr vl T1 now w7 (HE.out.below H7.out.below) (by have := HF.out.sm.rn; omega) HF.out.bd htold.1 htold.2
    rw [htT, htL, hmay2] at kT
    have HTO := Lib.hid htold
    clear hpa hmay2 hno htold htT htL
    go_wp2_with (first | ((with_reducible refine jis_load (ty := 23) (x := .tmp 4) rfl ?_); refine jload ?_ 23 (.tmp 4) rfl (w.heap.size) 0 23 #[.int .i64 p.base, .int .i64 p.most, .int .i64 p.life, .int .i64 p.warn] #[.int .i64 p.base, .int .i64 p.most, .int .i64 p.life, .int .i64 p.warn] _ rfl H7.out.pb Tryz.underlying23 rfl jsize_plan (fun j _ => by rw [Nat.zero_add]) ?_; (focus (first | rfl | (go_simp; done)))) | ((with_reducible refine jis_load (ty := 33) (x := .tmp 5) rfl ?_); refine jload ?_ 33 (.tmp 5) rfl (w.heap.size + 1) 0 33 (EC x vr vl) (EC x vr vl) _ rfl H7.out.mb Tryz.underlying33 rfl size_msg (fun j _ => by rw [Nat.zero_add]) ?_; (focus (first | rfl | (go_simp; done)))) | ((with_reducible refine jis_load (ty := 41) (x := .tmp 10) rfl ?_); refine jload ?_ 41 (.tmp 10) rfl (g1) 0 41 (TC T1) #[.int .i64 (T1).pl, .string (mkS (T1).st), .int .i64 (T1).tr, .int .i64 (T1).ne, .int .i64 (T1).told] _ rfl G7.out Tryz.underlying41 rfl jsize_st (fun j _ => by rw [Nat.zero_add]; rfl) ?_; (focus (first | rfl | (go_simp; done)))))
    refine kT.mono ?_
    rintro r w8 ⟨v2, rfl, ho, hb⟩
    have H8 := Lib.hid (H7.out.next hb)
    have G8 := Lib.hid ((hb.block _ (ltOf G7.out)).trans G7.out)
    obtain ⟨A2, C2, rfl⟩ : ∃ A c, v2 = .slice A 0 c := strs_slice ho
    clear hb H7 G7 kT ho
    go_upto_region 12 with (first | (refine wpList_store_blk rfl 41 (.tmp 13) (.tmp 107) rfl w8.heap.size 0 41 (TC zeroT) (TC T1) (TC T1) rfl rfl (newOf w8 _) jsize_st (one_TC _) (Nat.le_of_eq rfl) (whole_TC _ _ rfl) ?_; intro w9 hB9 hA9))
    have H9 := Lib.hid (H8.out.next (far_apart hA9))
    have G9 := Lib.hid (((far_apart hA9).block _ (ltOf G8.out)).trans G8.out)
    have K9 := Lib.hid hB9
    clear hA9 hB9 H8 G8
    generalize w8.heap.size = g2 at *
    have heq2 : ∀ w, (Op.equalIn 10000 41 (.agg #[.int .i64 T1.pl, .string (mkS T1.st), .int .i64 T1.tr, .int .i64 T1.ne, .int .i64 T1.told]) (.agg #[.int .i64 T1.pl, .string (mkS T1.st), .int .i64 T1.tr, .int .i64 T1.ne, .int .i64 T1.told])).run Tryz.prog w = .ok true w := fun w => (eqSt T1 T1 w).trans (by rw [eqST_iff.2 rfl])
    go_upto_region 14 with (first | ((with_reducible refine jis_load (ty := 41) (x := .tmp 13) rfl ?_); refine jload ?_ 41 (.tmp 13) rfl (g2) 0 41 (TC T1) #[.int .i64 (T1).pl, .string (mkS (T1).st), .int .i64 (T1).tr, .int .i64 (T1).ne, .int .i64 (T1).told] _ rfl K9.out Tryz.underlying41 rfl jsize_st (fun j _ => by rw [Nat.zero_add]; rfl) ?_; (focus (first | rfl | (go_simp; done)))) | ((with_reducible refine jis_load (ty := 41) (x := .tmp 10) rfl ?_); refine jload ?_ 41 (.tmp 10) rfl (g1) 0 41 (TC T1) #[.int .i64 (T1).pl, .string (mkS (T1).st), .int .i64 (T1).tr, .int .i64 (T1).ne, .int .i64 (T1).told] _ rfl G9.out Tryz.underlying41 rfl jsize_st (fun j _ => by rw [Nat.zero_add]; rfl) ?_; (focus (first | rfl | (go_simp; done)))))
    clear heq2
    go_wp2_with (first | ((with_reducible refine jis_load (ty := 23) (x := .tmp 4) rfl ?_); refine jload ?_ 23 (.tmp 4) rfl (w.heap.size) 0 23 #[.int .i64 p.base, .int .i64 p.most, .int .i64 p.life, .int .i64 p.warn] #[.int .i64 p.base, .int .i64 p.most, .int .i64 p.life, .int .i64 p.warn] _ rfl H9.out.pb Tryz.underlying23 rfl jsize_plan (fun j _ => by rw [Nat.zero_add]) ?_; (focus (first | rfl | (go_simp; done)))) | ((with_reducible refine jis_load (ty := 33) (x := .tmp 5) rfl ?_); refine jload ?_ 33 (.tmp 5) rfl (w.heap.size + 1) 0 33 (EC x vr vl) (EC x vr vl) _ rfl H9.out.mb Tryz.underlying33 rfl size_msg (fun j _ => by rw [Nat.zero_add]) ?_; (focus (first | rfl | (go_simp; done)))) | ((with_reducible refine jis_load (ty := 41) (x := .tmp 10) rfl ?_); refine jload ?_ 41 (.tmp 10) rfl (g1) 0 41 (TC T1) #[.int .i64 (T1).pl, .string (mkS (T1).st), .int .i64 (T1).tr, .int .i64 (T1).ne, .int .i64 (T1).told] _ rfl G9.out Tryz.underlying41 rfl jsize_st (fun j _ => by rw [Nat.zero_add]; rfl) ?_; (focus (first | rfl | (go_simp; done)))))
    refine (alarm_x p x vr vl T1 _ HOK.out HF.out.bd HTO.out.1 HTO.out.2).mono ?_
    rintro r wa ⟨rfl, hb⟩
    have Ha := Lib.hid (H9.out.next hb)
    have Ga := Lib.hid ((hb.block _ (ltOf G9.out)).trans G9.out)
    clear hb H9 G9 K9
    obtain ⟨k, hk⟩ : ∃ k : Nat, t.pl = k := ⟨t.pl.toNat, by have := HP.out; omega⟩
    have hkl : k < x.rc.length := by have := HP.out; omega
    obtain ⟨c, hc⟩ : ∃ c, x.rc[k]? = some c := ⟨_, List.getElem?_eq_getElem hkl⟩
    have hno : noJ x t = c.r.no := by
      unfold noJ
      rw [hk, Int.toNat_natCast, List.getD_eq_getElem?_getD, hc]; rfl
    obtain ⟨A, hra, hab, hat⟩ := HRC.out k c hc
    have at3 := hat.below Ha.out.below (by rw [add_block]; exact hab)
    have c5 : wa.cell? ⟨w.heap.size + 1, 19, none⟩ = some (.slice (some A) x.rc.length rcap) := by rw [← hra, HVR.out]; exact cellOf Ha.out.mb 19
    have cT : wa.cell? ⟨w.heap.size + 1 + 1, 0, none⟩ = some (.int .i64 k) := by rw [← hk]; exact cellOf Ha.out.tb 0
    have cn := at3.c2
    have f3 : wa.cell? ⟨w.heap.size + 1, 3, none⟩ = some (.string (mkS x.fr.1)) := cellOf Ha.out.mb 3
    have f4 : wa.cell? ⟨w.heap.size + 1, 4, none⟩ = some (.string (mkS x.fr.2)) := cellOf Ha.out.mb 4
    have d1 : (0 : Int) ≤ (k : Int) := by omega
    have d2 : (k : Int) < (x.rc.length : Int) := by omega
    have HNO := Lib.hid hno
    have F := alarm_on (p := p) (x := x) (no := noJ x t) (now := now) (t := t) HST.out HOV.out
    rw [← HT1.out] at F
    have HFO := Lib.hid F
    clear F hno hk hkl hc hra hab hat at3
    rcases Bool.eq_false_or_eq_true (c.r.no == []) with hn | hn
    · have en : ((mkS c.r.no).toList == []) = true := by rw [mkS_toList]; exact hn
      have HN := Lib.hid hn
      clear hn
      go_wp2_with fail
      refine (P.null_x x.fr _).mono ?_
      rintro r wb ⟨rfl, hb⟩
      have Hb := Lib.hid (Ha.out.next hb)
      have c13 : wb.cell? ⟨g1, 3, none⟩ = some (.int .i64 T1.ne) := cellOf ((hb.block _ (ltOf Ga.out)).trans Ga.out) 3
      clear hb Ha Ga c5 cT cn f3 f4 en
      rcases Bool.eq_false_or_eq_true (P.nullB x.fr) with hu | hu
      · rw [hu]
        have g0 : decide (alarmJ p x t ≤ alarmJ p x T1) = true := decide_eq_true HFO.out.1
        rcases Bool.eq_false_or_eq_true (decide (now < alarmJ p x T1)) with b1 | b1
        · go_wp2_with fail
          go_ret
          exact ⟨rfl, Hb.out.below⟩
        rcases Bool.eq_false_or_eq_true (decide (T1.ne ≤ now)) with b2 | b2
        · go_wp2_with fail
          go_ret
          exact ⟨rfl, Hb.out.below⟩
        go_wp2_with fail
        go_ret
        exact ⟨rfl, Hb.out.below⟩
      rw [hu]
      have HNU := Lib.hid (show nullJ x = false from hu)
      clear hu
      have g0 : decide (alarmJ p x t ≤ alarmJ p x T1) = true := decide_eq_true HFO.out.1
      rcases Bool.eq_false_or_eq_true (decide (now < alarmJ p x T1)) with b1 | b1
      · go_wp2_with fail
        go_ret
        exact ⟨rfl, Hb.out.below⟩
      rcases Bool.eq_false_or_eq_true (decide (T1.ne ≤ now)) with b2 | b2
      · go_wp2_with fail
        go_ret
        exact ⟨rfl, Hb.out.below⟩
      exact absurd (HFO.out.2 (by rw [HNO.out, HN.out, HNU.out]; rfl) (by have := of_decide_eq_false b2; omega)) (of_decide_eq_false b1)
    · have en : ((mkS c.r.no).toList == []) = false := by rw [mkS_toList]; exact hn
      have c13 : wa.cell? ⟨g1, 3, none⟩ = some (.int .i64 T1.ne) := cellOf Ga.out 3
      clear hn Ga
      have g0 : decide (alarmJ p x t ≤ alarmJ p x T1) = true := decide_eq_true HFO.out.1
      rcases Bool.eq_false_or_eq_true (decide (now < alarmJ p x T1)) with b1 | b1
      · go_wp2_with fail
        go_ret
        exact ⟨rfl, Ha.out.below⟩
      rcases Bool.eq_false_or_eq_true (decide (T1.ne ≤ now)) with b2 | b2
      · go_wp2_with fail
        go_ret
        exact ⟨rfl, Ha.out.below⟩
      go_wp2_with fail
      go_ret
      exact ⟨rfl, Ha.out.below⟩
  · rcases Bool.eq_false_or_eq_true (overJ p x now) with hov | hov
    · have hal := over_alarm (t := t) HST.out hov
      have hts : T1.st = [70] := by rw [HT1.out, pass_st, hov]; rfl
      have e2 : ((mkS T1.st).toList == [82]) = false := by rw [mkS_toList, hts]; rfl
      have e3 : ((mkS T1.st).toList == [70]) = true := by rw [mkS_toList, hts]; rfl
      have hge : decide (alarmJ p x t ≤ now) = true := decide_eq_true hal
      have c11 : w7.cell? ⟨g1, 1, none⟩ = some (.string (mkS T1.st)) := cellOf G7.out 1
      clear hal hts hov heq
      go_wp2_with fail
      go_ret
      exact ⟨rfl, H7.out.below⟩
    have hts : T1.st = [82] := by rw [HT1.out, pass_st, hov]; exact HST.out
    have HOV := Lib.hid hov
    have e2 : ((mkS T1.st).toList == [82]) = true := by rw [mkS_toList, hts]; rfl
    have HTS := Lib.hid hts
    have c11 : w7.cell? ⟨g1, 1, none⟩ = some (.string (mkS T1.st)) := cellOf G7.out 1
    clear hov hts heq
    go_upto_region 11 with fail
    clear e2 c11 ha
    have hpa := pass_again (p := p) (x := x) (no := noJ x t) (now := now) (t := t) HOV.out
    have hmay2 : mayJ p x T1 now = 0 := may_zero HOK.out HW.out HTS.out (by rw [HT1.out, pass_pl]; exact HP.out)
    have hno : noJ x T1 = noJ x t := by unfold noJ; rw [HT1.out, pass_pl]
    have htold : 0 ≤ T1.told ∧ T1.told ≤ 7 := by rw [HT1.out]; exact pass_told HF.out.told
    have htT : timeT p x T1 now = T1 := by
      unfold timeT
      rw [if_pos hmay2, hno, HT1.out]
      exact hpa.1
    have htL : timeL p x T1 now = [] := by
      unfold timeL
      rw [if_pos hmay2, hno, HT1.out]
      exact hpa.2
    have kT := time_x p x vr vl T1 now w7 (HE.out.below H7.out.below) (by have := HF.out.sm.rn; omega) HF.out.bd htold.1 htold.2
    rw [htT, htL, hmay2] at kT
    have HTO := Lib.hid htold
    clear hpa hmay2 hno htold htT htL
    go_wp2_with (first | ((with_reducible refine jis_load (ty := 23) (x := .tmp 4) rfl ?_); refine jload ?_ 23 (.tmp 4) rfl (w.heap.size) 0 23 #[.int .i64 p.base, .int .i64 p.most, .int .i64 p.life, .int .i64 p.warn] #[.int .i64 p.base, .int .i64 p.most, .int .i64 p.life, .int .i64 p.warn] _ rfl H7.out.pb Tryz.underlying23 rfl jsize_plan (fun j _ => by rw [Nat.zero_add]) ?_; (focus (first | rfl | (go_simp; done)))) | ((with_reducible refine jis_load (ty := 33) (x := .tmp 5) rfl ?_); refine jload ?_ 33 (.tmp 5) rfl (w.heap.size + 1) 0 33 (EC x vr vl) (EC x vr vl) _ rfl H7.out.mb Tryz.underlying33 rfl size_msg (fun j _ => by rw [Nat.zero_add]) ?_; (focus (first | rfl | (go_simp; done)))) | ((with_reducible refine jis_load (ty := 41) (x := .tmp 10) rfl ?_); refine jload ?_ 41 (.tmp 10) rfl (g1) 0 41 (TC T1) #[.int .i64 (T1).pl, .string (mkS (T1).st), .int .i64 (T1).tr, .int .i64 (T1).ne, .int .i64 (T1).told] _ rfl G7.out Tryz.underlying41 rfl jsize_st (fun j _ => by rw [Nat.zero_add]; rfl) ?_; (focus (first | rfl | (go_simp; done)))))
    refine kT.mono ?_
    rintro r w8 ⟨v2, rfl, ho, hb⟩
    have H8 := Lib.hid (H7.out.next hb)
    have G8 := Lib.hid ((hb.block _ (ltOf G7.out)).trans G7.out)
    obtain ⟨A2, C2, rfl⟩ : ∃ A c, v2 = .slice A 0 c := strs_slice ho
    clear hb H7 G7 kT ho
    go_upto_region 12 with (first | (refine wpList_store_blk rfl 41 (.tmp 13) (.tmp 107) rfl w8.heap.size 0 41 (TC zeroT) (TC T1) (TC T1) rfl rfl (newOf w8 _) jsize_st (one_TC _) (Nat.le_of_eq rfl) (whole_TC _ _ rfl) ?_; intro w9 hB9 hA9))
    have H9 := Lib.hid (H8.out.next (far_apart hA9))
    have G9 := Lib.hid (((far_apart hA9).block _ (ltOf G8.out)).trans G8.out)
    have K9 := Lib.hid hB9
    clear hA9 hB9 H8 G8
    generalize w8.heap.size = g2 at *
    have heq2 : ∀ w, (Op.equalIn 10000 41 (.agg #[.int .i64 T1.pl, .string (mkS T1.st), .int .i64 T1.tr, .int .i64 T1.ne, .int .i64 T1.told]) (.agg #[.int .i64 T1.pl, .string (mkS T1.st), .int .i64 T1.tr, .int .i64 T1.ne, .int .i64 T1.told])).run Tryz.prog w = .ok true w := fun w => (eqSt T1 T1 w).trans (by rw [eqST_iff.2 rfl])
    go_upto_region 14 with (first | ((with_reducible refine jis_load (ty := 41) (x := .tmp 13) rfl ?_); refine jload ?_ 41 (.tmp 13) rfl (g2) 0 41 (TC T1) #[.int .i64 (T1).pl, .string (mkS (T1).st), .int .i64 (T1).tr, .int .i64 (T1).ne, .int .i64 (T1).told] _ rfl K9.out Tryz.underlying41 rfl jsize_st (fun j _ => by rw [Nat.zero_add]; rfl) ?_; (focus (first | rfl | (go_simp; done)))) | ((with_reducible refine jis_load (ty := 41) (x := .tmp 10) rfl ?_); refine jload ?_ 41 (.tmp 10) rfl (g1) 0 41 (TC T1) #[.int .i64 (T1).pl, .string (mkS (T1).st), .int .i64 (T1).tr, .int .i64 (T1).ne, .int .i64 (T1).told] _ rfl G9.out Tryz.underlying41 rfl jsize_st (fun j _ => by rw [Nat.zero_add]; rfl) ?_; (focus (first | rfl | (go_simp; done)))))
    clear heq2
    go_wp2_with (first | ((with_reducible refine jis_load (ty := 23) (x := .tmp 4) rfl ?_); refine jload ?_ 23 (.tmp 4) rfl (w.heap.size) 0 23 #[.int .i64 p.base, .int .i64 p.most, .int .i64 p.life, .int .i64 p.warn] #[.int .i64 p.base, .int .i64 p.most, .int .i64 p.life, .int .i64 p.warn] _ rfl H9.out.pb Tryz.underlying23 rfl jsize_plan (fun j _ => by rw [Nat.zero_add]) ?_; (focus (first | rfl | (go_simp; done)))) | ((with_reducible refine jis_load (ty := 33) (x := .tmp 5) rfl ?_); refine jload ?_ 33 (.tmp 5) rfl (w.heap.size + 1) 0 33 (EC x vr vl) (EC x vr vl) _ rfl H9.out.mb Tryz.underlying33 rfl size_msg (fun j _ => by rw [Nat.zero_add]) ?_; (focus (first | rfl | (go_simp; done)))) | ((with_reducible refine jis_load (ty := 41) (x := .tmp 10) rfl ?_); refine jload ?_ 41 (.tmp 10) rfl (g1) 0 41 (TC T1) #[.int .i64 (T1).pl, .string (mkS (T1).st), .int .i64 (T1).tr, .int .i64 (T1).ne, .int .i64 (T1).told] _ rfl G9.out Tryz.underlying41 rfl jsize_st (fun j _ => by rw [Nat.zero_add]; rfl) ?_; (focus (first | rfl | (go_simp; done)))))
    refine (alarm_x p x vr vl T1 _ HOK.out HF.out.bd HTO.out.1 HTO.out.2).mono ?_
    rintro r wa ⟨rfl, hb⟩
    have Ha := Lib.hid (H9.out.next hb)
    have Ga := Lib.hid ((hb.block _ (ltOf G9.out)).trans G9.out)
    clear hb H9 G9 K9
    obtain ⟨k, hk⟩ : ∃ k : Nat, t.pl = k := ⟨t.pl.toNat, by have := HP.out; omega⟩
    have hkl : k < x.rc.length := by have := HP.out; omega
    obtain ⟨c, hc⟩ : ∃ c, x.rc[k]? = some c := ⟨_, List.getElem?_eq_getElem hkl⟩
    have hno : noJ x t = c.r.no := by
      unfold noJ
      rw [hk, Int.toNat_natCast, List.getD_eq_getElem?_getD, hc]; rfl
    obtain ⟨A, hra, hab, hat⟩ := HRC.out k c hc
    have at3 := hat.below Ha.out.below (by rw [add_block]; exact hab)
    have c5 : wa.cell? ⟨w.heap.size + 1, 19, none⟩ = some (.slice (some A) x.rc.length rcap) := by rw [← hra, HVR.out]; exact cellOf Ha.out.mb 19
    have cT : wa.cell? ⟨w.heap.size + 1 + 1, 0, none⟩ = some (.int .i64 k) := by rw [← hk]; exact cellOf Ha.out.tb 0
    have cn := at3.c2
    have f3 : wa.cell? ⟨w.heap.size + 1, 3, none⟩ = some (.string (mkS x.fr.1)) := cellOf Ha.out.mb 3
    have f4 : wa.cell? ⟨w.heap.size + 1, 4, none⟩ = some (.string (mkS x.fr.2)) := cellOf Ha.out.mb 4
    have d1 : (0 : Int) ≤ (k : Int) := by omega
    have d2 : (k : Int) < (x.rc.length : Int) := by omega
    have HNO := Lib.hid hno
    have F := alarm_on (p := p) (x := x) (no := noJ x t) (now := now) (t := t) HST.out HOV.out
    rw [← HT1.out] at F
    have HFO := Lib.hid F
    clear F hno hk hkl hc hra hab hat at3
    rcases Bool.eq_false_or_eq_true (c.r.no == []) with hn | hn
    · have en : ((mkS c.r.no).toList == []) = true := by rw [mkS_toList]; exact hn
      have HN := Lib.hid hn
      clear hn
      go_wp2_with fail
      refine (P.null_x x.fr _).mono ?_
      rintro r wb ⟨rfl, hb⟩
      have Hb := Lib.hid (Ha.out.next hb)
      have c13 : wb.cell? ⟨g1, 3, none⟩ = some (.int .i64 T1.ne) := cellOf ((hb.block _ (ltOf Ga.out)).trans Ga.out) 3
      clear hb Ha Ga c5 cT cn f3 f4 en
      rcases Bool.eq_false_or_eq_true (P.nullB x.fr) with hu | hu
      · rw [hu]
        have g0 : decide (alarmJ p x t ≤ alarmJ p x T1) = true := decide_eq_true HFO.out.1
        rcases Bool.eq_false_or_eq_true (decide (now < alarmJ p x T1)) with b1 | b1
        · go_wp2_with fail
          go_ret
          exact ⟨rfl, Hb.out.below⟩
        rcases Bool.eq_false_or_eq_true (decide (T1.ne ≤ now)) with b2 | b2
        · go_wp2_with fail
          go_ret
          exact ⟨rfl, Hb.out.below⟩
        go_wp2_with fail
        go_ret
        exact ⟨rfl, Hb.out.below⟩
      rw [hu]
      have HNU := Lib.hid (show nullJ x = false from hu)
      clear hu
      have g0 : decide (alarmJ p x t ≤ alarmJ p x T1) = true := decide_eq_true HFO.out.1
      rcases Bool.eq_false_or_eq_true (decide (now < alarmJ p x T1)) with b1 | b1
      · go_wp2_with fail
        go_ret
        exact ⟨rfl, Hb.out.below⟩
      rcases Bool.eq_false_or_eq_true (decide (T1.ne ≤ now)) with b2 | b2
      · go_wp2_with fail
        go_ret
        exact ⟨rfl, Hb.out.below⟩
      exact absurd (HFO.out.2 (by rw [HNO.out, HN.out, HNU.out]; rfl) (by have := of_decide_eq_false b2; omega)) (of_decide_eq_false b1)
    · have en : ((mkS c.r.no).toList == []) = false := by rw [mkS_toList]; exact hn
      have c13 : wa.cell? ⟨g1, 3, none⟩ = some (.int .i64 T1.ne) := cellOf Ga.out 3
      clear hn Ga
      have g0 : decide (alarmJ p x t ≤ alarmJ p x T1) = true := decide_eq_true HFO.out.1
      rcases Bool.eq_false_or_eq_true (decide (now < alarmJ p x T1)) with b1 | b1
      · go_wp2_with fail
        go_ret
        exact ⟨rfl, Ha.out.below⟩
      rcases Bool.eq_false_or_eq_true (decide (T1.ne ≤ now)) with b2 | b2
      · go_wp2_with fail
        go_ret
        exact ⟨rfl, Ha.out.below⟩
      go_wp2_with fail
      go_ret
      exact ⟨rfl, Ha.out.below⟩
end Go.Proofs.YtcedhgihebollaaGreatDoor.E.J
