/-
  The walk of the law FrameBack.
-/
import Derived.Test.YtfejepkpjoieoaaFrAwake
namespace Go.Proofs.Ytfejepkpjoieoaa
set_option maxRecDepth 100000
open Go.RowKit
theorem scan_long (l : Txt) : longF (scanF l) = false := by
  obtain ⟨t, _, _, h⟩ := scanF_front _ l (Nat.le_refl _)
  exact long_no h
set_option maxHeartbeats 2000000 in
theorem frameBack_x (v : Value) (l : List Txt) (s : Txt) (w : World) (hv : TxtsAt w v l) (hz : ∀ t ∈ l, t.length ≤ 140737488355328) (hs : s.length ≤ 140737488355328) :
    Calls Try.prog 4 #[v, .string (mkS s)] w fun e w' => e = .returned (.bool true) ∧ Below w.heap.size w w' := by
  have hms := mkS_size s
  have HA := Lib.hid (awake_x w)
  have HV := Lib.hid hv
  have HFw := Lib.hid (fun (W : World) (hb : Below w.heap.size w W) => few_x v l W (hv.below hb) hz)
  obtain ⟨A, c, rfl, hlc, -⟩ := id hv
  clear hv
  go_enter Try.func4, Try.ntmps4
  go_wp2_with fail
  refine HA.out.mono ?_
  rintro e w1 ⟨rfl, hb1⟩
  have HB1 := Lib.hid hb1
  clear hb1
  go_wp2_with fail
  refine (HFw.out _ HB1.out).mono ?_
  rintro e w2 ⟨rfl, rfl⟩
  cases hf : fewF l
  · clear hf
    go_wp2_with fail
    go_ret
    exact ⟨rfl, HB1.out⟩
  · have HF := Lib.hid (few_yes hf)
    clear hf
    by_cases h2 : 20000 < s.length
    · have d1 : decide ((20000 : Int) < (s.length : Int)) = true := decide_eq_true (by omega)
      go_wp2_with fail
      go_ret
      exact ⟨rfl, HB1.out⟩
    · have d1 : decide ((20000 : Int) < (s.length : Int)) = false := decide_eq_false (by omega)
      have HSL := Lib.hid (scan_long s)
      have HFR := Lib.hid (fun (h : longF l = false) => scanF_frames l s (long_all h))
      have hq1 := scanF_len s
      have hq2 := framesF_len (scanF s)
      have HTk := Lib.hid (scanF_take s)
      go_wp2_with fail
      refine (scan_x s w1 (by omega)).mono ?_
      unfold ScanPost
      rintro e w3 ⟨v3, rfl, hT3, hb3⟩
      have HB3 := Lib.hid (below_next HB1.out hb3)
      have HT3 := Lib.hid hT3
      clear hT3 hb3
      generalize scanF s = ms at HT3 HSL HFR hq1 hq2 HTk ⊢
      obtain ⟨A3, c3, rfl, -⟩ := id HT3.out
      go_wp2_with fail
      refine (print_x _ ms w3 HT3.out (by omega)).mono ?_
      unfold PrintPost
      rw [(print_some HSL.out).1, (print_some HSL.out).2]
      rintro e w4 ⟨rfl, hb4⟩
      have HB4 := Lib.hid (below_next HB3.out hb4)
      have HT4 := Lib.hid (HT3.out.below hb4)
      clear hb4 HT3
      have hmf := mkS_size (framesF ms)
      have HFM := Lib.hid (fun l => framesF_append l ms)
      have hex : (mkS s).extract 0 (framesF ms).length = mkS (framesF ms) := by rw [mkS_extract, HTk.out, List.drop_zero]
      generalize framesF ms = fm at hmf HFM hex hq1 hq2 HTk ⊢
      have c1 : (0 : Int) ≤ (fm.length : Int) := by omega
      have c2 : (fm.length : Int) ≤ (s.length : Int) := by omega
      have c3' : decide ((s.length : Int) < (fm.length : Int)) = false := decide_eq_false (by omega)
      have c4 : decide (s.length < fm.length) = false := decide_eq_false (by omega)
      have c5 : ((fm.length : Int) != (fm.length : Int)) = false := by simp
      go_wp2_with (at_builtin; refine app_new rfl (.tmp 55) (.tmp 56) rfl _ rfl (by simp) _ l rfl (HV.out.below HB4.out) (by have := HF.out.1; omega) ?_; intro v5 w5 hown5 hb5)
      have HB5 := Lib.hid (below_next HB4.out hb5)
      have HT5 := Lib.hid (HT4.out.below hb5)
      refine (print_x v5 l w5 (own_txts hown5) (by have := HF.out.2.2; omega)).mono ?_
      unfold PrintPost
      rintro e w6 ⟨rfl, hb6⟩
      have HB6 := Lib.hid (below_next HB5.out hb6)
      have HT6 := Lib.hid (HT5.out.below hb6)
      clear hown5 hb5 hb6 HT5 HT4
      cases hlg : longF l
      · rw [(print_some hlg).1, (print_some hlg).2]
        have HE := Lib.hid (HFR.out hlg)
        have hlen := HF.out.2.2
        have hmp := mkS_size (framesF l)
        have HC := Lib.hid (mkS_cat (framesF l) s)
        have hcat := HC.out
        have HN := Lib.hid (show (framesF (l ++ ms)).length = (framesF l).length + fm.length by rw [HFM.out, List.length_append])
        generalize framesF l = fl at HE hlen hmp hcat HN
        clear HC hlg
        go_wp2_with fail
        refine (scan_x (fl ++ s) w6 (by rw [List.length_append]; omega)).mono ?_
        unfold ScanPost
        rw [HE.out, HN.out]
        rintro e w7 ⟨v7, rfl, hT7, hb7⟩
        have HB7 := Lib.hid (below_next HB6.out hb7)
        have HT7 := Lib.hid hT7
        have HM7 := Lib.hid (HT6.out.below hb7)
        clear hT7 hb7 HT6
        obtain ⟨A7, c7, rfl, -⟩ := id HT7.out
        have e1 : ((fl.length + fm.length : Nat) : Int) = (fl.length : Int) + (fm.length : Int) := by omega
        rw [e1]
        clear e1
        go_wp2_with (at_builtin; refine wpList_unguard ?_ ?_; (focus (first | rfl | (go_simp; done))); refine app_new rfl (.tmp 80) (.tmp 81) rfl _ rfl (by simp) _ l rfl (HV.out.below HB7.out) (by have := HF.out.1; omega) ?_)
        intro v8 w8 hown8 hb8
        obtain ⟨A8, c8, rfl⟩ := own_slice hown8
        go_wp2_with (at_builtin; refine wpList_unguard ?_ ?_; (focus (first | rfl | (go_simp; done))); refine app_more rfl (.tmp 82) (.tmp 83) rfl (.slice A8 l.length c8) l rfl hown8 hb8.size hb8 (.slice A3 ms.length c3) ms rfl (HM7.out.below hb8) (by have := HF.out.1; omega) ?_)
        intro v9 w9 hown9 hb9
        have HB9 := Lib.hid (below_next HB7.out hb9)
        have HT9 := Lib.hid (HT7.out.below hb9)
        have HO9 := Lib.hid (own_txts (show w9.ownsRow w7.heap.size 9 1 v9 (l ++ ms).length (strsV (l ++ ms)) from by rw [List.length_append]; exact hown9))
        clear hown8 hb8 hown9 hb9
        obtain ⟨A9, c9, rfl, -⟩ := id HO9.out
        rw [List.length_append] at HT9 HO9
        go_wp2_with fail
        refine (same_x _ _ _ _ w9 HT9.out HO9.out (by have := HF.out.1; rw [List.length_append]; omega)).mono ?_
        rintro e w10 ⟨rfl, m, rfl⟩
        have HB10 := Lib.hid (below_drewN HB9.out m)
        simp only [beq_self_eq_true]
        go_wp2_with fail
        go_ret
        exact ⟨rfl, HB10.out⟩
      · rw [(print_long hlg).1, (print_long hlg).2]
        rw [mkS_nil]
        clear hlg
        go_wp2_with fail
        go_ret
        exact ⟨rfl, HB6.out⟩
end Go.Proofs.Ytfejepkpjoieoaa
