/-
  The walk of the reference's Parse, of a text in another zone.
-/
import Derived.Test.YtafbapmbhjkheaaDoorDrParse
namespace Go.Proofs.YtafbapmbhjkheaaDoor
open Go.RowKit
set_option maxRecDepth 100000 in
set_option maxHeartbeats 8000000 in
theorem rparse_M (l : List UInt8) (w : World) (hl : l.length ≤ 1000000000000) (hz : likeX l formM = true) : Calls Tryd.prog 14 #[.string (mkS l)] w (ParsePost l w) := by
  have hf : formedX l = true := by unfold formedX; rw [hz]; simp
  have hS := shp hf
  have hms := mkS_size l
  have hlen : 20 ≤ l.length := hS.len.1
  have hlen2 : l.length ≤ 25 := hS.len.2
  have H1 := Lib.hid (fun w => shapeZ_x l w hl)
  have H2 := Lib.hid (fun w => shapeP_x l w hl)
  have H3 := Lib.hid (fun w => shapeM_x l w hl)
  have N1 := Lib.hid (fun w => rnum_x hS.r0 (by omega) (b := 4) rfl w)
  have N2 := Lib.hid (fun w => rnum_x hS.r5 (by omega) (b := 7) rfl w)
  have N3 := Lib.hid (fun w => rnum_x hS.r8 (by omega) (b := 10) rfl w)
  have N4 := Lib.hid (fun w => still0 (rnum_x hS.r11 (by omega) (b := 13) rfl w))
  have N5 := Lib.hid (fun w => still0 (rnum_x hS.r14 (by omega) (b := 16) rfl w))
  have N6 := Lib.hid (fun w => still0 (rnum_x hS.r17 (by omega) (b := 19) rfl w))
  have b4 := fld_bd2 hS.r11
  have b5 := fld_bd2 hS.r14
  have b6 := fld_bd2 hS.r17
  have HOK := Lib.hid (show okX l = (vldB (fld l 0 4) (fld l 5 2) (fld l 8 2) && secB (fld l 11 2) (fld l 14 2) (fld l 17 2) && secB (fld l 20 2) (fld l 23 2) 0 && timB (parseT l)) from rfl)
  have HPT := Lib.hid (show parseT l = numD (fld l 0 4) (fld l 5 2) (fld l 8 2) * 86400 + (fld l 11 2 * 3600 + fld l 14 2 * 60 + fld l 17 2) - sgnX l * (fld l 20 2 * 3600 + fld l 23 2 * 60) from rfl)
  have HBD := Lib.hid (bad_of hf)
  have HGD := Lib.hid (good_of hf)
  have hl25 : l.length = 25 := likeX_len hz
  have h19 : l[19]? = some 45 := sign_get hz (by decide) (by decide)
  have hnz : likeX l formZ = false := Bool.eq_false_iff.2 fun e => by have := likeX_len e; rw [hl25] at this; cases this
  rw [hnz] at H1
  have hnp : likeX l formP = false := Bool.eq_false_iff.2 fun e => by have h := sign_get e (a := 19) (f := 43) (by decide) (by decide); rw [h19] at h; cases h
  rw [hnp] at H2
  rw [hz] at H3
  have hsg : sgnX l = -1 := by unfold sgnX; rw [h19]; rfl
  obtain ⟨_, _, hr7, _, hr8, _⟩ : l.length = 25 ∧ (l[19]? = some 43 ∨ l[19]? = some 45) ∧ Run l 20 2 ∧ Ends l 22 ∧ Run l 23 2 ∧ Ends l 25 := by
    rcases hS.zone with h | h
    · have := h.1; omega
    · exact h
  have N7 := Lib.hid (fun w => still0 (rnum_x hr7 (by omega) (b := 22) rfl w))
  have N8 := Lib.hid (fun w => still0 (rnum_x hr8 (by omega) (b := 25) rfl w))
  have b7 := fld_bd2 hr7
  have b8 := fld_bd2 hr8
  rw [hsg] at HPT
  generalize fld l 20 2 = ZH at N7 HOK HPT b7
  generalize fld l 23 2 = ZM at N8 HOK HPT b8
  generalize fld l 0 4 = Y at N1 HOK HPT
  generalize fld l 5 2 = M at N2 HOK HPT
  generalize fld l 8 2 = D at N3 HOK HPT
  generalize fld l 11 2 = H at N4 HOK HPT b4
  generalize fld l 14 2 = I at N5 HOK HPT b5
  generalize fld l 17 2 = S at N6 HOK HPT b6
  have HDY := Lib.hid (fun (w' : World) => rdays_x Y M D w')
  unfold DaysPost at HDY
  have HDV := Lib.hid (show daysV Y M D = (if vldB Y M D then numD Y M D else 0) from rfl)
  have HDE := Lib.hid (show daysE Y M D = (if vldB Y M D then 0 else 1) from rfl)
  have HNB := Lib.hid (show vldB Y M D = true → 0 ≤ numD Y M D ∧ numD Y M D ≤ 2932896 from fun h => (vldB_iff.1 h).num_bd)
  generalize daysV Y M D = dv at HDY HDV
  generalize daysE Y M D = de at HDY HDE
  generalize numD Y M D = nd at HDV HNB HPT
  generalize vldB Y M D = vb at HDV HDE HNB HOK
  clear hf hS hz h19 hr7 hr8 hsg hnz hnp
  go_enter Tryd.func14, Tryd.ntmps14
  go_wp2_with fail
  refine (H1.out _).mono ?_
  rintro e w' ⟨rfl, k1, rfl⟩
  go_wp2_with fail
  refine (H2.out _).mono ?_
  rintro e w' ⟨rfl, k2, rfl⟩
  go_wp2_with fail
  refine (H3.out _).mono ?_
  rintro e w' ⟨rfl, k3, rfl⟩
  go_wp2_with fail
  have HW := Lib.hid (fun n => below_drewN (Below.refl w.heap.size w) n)
  go_region_held3 (fun _ => True) (trivial) (first
    | (go_at_call 32; (with_reducible refine (N1.out _).mono ?_); rintro e w' ⟨rfl, rfl⟩)
    | (go_at_call 32; (with_reducible refine (N2.out _).mono ?_); rintro e w' ⟨rfl, rfl⟩)
    | (go_at_call 32; (with_reducible refine (N3.out _).mono ?_); rintro e w' ⟨rfl, rfl⟩)
    | (go_at_call 10; (with_reducible refine (HDY.out _).mono ?_); rintro e w4 ⟨rfl, hb4⟩))
  all_goals
    have P4 := Lib.hid (show Below w.heap.size w w4 from ⟨hb4.os, hb4.tape, hb4.output, hb4.size, hb4.block⟩)
    clear hb4
    go_wp2_with fail
    go_quiet ((go_at_call 32; first | (with_reducible exact Calls.quiet_of_same (N4.out _)) | (with_reducible exact Calls.quiet_of_same (N5.out _)) | (with_reducible exact Calls.quiet_of_same (N6.out _))))
    cases vb
    · obtain rfl : de = 1 := HDE.out
      go_wp2_with fail
      go_ret2
      exact parse_end (HBD.out (by rw [HOK.out]; simp)).1 (HBD.out (by rw [HOK.out]; simp)).2 (below_drewN P4.out _)
    · obtain rfl : de = 0 := HDE.out
      obtain rfl : dv = nd := HDV.out
      have hnb := HNB.out rfl
      by_cases hq : 23 < H
      · have dq : decide (23 < H) = true := decide_eq_true hq
        rw [secB_no (h := H) (m := I) (s := S) (by omega)] at HOK
        go_wp2_with fail
        go_ret2
        exact parse_end (HBD.out (by rw [HOK.out]; simp)).1 (HBD.out (by rw [HOK.out]; simp)).2 (below_drewN P4.out _)
      · have dq1 : decide (23 < H) = false := decide_eq_false hq
        clear hq
        by_cases hq : 59 < I
        · have dq : decide (59 < I) = true := decide_eq_true hq
          rw [secB_no (h := H) (m := I) (s := S) (by omega)] at HOK
          go_wp2_with fail
          go_ret2
          exact parse_end (HBD.out (by rw [HOK.out]; simp)).1 (HBD.out (by rw [HOK.out]; simp)).2 (below_drewN P4.out _)
        · have dq2 : decide (59 < I) = false := decide_eq_false hq
          clear hq
          by_cases hq : 59 < S
          · have dq : decide (59 < S) = true := decide_eq_true hq
            rw [secB_no (h := H) (m := I) (s := S) (by omega)] at HOK
            go_wp2_with fail
            go_ret2
            exact parse_end (HBD.out (by rw [HOK.out]; simp)).1 (HBD.out (by rw [HOK.out]; simp)).2 (below_drewN P4.out _)
          · have dq3 : decide (59 < S) = false := decide_eq_false hq
            clear hq
            rw [secB_yes (h := H) (m := I) (s := S) (le_of_no dq1) (le_of_no dq2) (le_of_no dq3)] at HOK
            have HT := Lib.hid (show parseT l = dv * 86400 + H * 3600 + I * 60 + S + ZH * 3600 + ZM * 60 by rw [HPT.out]; omega)
            rw [HT.out] at HOK HGD
            clear HPT
            go_wp2_with fail
            go_quiet ((go_at_call 32; first | (with_reducible exact quiet_more (N7.out _)) | (with_reducible exact quiet_more (N8.out _)) | (with_reducible exact Calls.quiet_of_same (N7.out _)) | (with_reducible exact Calls.quiet_of_same (N8.out _))))
            by_cases hz1 : 23 < ZH
            · have dz : decide (23 < ZH) = true := decide_eq_true hz1
              rw [secB_no (h := ZH) (m := ZM) (s := 0) (by omega)] at HOK
              clear hz1
              go_wp2_with fail
              go_ret2
              exact parse_end (HBD.out (by rw [HOK.out]; simp)).1 (HBD.out (by rw [HOK.out]; simp)).2 (below_drewN P4.out _)
            · have dz1 : decide (23 < ZH) = false := decide_eq_false hz1
              by_cases hz2 : 59 < ZM
              · have dz : decide (59 < ZM) = true := decide_eq_true hz2
                rw [secB_no (h := ZH) (m := ZM) (s := 0) (by omega)] at HOK
                clear hz1 hz2
                go_wp2_with fail
                go_ret2
                exact parse_end (HBD.out (by rw [HOK.out]; simp)).1 (HBD.out (by rw [HOK.out]; simp)).2 (below_drewN P4.out _)
              · have dz2 : decide (59 < ZM) = false := decide_eq_false hz2
                rw [secB_yes (h := ZH) (m := ZM) (s := 0) (by omega) (by omega) (by omega)] at HOK
                clear hz1 hz2
                by_cases hq : dv * 86400 + H * 3600 + I * 60 + S + ZH * 3600 + ZM * 60 < 0
                · have dt : decide (dv * 86400 + H * 3600 + I * 60 + S + ZH * 3600 + ZM * 60 < 0) = true := decide_eq_true hq
                  rw [tim_f' (.inl hq)] at HOK
                  clear hq
                  go_wp2_with fail
                  go_ret2
                  exact parse_end (HBD.out (by rw [HOK.out]; simp)).1 (HBD.out (by rw [HOK.out]; simp)).2 (below_drewN P4.out _)
                · have dt1 : decide (dv * 86400 + H * 3600 + I * 60 + S + ZH * 3600 + ZM * 60 < 0) = false := decide_eq_false hq
                  by_cases hq2 : 253402300799 < dv * 86400 + H * 3600 + I * 60 + S + ZH * 3600 + ZM * 60
                  · have dt : decide (253402300799 < dv * 86400 + H * 3600 + I * 60 + S + ZH * 3600 + ZM * 60) = true := decide_eq_true hq2
                    rw [tim_f' (.inr hq2)] at HOK
                    clear hq hq2
                    go_wp2_with fail
                    go_ret2
                    exact parse_end (HBD.out (by rw [HOK.out]; simp)).1 (HBD.out (by rw [HOK.out]; simp)).2 (below_drewN P4.out _)
                  · have dt : decide (253402300799 < dv * 86400 + H * 3600 + I * 60 + S + ZH * 3600 + ZM * 60) = false := decide_eq_false hq2
                    rw [timB_iff.2 ⟨by omega, by omega⟩] at HOK
                    clear hq hq2
                    go_wp2_with fail
                    go_ret2
                    exact parse_end (HGD.out (by rw [HOK.out]; rfl)).1 (HGD.out (by rw [HOK.out]; rfl)).2 (below_drewN P4.out _)
end Go.Proofs.YtafbapmbhjkheaaDoor
