/-
  The walk of the law DateBack.
-/
import Derived.Test.YtafbapmbhjkheaaDoorDtAwake
import Derived.Test.YtafbapmbhjkheaaDoorPrBack
namespace Go.Proofs.YtafbapmbhjkheaaDoor
open Go.RowKit
/-- Days of a date, by whether it is one. -/
theorem daysT_x {y m d : Int} (h : vldB y m d = true) (w : World) (hR : Ready w) : Calls Tryd.prog 9 #[.agg #[.int .i64 y, .int .i64 m, .int .i64 d]] w fun e w' => e = .returned (.tuple #[.int .i64 (numD y m d), .int .i64 0]) ∧ Below w.heap.size w w' :=
  (days_x y m d w hR).mono fun e w' ⟨he, hb⟩ => ⟨by rw [he, daysV, daysE, h]; rfl, hb⟩
theorem daysF_x {y m d : Int} (h : vldB y m d = false) (w : World) (hR : Ready w) : Calls Tryd.prog 9 #[.agg #[.int .i64 y, .int .i64 m, .int .i64 d]] w fun e w' => e = .returned (.tuple #[.int .i64 0, .int .i64 1]) ∧ Below w.heap.size w w' :=
  (days_x y m d w hR).mono fun e w' ⟨he, hb⟩ => ⟨by rw [he, daysV, daysE, h]; rfl, hb⟩
theorem ofT_x {y m d : Int} (h : Vld y m d) (w : World) (hR : Ready w) : Calls Tryd.prog 11 #[.int .i64 (numD y m d)] w fun e w' => e = .returned (.tuple #[.agg #[.int .i64 y, .int .i64 m, .int .i64 d], .int .i64 0]) ∧ Below w.heap.size w w' :=
  (of_x (numD y m d) w hR).mono fun e w' ⟨he, hb⟩ => ⟨by rw [he, ofV_yes h rfl], hb⟩
theorem printF_x {t : Int} (h : timB t = false) (w : World) (hR : Ready w) : Calls Tryd.prog 15 #[.int .i64 t] w fun e w' => e = .returned (.tuple #[.string { data := #[] }, .int .i64 1]) ∧ Below w.heap.size w w' :=
  (print_x t w hR).mono fun e w' ⟨he, hb⟩ => ⟨by rw [he, (print_none h).1, (print_none h).2]; rfl, hb⟩
theorem printT_x {t : Int} (h : timB t = true) (w : World) (hR : Ready w) : Calls Tryd.prog 15 #[.int .i64 t] w fun e w' => e = .returned (.tuple #[.string (mkS (printS t)), .int .i64 0]) ∧ Below w.heap.size w w' :=
  (print_x t w hR).mono fun e w' ⟨he, hb⟩ => ⟨by rw [he, (back_x h).2.2.1], hb⟩
theorem parseP_x {t : Int} (h : timB t = true) (w : World) (hR : Ready w) : Calls Tryd.prog 13 #[.string (mkS (printS t))] w fun e w' => e = .returned (.tuple #[.int .i64 t, .int .i64 0]) ∧ Below w.heap.size w w' :=
  (parse_x (printS t) w (by rw [(back_x h).2.2.2]; omega) hR).mono fun e w' ⟨he, hb⟩ => ⟨by rw [he, (back_x h).1, (back_x h).2.1], hb⟩
theorem tim_no {t : Int} (h : timB t = false) : t < 0 ∨ 253402300799 < t := by
  by_cases h0 : t < 0
  · exact .inl h0
  · refine .inr ?_
    rcases Int.lt_or_le 253402300799 t with h1 | h1
    · exact h1
    · rw [timB_iff.2 ⟨by omega, h1⟩] at h; cases h
/-- What becomes of a text: it is a time's, or none. -/
theorem parseC_x (l : List UInt8) (hl : l.length ≤ 1000000000000) : (∃ p, timB p = true ∧ ∀ w, Ready w → Calls Tryd.prog 13 #[.string (mkS l)] w fun e w' => e = .returned (.tuple #[.int .i64 p, .int .i64 0]) ∧ Below w.heap.size w w') ∨
    (∃ p e0 : Int, e0 ≠ 0 ∧ ∀ w, Ready w → Calls Tryd.prog 13 #[.string (mkS l)] w fun e w' => e = .returned (.tuple #[.int .i64 p, .int .i64 e0]) ∧ Below w.heap.size w w') := by
  by_cases h : parseE l = 0
  · refine .inl ⟨parseV l, parse_time h, fun w hR => (parse_x l w hl hR).mono fun e w' ⟨he, hb⟩ => ⟨by rw [he, h], hb⟩⟩
  · exact .inr ⟨parseV l, parseE l, h, fun w hR => parse_x l w hl hR⟩
set_option maxRecDepth 100000 in
set_option maxHeartbeats 8000000 in
theorem dateBack_x (y m d t : Int) (l : List UInt8) (w : World) (hR0 : Ready w) (_ : IntKind.i64.min ≤ t) (_ : t ≤ IntKind.i64.max) (_ : l.length ≤ 140737488355328) :
    Calls Tryd.prog 4 #[.agg #[.int .i64 y, .int .i64 m, .int .i64 d], .int .i64 t, .string (mkS l)] w fun e w' => e = .returned (.bool true) ∧ Below w.heap.size w w' := by
  have HR := Lib.hid hR0
  have HA := Lib.hid (fun w hR => awake_x w hR)
  have hms := mkS_size l
  clear hR0
  by_cases h200 : 200 < l.length
  · have dl : decide ((200 : Int) < (l.length : Int)) = true := decide_eq_true (by omega)
    go_enter Tryd.func4, Tryd.ntmps4
    go_wp2_with fail
    refine (HA.out _ (HR.out.below (below_box _ _ 0))).mono ?_
    rintro e w1 ⟨rfl, hb1⟩
    have HB1 := Lib.hid (below_next (below_box _ _ 0) hb1)
    clear hb1
    go_wp2_with fail
    go_ret
    exact ⟨rfl, HB1.out⟩
  · have dl : decide ((200 : Int) < (l.length : Int)) = false := decide_eq_false (by omega)
    have HPC := Lib.hid (parseC_x l (by omega))
    have HVC := Lib.hid (show vldB y m d = true ∨ vldB y m d = false by cases vldB y m d <;> simp)
    have HTC := Lib.hid (show timB t = true ∨ timB t = false by cases timB t <;> simp)
    go_enter Tryd.func4, Tryd.ntmps4
    go_wp2_with fail
    refine (HA.out _ (HR.out.below (below_box _ _ 0))).mono ?_
    rintro e w1 ⟨rfl, hb1⟩
    have P1 := Lib.hid ((aw_new (Below.refl w.heap.size w) y m d).next hb1)
    clear hb1
    have hc0 := cellOf P1.out.box 0
    have hc1 := cellOf P1.out.box 1
    have hc2 := cellOf P1.out.box 2
    rcases HVC.out with hv | hv
    · have HD := Lib.hid (fun w hR => daysT_x hv w hR)
      have HO := Lib.hid (fun w hR => ofT_x (vldB_iff.1 hv) w hR)
      clear hv
      go_wp2_with fail
      refine (HD.out _ (HR.out.below P1.out.below)).mono ?_
      rintro e w2 ⟨rfl, hb⟩
      have P2 := Lib.hid (P1.out.next hb)
      clear hb hc0 hc1 hc2
      go_wp2_with fail
      refine (HO.out _ (HR.out.below P2.out.below)).mono ?_
      rintro e w3 ⟨rfl, hb⟩
      have P3 := Lib.hid (P2.out.next hb)
      have hz3 := ltOf P3.out.box
      clear hb
      have hc0 := cellOf P3.out.box 0
      have hc1 := cellOf P3.out.box 1
      have hc2 := cellOf P3.out.box 2
      go_wp2_with fail
      have HB4 := Lib.hid (P3.out.below.alloc P3.out.below.size (.cells #[.int .i64 y, .int .i64 m, .int .i64 d] 23))
      clear hc0 hc1 hc2
      rcases HPC.out with ⟨p, hp, hpc⟩ | ⟨p, e0, he0, hpc⟩
      · have HP := Lib.hid hpc
        have HPp := Lib.hid (fun w hR => printT_x hp w hR)
        have HPq := Lib.hid (fun w hR => parseP_x hp w hR)
        have hus := mkS_size (printS p)
        have hul := (back_x hp).2.2.2
        generalize printS p = u at HPp HPq hus hul
        rw [hul] at hus
        clear hp hpc hul
        refine (HP.out _ (HR.out.below HB4.out)).mono ?_
        rintro e w5 ⟨rfl, hb⟩
        have HB5 := Lib.hid (below_next HB4.out hb)
        clear hb
        go_wp2_with fail
        refine (HPp.out _ (HR.out.below HB5.out)).mono ?_
        rintro e w6 ⟨rfl, hb⟩
        have HB6 := Lib.hid (below_next HB5.out hb)
        clear hb
        go_wp2_with fail
        refine (HPq.out _ (HR.out.below HB6.out)).mono ?_
        rintro e w7 ⟨rfl, hb⟩
        have HB7 := Lib.hid (below_next HB6.out hb)
        clear hb
        go_wp2_with fail
        rcases HTC.out with ht | ht
        · have HQ := Lib.hid (fun w hR => printT_x ht w hR)
          have HS := Lib.hid (fun w hR => parseP_x ht w hR)
          generalize printS t = u at HQ HS
          clear ht
          refine (HQ.out _ (HR.out.below HB7.out)).mono ?_
          rintro e w8 ⟨rfl, hb⟩
          have HB8 := Lib.hid (below_next HB7.out hb)
          clear hb
          go_wp2_with fail
          refine (HS.out _ (HR.out.below HB8.out)).mono ?_
          rintro e w9 ⟨rfl, hb⟩
          have HB9 := Lib.hid (below_next HB8.out hb)
          clear hb
          go_wp2_with fail
          go_ret
          exact ⟨rfl, HB9.out⟩
        · have HQ := Lib.hid (fun w hR => printF_x ht w hR)
          have hr : t < 0 ∨ 253402300799 < t := tim_no ht
          clear ht
          refine (HQ.out _ (HR.out.below HB7.out)).mono ?_
          rintro e w8 ⟨rfl, hb⟩
          have HB8 := Lib.hid (below_next HB7.out hb)
          clear hb
          rcases hr with hr | hr
          · have dr : decide (t < 0) = true := decide_eq_true hr
            go_wp2_with fail
            go_ret
            exact ⟨rfl, HB8.out⟩
          · have dr1 : decide (t < 0) = false := decide_eq_false (by omega)
            have dr2 : decide (253402300799 < t) = true := decide_eq_true hr
            go_wp2_with fail
            go_ret
            exact ⟨rfl, HB8.out⟩
      · have HP := Lib.hid hpc
        have hq : (e0 == 0) = false := beq_eq_false_iff_ne.2 he0
        clear he0 hpc
        refine (HP.out _ (HR.out.below HB4.out)).mono ?_
        rintro e w5 ⟨rfl, hb⟩
        have HB5 := Lib.hid (below_next HB4.out hb)
        clear hb
        go_wp2_with fail
        rcases HTC.out with ht | ht
        · have HQ := Lib.hid (fun w hR => printT_x ht w hR)
          have HS := Lib.hid (fun w hR => parseP_x ht w hR)
          generalize printS t = u at HQ HS
          clear ht
          refine (HQ.out _ (HR.out.below HB5.out)).mono ?_
          rintro e w6 ⟨rfl, hb⟩
          have HB6 := Lib.hid (below_next HB5.out hb)
          clear hb
          go_wp2_with fail
          refine (HS.out _ (HR.out.below HB6.out)).mono ?_
          rintro e w7 ⟨rfl, hb⟩
          have HB7 := Lib.hid (below_next HB6.out hb)
          clear hb
          go_wp2_with fail
          go_ret
          exact ⟨rfl, HB7.out⟩
        · have HQ := Lib.hid (fun w hR => printF_x ht w hR)
          have hr : t < 0 ∨ 253402300799 < t := tim_no ht
          clear ht
          refine (HQ.out _ (HR.out.below HB5.out)).mono ?_
          rintro e w6 ⟨rfl, hb⟩
          have HB6 := Lib.hid (below_next HB5.out hb)
          clear hb
          rcases hr with hr | hr
          · have dr : decide (t < 0) = true := decide_eq_true hr
            go_wp2_with fail
            go_ret
            exact ⟨rfl, HB6.out⟩
          · have dr1 : decide (t < 0) = false := decide_eq_false (by omega)
            have dr2 : decide (253402300799 < t) = true := decide_eq_true hr
            go_wp2_with fail
            go_ret
            exact ⟨rfl, HB6.out⟩
    · have HD := Lib.hid (fun w hR => daysF_x hv w hR)
      clear hv
      go_wp2_with fail
      refine (HD.out _ (HR.out.below P1.out.below)).mono ?_
      rintro e w2 ⟨rfl, hb⟩
      have HB4 := Lib.hid (below_next P1.out.below hb)
      clear hb hc0 hc1 hc2
      go_wp2_with fail
      rcases HPC.out with ⟨p, hp, hpc⟩ | ⟨p, e0, he0, hpc⟩
      · have HP := Lib.hid hpc
        have HPp := Lib.hid (fun w hR => printT_x hp w hR)
        have HPq := Lib.hid (fun w hR => parseP_x hp w hR)
        have hus := mkS_size (printS p)
        have hul := (back_x hp).2.2.2
        generalize printS p = u at HPp HPq hus hul
        rw [hul] at hus
        clear hp hpc hul
        refine (HP.out _ (HR.out.below HB4.out)).mono ?_
        rintro e w5 ⟨rfl, hb⟩
        have HB5 := Lib.hid (below_next HB4.out hb)
        clear hb
        go_wp2_with fail
        refine (HPp.out _ (HR.out.below HB5.out)).mono ?_
        rintro e w6 ⟨rfl, hb⟩
        have HB6 := Lib.hid (below_next HB5.out hb)
        clear hb
        go_wp2_with fail
        refine (HPq.out _ (HR.out.below HB6.out)).mono ?_
        rintro e w7 ⟨rfl, hb⟩
        have HB7 := Lib.hid (below_next HB6.out hb)
        clear hb
        go_wp2_with fail
        rcases HTC.out with ht | ht
        · have HQ := Lib.hid (fun w hR => printT_x ht w hR)
          have HS := Lib.hid (fun w hR => parseP_x ht w hR)
          generalize printS t = u at HQ HS
          clear ht
          refine (HQ.out _ (HR.out.below HB7.out)).mono ?_
          rintro e w8 ⟨rfl, hb⟩
          have HB8 := Lib.hid (below_next HB7.out hb)
          clear hb
          go_wp2_with fail
          refine (HS.out _ (HR.out.below HB8.out)).mono ?_
          rintro e w9 ⟨rfl, hb⟩
          have HB9 := Lib.hid (below_next HB8.out hb)
          clear hb
          go_wp2_with fail
          go_ret
          exact ⟨rfl, HB9.out⟩
        · have HQ := Lib.hid (fun w hR => printF_x ht w hR)
          have hr : t < 0 ∨ 253402300799 < t := tim_no ht
          clear ht
          refine (HQ.out _ (HR.out.below HB7.out)).mono ?_
          rintro e w8 ⟨rfl, hb⟩
          have HB8 := Lib.hid (below_next HB7.out hb)
          clear hb
          rcases hr with hr | hr
          · have dr : decide (t < 0) = true := decide_eq_true hr
            go_wp2_with fail
            go_ret
            exact ⟨rfl, HB8.out⟩
          · have dr1 : decide (t < 0) = false := decide_eq_false (by omega)
            have dr2 : decide (253402300799 < t) = true := decide_eq_true hr
            go_wp2_with fail
            go_ret
            exact ⟨rfl, HB8.out⟩
      · have HP := Lib.hid hpc
        have hq : (e0 == 0) = false := beq_eq_false_iff_ne.2 he0
        clear he0 hpc
        refine (HP.out _ (HR.out.below HB4.out)).mono ?_
        rintro e w5 ⟨rfl, hb⟩
        have HB5 := Lib.hid (below_next HB4.out hb)
        clear hb
        go_wp2_with fail
        rcases HTC.out with ht | ht
        · have HQ := Lib.hid (fun w hR => printT_x ht w hR)
          have HS := Lib.hid (fun w hR => parseP_x ht w hR)
          generalize printS t = u at HQ HS
          clear ht
          refine (HQ.out _ (HR.out.below HB5.out)).mono ?_
          rintro e w6 ⟨rfl, hb⟩
          have HB6 := Lib.hid (below_next HB5.out hb)
          clear hb
          go_wp2_with fail
          refine (HS.out _ (HR.out.below HB6.out)).mono ?_
          rintro e w7 ⟨rfl, hb⟩
          have HB7 := Lib.hid (below_next HB6.out hb)
          clear hb
          go_wp2_with fail
          go_ret
          exact ⟨rfl, HB7.out⟩
        · have HQ := Lib.hid (fun w hR => printF_x ht w hR)
          have hr : t < 0 ∨ 253402300799 < t := tim_no ht
          clear ht
          refine (HQ.out _ (HR.out.below HB5.out)).mono ?_
          rintro e w6 ⟨rfl, hb⟩
          have HB6 := Lib.hid (below_next HB5.out hb)
          clear hb
          rcases hr with hr | hr
          · have dr : decide (t < 0) = true := decide_eq_true hr
            go_wp2_with fail
            go_ret
            exact ⟨rfl, HB6.out⟩
          · have dr1 : decide (t < 0) = false := decide_eq_false (by omega)
            have dr2 : decide (253402300799 < t) = true := decide_eq_true hr
            go_wp2_with fail
            go_ret
            exact ⟨rfl, HB6.out⟩
end Go.Proofs.YtafbapmbhjkheaaDoor
