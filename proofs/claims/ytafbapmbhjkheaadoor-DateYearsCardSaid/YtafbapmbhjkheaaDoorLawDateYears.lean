/-
  The walk of the law DateYears.
-/
import Derived.Test.YtafbapmbhjkheaaDoorDtAwake
namespace Go.Proofs.YtafbapmbhjkheaaDoor
open Go.RowKit
theorem vld_first {y : Int} (h1 : 1970 ≤ y) (h2 : y ≤ 9999) : vldB y 1 1 = true := vldB_iff.2 ⟨h1, h2, by omega, by have := dim_bd y 1 (by omega) (by omega); omega⟩
theorem num_first (y : Int) : numD y 1 1 = begD y := by rw [numD, cum_1]; omega
theorem first_x (y : Int) (w : World) (hR : Ready w) (h1 : 1970 ≤ y) (h2 : y ≤ 9999) : Calls Tryd.prog 9 #[.agg #[.int .i64 y, .int .i64 1, .int .i64 1]] w fun e w' => e = .returned (.tuple #[.int .i64 (begD y), .int .i64 0]) ∧ Below w.heap.size w w' :=
  (days_x y 1 1 w hR).mono fun e w' ⟨he, hb⟩ => ⟨by rw [he, daysV, daysE, vld_first h1 h2, if_pos rfl, if_pos rfl, num_first], hb⟩
theorem beg_400 (y : Int) : begD (y + 400) = begD y + 146097 := by unfold begD aheadD; omega
theorem leap_400 (y : Int) : leapD (y + 400) = leapD y := by unfold leapD; rw [show (y + 400) % 4 = y % 4 by omega, show (y + 400) % 100 = y % 100 by omega, show (y + 400) % 400 = y % 400 by omega]
set_option maxRecDepth 100000 in
set_option maxHeartbeats 4000000 in
theorem dateYears_x (y : Int) (w : World) (hR0 : Ready w) (_ : IntKind.i64.min ≤ y) (_ : y ≤ IntKind.i64.max) : Calls Tryd.prog 7 #[.int .i64 y] w fun e w' => e = .returned (.bool true) ∧ Below w.heap.size w w' := by
  have HR := Lib.hid hR0
  have HA := Lib.hid (awake_x w hR0)
  clear hR0
  by_cases h1 : y < 1970
  · have d1 : decide (y < 1970) = true := decide_eq_true h1
    go_enter Tryd.func7, Tryd.ntmps7
    go_wp2_with fail
    refine HA.out.mono ?_
    rintro e w1 ⟨rfl, hb1⟩
    have HB1 := Lib.hid hb1
    clear hb1
    go_wp2_with fail
    go_ret
    exact ⟨rfl, HB1.out⟩
  · have d1 : decide (y < 1970) = false := decide_eq_false h1
    by_cases h2 : 9599 < y
    · have d2 : decide (9599 < y) = true := decide_eq_true h2
      go_enter Tryd.func7, Tryd.ntmps7
      go_wp2_with fail
      refine HA.out.mono ?_
      rintro e w1 ⟨rfl, hb1⟩
      have HB1 := Lib.hid hb1
      clear hb1
      go_wp2_with fail
      go_ret
      exact ⟨rfl, HB1.out⟩
    · have d2 : decide (9599 < y) = false := decide_eq_false h2
      have HC1 := Lib.hid (cum_1 y)
      have HC13 := Lib.hid (cum_13 y)
      have HF1 := Lib.hid (fun w hR => first_x y w hR (by omega) (by omega))
      have HF2 := Lib.hid (fun w hR => first_x (y + 1) w hR (by omega) (by omega))
      have HF3 := Lib.hid (fun w hR => first_x (y + 400) w hR (by omega) (by omega))
      have HL := Lib.hid (fun w => leap_x y w)
      have HL4 := Lib.hid (fun w => leap_x (y + 400) w)
      rw [leap_400] at HL4
      have hb1 := beg_bd (y := y) (by omega) (by omega)
      have hb2 := beg_bd (y := y + 1) (by omega) (by omega)
      have hb3 := beg_bd (y := y + 400) (by omega) (by omega)
      have hs1 := beg_succ y
      have hs4 := beg_400 y
      have HCS := Lib.hid (cum_succ y)
      have HCB := Lib.hid (fun (m : Int) => cum_bd y (m := m))
      have HDL := Lib.hid (dim_le y)
      have hlp := lp_01 y
      have HLP := Lib.hid (show lpD y = if leapD y then 1 else 0 from rfl)
      have HLN := Lib.hid (fun (m : Int) (w' : World) (h : Ready w') => len_x y m w' h)
      generalize begD y = a at HF1 hb1 hs1 hs4
      generalize begD (y + 1) = b at HF2 hb2 hs1
      generalize begD (y + 400) = c at HF3 hb3 hs4
      have e4 : ((c - a) == 146097) = true := beq_iff_eq.2 (by omega)
      have HS1 := Lib.hid hs1
      clear hs1 hs4
      generalize leapD y = lp at HL HL4 HLP
      go_enter Tryd.func7, Tryd.ntmps7
      go_wp2_with fail
      refine HA.out.mono ?_
      rintro e w1 ⟨rfl, hb1⟩
      have HB1 := Lib.hid hb1
      clear hb1
      go_wp2_with fail
      go_loop [3, 4] (fun n k => ∃ m : Int, 1 ≤ m ∧ m ≤ 13 ∧ k = .int .i64 m ∧ n = .int .i64 (cumD y m)) (fun _ k => (13 - intOf k).toNat)
      case atStart => exact ⟨1, by omega, by omega, rfl, by rw [HC1.out]⟩
      case round =>
        obtain ⟨m, hm1, hm2, rfl, rfl⟩ := hrel
        have cb := HCB.out m (by omega) (by omega)
        by_cases hm : m ≤ 12
        · have hdl := HDL.out m
          have CS := Lib.hid (HCS.out m hm1 hm)
          have HJ := Lib.hid (HLN.out m)
          generalize dimD y m = dj at CS HJ hdl
          generalize cumD y m = cj at CS cb
          go_wp2_with fail
          refine (HJ.out _ (HR.out.below HB1.out)).mono ?_
          rintro e w' ⟨rfl, rfl⟩
          go_wp2_with fail
          go_round
          case rel => exact ⟨m + 1, by omega, by omega, rfl, by rw [CS.out]⟩
          case measure => simp [intOf]; omega
        · obtain rfl : m = 13 := by omega
          rw [HC13.out] at cb ⊢
          generalize lpD y = lv at *
          cases lp
          · obtain rfl : lv = 0 := HLP.out
            have e1 : ((b - a) == 365) = true := beq_iff_eq.2 (by have := HS1.out; omega)
            go_wp2_with fail
            refine (HF1.out _ (HR.out.below HB1.out)).mono ?_
            rintro e w2 ⟨rfl, hb⟩
            have HB2 := Lib.hid (below_next HB1.out hb)
            clear hb
            go_wp2_with fail
            refine (HF2.out _ (HR.out.below HB2.out)).mono ?_
            rintro e w3 ⟨rfl, hb⟩
            have HB3 := Lib.hid (below_next HB2.out hb)
            clear hb
            go_wp2_with fail
            refine (HF3.out _ (HR.out.below HB3.out)).mono ?_
            rintro e w4 ⟨rfl, hb⟩
            have HB4 := Lib.hid (below_next HB3.out hb)
            clear hb
            go_wp2_with fail
            refine (HL.out _).mono ?_
            rintro e w' ⟨rfl, rfl⟩
            go_wp2_with fail
            refine (HL.out _).mono ?_
            rintro e w' ⟨rfl, rfl⟩
            go_wp2_with fail
            refine (HL.out _).mono ?_
            rintro e w' ⟨rfl, rfl⟩
            go_wp2_with fail
            refine (HL4.out _).mono ?_
            rintro e w' ⟨rfl, rfl⟩
            go_wp2_with fail
            go_ret
            exact ⟨rfl, HB4.out⟩
          · obtain rfl : lv = 1 := HLP.out
            have e1 : ((b - a) == 366) = true := beq_iff_eq.2 (by have := HS1.out; omega)
            go_wp2_with fail
            refine (HF1.out _ (HR.out.below HB1.out)).mono ?_
            rintro e w2 ⟨rfl, hb⟩
            have HB2 := Lib.hid (below_next HB1.out hb)
            clear hb
            go_wp2_with fail
            refine (HF2.out _ (HR.out.below HB2.out)).mono ?_
            rintro e w3 ⟨rfl, hb⟩
            have HB3 := Lib.hid (below_next HB2.out hb)
            clear hb
            go_wp2_with fail
            refine (HF3.out _ (HR.out.below HB3.out)).mono ?_
            rintro e w4 ⟨rfl, hb⟩
            have HB4 := Lib.hid (below_next HB3.out hb)
            clear hb
            go_wp2_with fail
            refine (HL.out _).mono ?_
            rintro e w' ⟨rfl, rfl⟩
            go_wp2_with fail
            refine (HL.out _).mono ?_
            rintro e w' ⟨rfl, rfl⟩
            go_wp2_with fail
            refine (HL.out _).mono ?_
            rintro e w' ⟨rfl, rfl⟩
            go_wp2_with fail
            refine (HL4.out _).mono ?_
            rintro e w' ⟨rfl, rfl⟩
            go_wp2_with fail
            go_ret
            exact ⟨rfl, HB4.out⟩
end Go.Proofs.YtafbapmbhjkheaaDoor
