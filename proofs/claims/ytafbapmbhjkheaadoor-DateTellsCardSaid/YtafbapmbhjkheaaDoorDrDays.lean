/-
  The walks of the reference's Days and Of.
-/
import Derived.Test.YtafbapmbhjkheaaDoorDrSmall
namespace Go.Proofs.YtafbapmbhjkheaaDoor
open Go.RowKit
set_option maxRecDepth 100000 in
set_option maxHeartbeats 4000000 in
theorem rdays_x (y m d : Int) (w : World) : Calls Tryd.prog 10 #[.agg #[.int .i64 y, .int .i64 m, .int .i64 d]] w (DaysPost y m d w) := by
  by_cases h0 : y < 1970
  · have d0 : decide (y < 1970) = true := decide_eq_true h0
    have HN := Lib.hid (vldB_no (y := y) (m := m) (d := d) (by have := @dim_no y m; omega))
    go_enter Tryd.func10, Tryd.ntmps10
    go_wp2_with fail
    go_quiet (fail)
    go_wp2_with fail
    go_ret2
    exact days_no HN.out (below_box _ _ _)
  · have d0 : decide (y < 1970) = false := decide_eq_false h0
    by_cases h1 : 9999 < y
    · have d1 : decide (9999 < y) = true := decide_eq_true h1
      have HN := Lib.hid (vldB_no (y := y) (m := m) (d := d) (by have := @dim_no y m; omega))
      go_enter Tryd.func10, Tryd.ntmps10
      go_wp2_with fail
      go_quiet (fail)
      go_wp2_with fail
      go_ret2
      exact days_no HN.out (below_box _ _ _)
    · have d1 : decide (9999 < y) = false := decide_eq_false h1
      by_cases h2 : m < 1
      · have d2 : decide (m < 1) = true := decide_eq_true h2
        have HN := Lib.hid (vldB_no (y := y) (m := m) (d := d) (by have := @dim_no y m; omega))
        go_enter Tryd.func10, Tryd.ntmps10
        go_wp2_with fail
        go_quiet (fail)
        go_wp2_with fail
        go_ret2
        exact days_no HN.out (below_box _ _ _)
      · have d2 : decide (m < 1) = false := decide_eq_false h2
        by_cases h3 : 12 < m
        · have d3 : decide (12 < m) = true := decide_eq_true h3
          have HN := Lib.hid (vldB_no (y := y) (m := m) (d := d) (by have := @dim_no y m; omega))
          go_enter Tryd.func10, Tryd.ntmps10
          go_wp2_with fail
          go_quiet (fail)
          go_wp2_with fail
          go_ret2
          exact days_no HN.out (below_box _ _ _)
        · have d3 : decide (12 < m) = false := decide_eq_false h3
          by_cases h4 : d < 1
          · have d4 : decide (d < 1) = true := decide_eq_true h4
            have HN := Lib.hid (vldB_no (y := y) (m := m) (d := d) (by have := @dim_no y m; omega))
            go_enter Tryd.func10, Tryd.ntmps10
            go_wp2_with fail
            go_quiet (fail)
            go_wp2_with fail
            go_ret2
            exact days_no HN.out (below_box _ _ _)
          · have d4 : decide (d < 1) = false := decide_eq_false h4
            have HL := Lib.hid (fun (w' : World) => rlen_x y m w')
            have HLs := Lib.hid (fun (n : Nat) => still0 (rlen_x y m ((w.alloc (.cells #[.int .i64 y, .int .i64 m, .int .i64 d] 30)).drewN n)))
            by_cases h9 : dimD y m < d
            · have d9 : decide (dimD y m < d) = true := decide_eq_true h9
              have HN := Lib.hid (vldB_no (y := y) (m := m) (d := d) (by omega))
              generalize dimD y m = q at HLs d9 h9
              go_enter Tryd.func10, Tryd.ntmps10
              go_wp2_with fail
              go_quiet ((go_at_call 20; exact Calls.quiet_of_same (HLs.out _)))
              go_wp2_with fail
              go_ret2
              exact days_no HN.out (below_box _ _ _)
            · have d9 : decide (dimD y m < d) = false := decide_eq_false h9
              have hv := vldB_iff.2 (⟨by omega, by omega, by omega, by omega⟩ : Vld y m d)
              have hd31 := (vldB_iff.1 hv).d31
              have HV := Lib.hid hv
              clear hv
              have HK := Lib.hid (fun (j : Int) (w' : World) => rlen_x y j w')
              have HY := Lib.hid (fun (j : Int) (w' : World) => ryear_x j w')
              have HBN := Lib.hid (show numD y m d = begD y + cumD y m + d - 1 from rfl)
              have HC1 := Lib.hid (cum_1 y)
              have HB0 := Lib.hid beg_0
              clear HL
              generalize dimD y m = q at HLs d9 h9
              go_enter Tryd.func10, Tryd.ntmps10
              go_wp2_with fail
              go_quiet ((go_at_call 20; exact Calls.quiet_of_same (HLs.out _)))
              go_wp2_with fail
              go_loop [4, 5] (fun a k => ∃ j : Int, 1970 ≤ j ∧ j ≤ y ∧ k = .int .i64 j ∧ a = .int .i64 (begD j)) (fun _ k => (y - intOf k).toNat)
              case atStart => exact ⟨1970, by omega, by omega, rfl, by rw [HB0.out]⟩
              case round =>
                obtain ⟨j, hj1, hj2, rfl, rfl⟩ := hrel
                have hbb := beg_bd (y := j) (by omega) (by omega)
                by_cases hjy : j < y
                · have CS := Lib.hid (beg_succ j)
                  have hlp := lp_01 j
                  have HJ := Lib.hid (HY.out j)
                  generalize lpD j = lj at CS HJ hlp
                  generalize hbj : begD j = bj at CS hbb
                  clear hbj
                  go_wp2_with fail
                  refine (HJ.out _).mono ?_
                  rintro e w' ⟨rfl, rfl⟩
                  go_wp2_with fail
                  go_round
                  case rel => exact ⟨j + 1, by omega, by omega, rfl, by rw [CS.out, Int.add_assoc]⟩
                  case measure => simp [intOf]; omega
                · obtain rfl : j = y := by omega
                  generalize begD j = bg at HBN hbb
                  go_wp2_with fail
                  go_loop [4, 6] (fun a k => ∃ i : Int, 1 ≤ i ∧ i ≤ m ∧ k = .int .i64 i ∧ a = .int .i64 (bg + cumD j i)) (fun _ k => (m - intOf k).toNat)
                  case atStart => exact ⟨1, by omega, by omega, rfl, by rw [HC1.out, Int.add_zero]⟩
                  case round =>
                    obtain ⟨i, hi1, hi2, rfl, rfl⟩ := hrel
                    have cb := cum_bd j (m := i) (by omega) (by omega)
                    have hlp := lp_01 j
                    by_cases him : i < m
                    · have CS := Lib.hid (cum_succ j i (by omega) (by omega))
                      have hdl := dim_le j i
                      have HJ := Lib.hid (HK.out i)
                      generalize dimD j i = dj at CS HJ hdl
                      generalize hci : cumD j i = ci at CS cb
                      clear hci
                      go_wp2_with fail
                      refine (HJ.out _).mono ?_
                      rintro e w' ⟨rfl, rfl⟩
                      go_wp2_with fail
                      go_round
                      case rel => exact ⟨i + 1, by omega, by omega, rfl, by rw [CS.out, Int.add_assoc]⟩
                      case measure => simp [intOf]; omega
                    · obtain rfl : i = m := by omega
                      generalize cumD j i = ci at HBN cb
                      go_wp2_with fail
                      go_ret2
                      exact days_at HV.out HBN.out (below_box _ _ _)
set_option maxHeartbeats 4000000 in
theorem rof_x (n : Int) (w : World) (hn9 : n ≤ 9223372036854775807) : Calls Tryd.prog 12 #[.int .i64 n] w (OfPost n w) := by
  by_cases h1 : n < 0
  · have HV := Lib.hid (ofV_no (n := n) (by omega))
    have d1 : decide (n < 0) = true := decide_eq_true h1
    go_enter Tryd.func12, Tryd.ntmps12
    go_wp2_with fail
    exact bodyPost_ret (v := .tuple #[.agg #[.int .i64 0, .int .i64 0, .int .i64 0], .int .i64 1]) (by simp [results, Tryd.results12, go_sem]) rfl (of_end HV.out ((Below.refl _ _).alloc (Nat.le_refl _) _))
  · have d1 : decide (n < 0) = false := decide_eq_false h1
    have HB0 := Lib.hid beg_0
    have HY := Lib.hid (fun (j : Int) (w' : World) => ryear_x j w')
    have HL := Lib.hid (fun (y m : Int) (w' : World) => rlen_x y m w')
    go_enter Tryd.func12, Tryd.ntmps12
    go_wp2_with fail
    go_loop [0, 4] (fun a k => ∃ j : Int, 1970 ≤ j ∧ j ≤ 10000 ∧ k = .int .i64 j ∧ a = .int .i64 (n - begD j) ∧ 0 ≤ n - begD j) (fun _ k => (10000 - intOf k).toNat)
    case atStart => exact ⟨1970, by omega, by omega, rfl, by rw [HB0.out, Int.sub_zero], by rw [HB0.out]; omega⟩
    case round =>
      obtain ⟨j, hj1, hj2, rfl, rfl, hge0⟩ := hrel
      have hlp := lp_01 j
      by_cases hj : j ≤ 9999
      · have hbb := beg_bd (y := j) (by omega) (by omega)
        have hbe := beg_mono (a := j + 1) (b := 10000) (by omega)
        have HBS := Lib.hid (beg_succ j)
        have hbs := HBS.out
        have hend := beg_end
        have HJ := Lib.hid (HY.out j)
        have HLj := Lib.hid (HL.out j)
        have HO := Lib.hid (fun (i : Int) => of_at (n := n) (y := j) (m := i) (by omega) (by omega))
        have HC1 := Lib.hid (cum_1 j)
        have HC13 := Lib.hid (cum_13 j)
        have HCS := Lib.hid (cum_succ j)
        have HCB := Lib.hid (fun (i : Int) => cum_bd j (m := i))
        have HDL := Lib.hid (dim_le j)
        by_cases hge : 365 + lpD j ≤ n - begD j
        · clear hbs hend hbe HO HCS HCB HDL HC1 HC13 HLj
          generalize begD j = bg at HBS hbb hge hge0
          generalize lpD j = lj at HBS HJ hlp hge
          go_wp2_with fail
          refine (HJ.out _).mono ?_
          rintro e w' ⟨rfl, rfl⟩
          go_wp2_with fail
          refine (HJ.out _).mono ?_
          rintro e w' ⟨rfl, rfl⟩
          go_wp2_with fail
          go_round
          case rel => exact ⟨j + 1, by omega, by omega, rfl, by rw [HBS.out]; congr 1; omega, by rw [HBS.out]; omega⟩
          case measure => simp [intOf]; omega
        · have hlt : n - begD j < 365 + lpD j := by omega
          clear hge hbs hend hbe
          generalize begD j = bg at HO hbb hlt hge0
          generalize hlv : lpD j = lj at HJ hlp hlt HC13 HCB
          clear hlv
          go_wp2_with fail
          refine (HJ.out _).mono ?_
          rintro e w' ⟨rfl, rfl⟩
          go_wp2_with fail
          go_loop [0, 5] (fun a k => ∃ i : Int, 1 ≤ i ∧ i ≤ 13 ∧ k = .int .i64 i ∧ a = .int .i64 (n - bg - cumD j i) ∧ 0 ≤ n - bg - cumD j i) (fun _ k => (13 - intOf k).toNat)
          case atStart => exact ⟨1, by omega, by omega, rfl, by rw [HC1.out, Int.sub_zero], by rw [HC1.out]; omega⟩
          case round =>
            obtain ⟨i, hi1, hi2, rfl, rfl, hge⟩ := hrel
            have hi12 : i ≤ 12 := by
              rcases Int.lt_or_le 12 i with h | h
              · obtain rfl : i = 13 := by omega
                have := HC13.out
                omega
              · exact h
            have cb := HCB.out i (by omega) (by omega)
            have hdl := HDL.out i
            have CS := Lib.hid (HCS.out i hi1 hi12)
            have HK := Lib.hid (HLj.out i)
            have HOi := Lib.hid (HO.out i)
            generalize dimD j i = dj at CS HK hdl HOi
            generalize cumD j i = cj at CS HOi hge cb
            by_cases hd : n - bg - cj < dj
            · have HV := Lib.hid (HOi.out hge hd)
              go_wp2_with fail
              refine (HK.out _).mono ?_
              rintro e w' ⟨rfl, rfl⟩
              go_wp2_with fail
              exact bodyPost_ret (v := .tuple #[.agg #[.int .i64 j, .int .i64 i, .int .i64 (n - bg - cj + 1)], .int .i64 0]) (by simp [results, Tryd.results12, go_sem]) rfl (of_end HV.out ((Below.refl _ _).alloc (Nat.le_refl _) _))
            · go_wp2_with fail
              refine (HK.out _).mono ?_
              rintro e w' ⟨rfl, rfl⟩
              go_wp2_with fail
              refine (HK.out _).mono ?_
              rintro e w' ⟨rfl, rfl⟩
              go_wp2_with fail
              go_round
              case rel => exact ⟨i + 1, by omega, by omega, rfl, by rw [CS.out]; congr 1; omega, by rw [CS.out]; omega⟩
              case measure => simp [intOf]; omega
      · obtain rfl : j = 10000 := by omega
        have hend := beg_end
        have HV := Lib.hid (ofV_no (n := n) (by omega))
        clear hend
        generalize begD 10000 = bg at hge0
        go_wp2_with fail
        exact bodyPost_ret (v := .tuple #[.agg #[.int .i64 0, .int .i64 0, .int .i64 0], .int .i64 1]) (by simp [results, Tryd.results12, go_sem]) rfl (of_end HV.out ((Below.refl _ _).alloc (Nat.le_refl _) _))
end Go.Proofs.YtafbapmbhjkheaaDoor
