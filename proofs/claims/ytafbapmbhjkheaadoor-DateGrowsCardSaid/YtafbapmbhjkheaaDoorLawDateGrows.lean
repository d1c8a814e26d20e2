/-
  The walk of the law DateGrows.
-/
import Derived.Test.YtafbapmbhjkheaaDoorLawDateBack
import Derived.Test.YtafbapmbhjkheaaDoorPrLess
namespace Go.Proofs.YtafbapmbhjkheaaDoor
open Go.RowKit
theorem next_day {y m d : Int} (h : Vld y m d) (hd : d < dimD y m) : Vld y m (d + 1) ∧ numD y m (d + 1) = numD y m d + 1 :=
  ⟨⟨h.y1, h.y2, by have := h.d1; omega, by omega⟩, by unfold numD; omega⟩
theorem next_month {y m d : Int} (h : Vld y m d) (hd : ¬ d < dimD y m) (hm : m < 12) : Vld y (m + 1) 1 ∧ numD y (m + 1) 1 = numD y m d + 1 := by
  have hd2 := h.d2
  obtain ⟨m1, m2⟩ := h.m
  have := dim_bd y (m + 1) (by omega) (by omega)
  have := cum_succ y m m1 m2
  exact ⟨⟨h.y1, h.y2, by omega, by omega⟩, by unfold numD; omega⟩
theorem next_year {y m d : Int} (h : Vld y m d) (hd : ¬ d < dimD y m) (hm : ¬ m < 12) (hn : numD y m d < 2932896) : Vld (y + 1) 1 1 ∧ numD (y + 1) 1 1 = numD y m d + 1 := by
  have hd2 := h.d2
  obtain ⟨m1, m2⟩ := h.m
  obtain rfl : m = 12 := by omega
  have h13 := cum_13 y
  have hs := cum_succ y 12 (by omega) (by omega)
  rw [show (12 : Int) + 1 = 13 from rfl] at hs
  have hb := beg_succ y
  have hq : numD (y + 1) 1 1 = numD y 12 d + 1 := by unfold numD; rw [cum_1]; omega
  have hy : y ≠ 9999 := by
    rintro rfl
    have := beg_end
    unfold numD at hn
    rw [show (9999 : Int) + 1 = 10000 from rfl] at hb
    omega
  have := dim_bd (y + 1) 1 (by omega) (by omega)
  exact ⟨⟨by have := h.y1; omega, by have := h.y2; omega, by omega, by omega⟩, hq⟩
theorem next_cases {n y m d : Int} (h : Vld y m d) (hn : numD y m d = n) (h1 : n < 2932896) :
    (d < dimD y m ∧ Vld y m (d + 1) ∧ numD y m (d + 1) = n + 1) ∨ (¬ d < dimD y m ∧ m < 12 ∧ Vld y (m + 1) 1 ∧ numD y (m + 1) 1 = n + 1) ∨ (¬ d < dimD y m ∧ ¬ m < 12 ∧ Vld (y + 1) 1 1 ∧ numD (y + 1) 1 1 = n + 1) := by
  subst hn
  by_cases hd : d < dimD y m
  · exact .inl ⟨hd, next_day h hd⟩
  · by_cases hm : m < 12
    · exact .inr (.inl ⟨hd, hm, next_month h hd hm⟩)
    · exact .inr (.inr ⟨hd, hm, next_year h hd hm h1⟩)
/-- Of a number that is a date's. -/
theorem ofN_x {n y m d : Int} (h : Vld y m d) (hn : numD y m d = n) (w : World) (hR : Ready w) : Calls Tryd.prog 11 #[.int .i64 n] w fun e w' => e = .returned (.tuple #[.agg #[.int .i64 y, .int .i64 m, .int .i64 d], .int .i64 0]) ∧ Below w.heap.size w w' := by
  subst hn
  exact ofT_x h w hR
set_option maxRecDepth 100000 in
set_option maxHeartbeats 8000000 in
/-- A guard of the law closes it. -/
theorem grows_no (n t k : Int) (w : World) (hR0 : Ready w) (h : ¬ (0 ≤ n ∧ n ≤ 2932894 ∧ 0 ≤ t ∧ 1 ≤ k ∧ t ≤ 253402300799 ∧ k ≤ 253402300799 - t)) :
    Calls Tryd.prog 5 #[.int .i64 n, .int .i64 t, .int .i64 k] w fun e w' => e = .returned (.bool true) ∧ Below w.heap.size w w' := by
  have HA := Lib.hid (awake_x w hR0)
  clear hR0
  by_cases h0 : n < 0
  · have d0 : decide (n < 0) = true := decide_eq_true h0
    go_enter Tryd.func5, Tryd.ntmps5
    go_wp2_with fail
    refine HA.out.mono ?_
    rintro e w1 ⟨rfl, hb⟩
    have HB1 := Lib.hid hb
    clear hb
    go_wp2_with fail
    go_ret
    exact ⟨rfl, HB1.out⟩
  · have d0 : decide (n < 0) = false := decide_eq_false h0
    by_cases h1 : 2932894 < n
    · have d1 : decide (2932894 < n) = true := decide_eq_true h1
      go_enter Tryd.func5, Tryd.ntmps5
      go_wp2_with fail
      refine HA.out.mono ?_
      rintro e w1 ⟨rfl, hb⟩
      have HB1 := Lib.hid hb
      clear hb
      go_wp2_with fail
      go_ret
      exact ⟨rfl, HB1.out⟩
    · have d1 : decide (2932894 < n) = false := decide_eq_false h1
      by_cases h2 : t < 0
      · have d2 : decide (t < 0) = true := decide_eq_true h2
        go_enter Tryd.func5, Tryd.ntmps5
        go_wp2_with fail
        refine HA.out.mono ?_
        rintro e w1 ⟨rfl, hb⟩
        have HB1 := Lib.hid hb
        clear hb
        go_wp2_with fail
        go_ret
        exact ⟨rfl, HB1.out⟩
      · have d2 : decide (t < 0) = false := decide_eq_false h2
        by_cases h3 : k < 1
        · have d3 : decide (k < 1) = true := decide_eq_true h3
          go_enter Tryd.func5, Tryd.ntmps5
          go_wp2_with fail
          refine HA.out.mono ?_
          rintro e w1 ⟨rfl, hb⟩
          have HB1 := Lib.hid hb
          clear hb
          go_wp2_with fail
          go_ret
          exact ⟨rfl, HB1.out⟩
        · have d3 : decide (k < 1) = false := decide_eq_false h3
          by_cases h4 : 253402300799 < t
          · have d4 : decide (253402300799 < t) = true := decide_eq_true h4
            go_enter Tryd.func5, Tryd.ntmps5
            go_wp2_with fail
            refine HA.out.mono ?_
            rintro e w1 ⟨rfl, hb⟩
            have HB1 := Lib.hid hb
            clear hb
            go_wp2_with fail
            go_ret
            exact ⟨rfl, HB1.out⟩
          · have d4 : decide (253402300799 < t) = false := decide_eq_false h4
            by_cases h5 : 253402300799 - t < k
            · have d5 : decide (253402300799 - t < k) = true := decide_eq_true h5
              go_enter Tryd.func5, Tryd.ntmps5
              go_wp2_with fail
              refine HA.out.mono ?_
              rintro e w1 ⟨rfl, hb⟩
              have HB1 := Lib.hid hb
              clear hb
              go_wp2_with fail
              go_ret
              exact ⟨rfl, HB1.out⟩
            · omega
set_option maxRecDepth 100000 in
set_option maxHeartbeats 8000000 in
theorem grows_yes (n t k : Int) (w : World) (hR0 : Ready w) (h1 : 0 ≤ n) (h2 : n ≤ 2932894) (h3 : 0 ≤ t) (h4 : 1 ≤ k) (h5 : t ≤ 253402300799) (h6 : k ≤ 253402300799 - t) :
    Calls Tryd.prog 5 #[.int .i64 n, .int .i64 t, .int .i64 k] w fun e w' => e = .returned (.bool true) ∧ Below w.heap.size w w' := by
  have HR := Lib.hid hR0
  have HA := Lib.hid (awake_x w hR0)
  have d1 : decide (n < 0) = false := decide_eq_false (by omega)
  have d2 : decide (2932894 < n) = false := decide_eq_false (by omega)
  have d3 : decide (t < 0) = false := decide_eq_false (by omega)
  have d4 : decide (k < 1) = false := decide_eq_false (by omega)
  have d5 : decide (253402300799 < t) = false := decide_eq_false (by omega)
  have d6 : decide (253402300799 - t < k) = false := decide_eq_false (by omega)
  obtain ⟨hv, hn⟩ := ofD_spec (n := n) (by omega) (by omega)
  generalize (ofD n).1 = y at hv hn
  generalize (ofD n).2.1 = m at hv hn
  generalize (ofD n).2.2 = d at hv hn
  have HO := Lib.hid (fun w hR => ofN_x hv hn w hR)
  have ht1 : timB t = true := timB_iff.2 ⟨by omega, by omega⟩
  have ht2 : timB (t + k) = true := timB_iff.2 ⟨by omega, by omega⟩
  have HP1 := Lib.hid (fun w hR => printT_x ht1 w hR)
  have HP2 := Lib.hid (fun w hR => printT_x ht2 w hR)
  have hless : (!Op.bytesLess (mkS (printS t)).toList (mkS (printS (t + k))).toList) = false := by rw [mkS_toList, mkS_toList, print_less h3 (by omega) (by omega)]; rfl
  generalize printS t = u at HP1 hless
  generalize printS (t + k) = v at HP2 hless
  clear ht1 ht2 hR0
  have HV := Lib.hid hv
  have HN := Lib.hid hn
  clear hv hn
  go_enter Tryd.func5, Tryd.ntmps5
  go_wp2_with fail
  refine HA.out.mono ?_
  rintro e w1 ⟨rfl, hb⟩
  have HB1 := Lib.hid hb
  clear hb
  go_wp2_with fail
  refine (HO.out _ (HR.out.below HB1.out)).mono ?_
  rintro e w2 ⟨rfl, hb⟩
  have P2 := Lib.hid (aw_new (below_next HB1.out hb) y m d)
  clear hb
  go_wp2_with fail
  have HN3 := Lib.hid (next_cases HV.out HN.out (by omega))
  have hy1 := HV.out.y1
  have hy2 := HV.out.y2
  have hm12 := HV.out.m
  have hd31 := HV.out.d31
  have hd1 := HV.out.d1
  rcases HN3.out with ⟨hd, hv2, hn2⟩ | ⟨hd, hm, hv2, hn2⟩ | ⟨hd, hm, hv2, hn2⟩
  · have HO2 := Lib.hid (fun w hR => ofN_x hv2 hn2 w hR)
    clear hv2 hn2
    refine (HO2.out _ (HR.out.below P2.out.below)).mono ?_
    rintro e w3 ⟨rfl, hb⟩
    have P3 := Lib.hid (P2.out.next hb)
    clear hb
    have P4 := Lib.hid (P3.out.next ((Below.refl _ _).alloc (Nat.le_refl _) (.cells #[.int .i64 y, .int .i64 m, .int .i64 (d + 1)] 23)))
    have Q4 := Lib.hid (aw_new P3.out.below y m (d + 1))
    go_wp2_with fail
    refine (HP1.out _ (HR.out.below P4.out.below)).mono ?_
    rintro e w5 ⟨rfl, hb⟩
    have P5 := Lib.hid (P4.out.next hb)
    have Q5 := Lib.hid (Q4.out.next hb)
    clear hb
    go_wp2_with fail
    refine (HP2.out _ (HR.out.below P5.out.below)).mono ?_
    rintro e w6 ⟨rfl, hb⟩
    have P6 := Lib.hid (P5.out.next hb)
    have Q6 := Lib.hid (Q5.out.next hb)
    clear hb
    have HL := Lib.hid (fun (j : Nat) => still0 (len_x y m (w6.drewN j) (HR.out.below (below_drewN P6.out.below j))))
    have dq : decide (d < dimD y m) = true := decide_eq_true hd
    clear hd
    generalize dimD y m = q at HL dq
    have hc0 := cellOf P6.out.box 0
    have hc1 := cellOf P6.out.box 1
    have hc2 := cellOf P6.out.box 2
    have hq0 := cellOf Q6.out.box 0
    have hq1 := cellOf Q6.out.box 1
    have hq2 := cellOf Q6.out.box 2
    go_wp2_with fail
    go_quiet ((go_at_call 19; exact Calls.quiet_of_same (HL.out _)))
    go_wp2_with fail
    go_ret
    exact ⟨rfl, below_drewN P6.out.below _⟩
  · have HO2 := Lib.hid (fun w hR => ofN_x hv2 hn2 w hR)
    clear hv2 hn2
    refine (HO2.out _ (HR.out.below P2.out.below)).mono ?_
    rintro e w3 ⟨rfl, hb⟩
    have P3 := Lib.hid (P2.out.next hb)
    clear hb
    have P4 := Lib.hid (P3.out.next ((Below.refl _ _).alloc (Nat.le_refl _) (.cells #[.int .i64 y, .int .i64 (m + 1), .int .i64 1] 23)))
    have Q4 := Lib.hid (aw_new P3.out.below y (m + 1) 1)
    go_wp2_with fail
    refine (HP1.out _ (HR.out.below P4.out.below)).mono ?_
    rintro e w5 ⟨rfl, hb⟩
    have P5 := Lib.hid (P4.out.next hb)
    have Q5 := Lib.hid (Q4.out.next hb)
    clear hb
    go_wp2_with fail
    refine (HP2.out _ (HR.out.below P5.out.below)).mono ?_
    rintro e w6 ⟨rfl, hb⟩
    have P6 := Lib.hid (P5.out.next hb)
    have Q6 := Lib.hid (Q5.out.next hb)
    clear hb
    have HL := Lib.hid (fun (j : Nat) => still0 (len_x y m (w6.drewN j) (HR.out.below (below_drewN P6.out.below j))))
    have dq : decide (d < dimD y m) = false := decide_eq_false (by omega)
    have dm : decide (m < 12) = true := decide_eq_true hm
    clear hd
    generalize dimD y m = q at HL dq
    have hc0 := cellOf P6.out.box 0
    have hc1 := cellOf P6.out.box 1
    have hc2 := cellOf P6.out.box 2
    have hq0 := cellOf Q6.out.box 0
    have hq1 := cellOf Q6.out.box 1
    have hq2 := cellOf Q6.out.box 2
    go_wp2_with fail
    go_quiet ((go_at_call 19; exact Calls.quiet_of_same (HL.out _)))
    go_wp2_with fail
    go_ret
    exact ⟨rfl, below_drewN P6.out.below _⟩
  · have HO2 := Lib.hid (fun w hR => ofN_x hv2 hn2 w hR)
    clear hv2 hn2
    refine (HO2.out _ (HR.out.below P2.out.below)).mono ?_
    rintro e w3 ⟨rfl, hb⟩
    have P3 := Lib.hid (P2.out.next hb)
    clear hb
    have P4 := Lib.hid (P3.out.next ((Below.refl _ _).alloc (Nat.le_refl _) (.cells #[.int .i64 (y + 1), .int .i64 1, .int .i64 1] 23)))
    have Q4 := Lib.hid (aw_new P3.out.below (y + 1) 1 1)
    go_wp2_with fail
    refine (HP1.out _ (HR.out.below P4.out.below)).mono ?_
    rintro e w5 ⟨rfl, hb⟩
    have P5 := Lib.hid (P4.out.next hb)
    have Q5 := Lib.hid (Q4.out.next hb)
    clear hb
    go_wp2_with fail
    refine (HP2.out _ (HR.out.below P5.out.below)).mono ?_
    rintro e w6 ⟨rfl, hb⟩
    have P6 := Lib.hid (P5.out.next hb)
    have Q6 := Lib.hid (Q5.out.next hb)
    clear hb
    have HL := Lib.hid (fun (j : Nat) => still0 (len_x y m (w6.drewN j) (HR.out.below (below_drewN P6.out.below j))))
    have dq : decide (d < dimD y m) = false := decide_eq_false (by omega)
    have dm : decide (m < 12) = false := decide_eq_false (by omega)
    clear hd
    generalize dimD y m = q at HL dq
    have hc0 := cellOf P6.out.box 0
    have hc1 := cellOf P6.out.box 1
    have hc2 := cellOf P6.out.box 2
    have hq0 := cellOf Q6.out.box 0
    have hq1 := cellOf Q6.out.box 1
    have hq2 := cellOf Q6.out.box 2
    go_wp2_with fail
    go_quiet ((go_at_call 19; exact Calls.quiet_of_same (HL.out _)))
    go_wp2_with fail
    go_ret
    exact ⟨rfl, below_drewN P6.out.below _⟩
theorem dateGrows_x (n t k : Int) (w : World) (hR : Ready w) (_ : IntKind.i64.min ≤ n) (_ : n ≤ IntKind.i64.max) (_ : IntKind.i64.min ≤ t) (_ : t ≤ IntKind.i64.max) (_ : IntKind.i64.min ≤ k) (_ : k ≤ IntKind.i64.max) :
    Calls Tryd.prog 5 #[.int .i64 n, .int .i64 t, .int .i64 k] w fun e w' => e = .returned (.bool true) ∧ Below w.heap.size w w' := by
  by_cases h : 0 ≤ n ∧ n ≤ 2932894 ∧ 0 ≤ t ∧ 1 ≤ k ∧ t ≤ 253402300799 ∧ k ≤ 253402300799 - t
  · exact grows_yes n t k w hR h.1 h.2.1 h.2.2.1 h.2.2.2.1 h.2.2.2.2.1 h.2.2.2.2.2
  · exact grows_no n t k w hR h
end Go.Proofs.YtafbapmbhjkheaaDoor
