/-
  The walks of the small functions of package date: Leap, Length, ahead, begins, digit, isTime, seconds.
-/
import Derived.Test.YtafbapmbhjkheaaDoorBase
import Derived.Test.YtafbapmbhjkheaaDoorDtMath
import Derived.Lib.LaidTab
import Derived.Lib.AppendIntMem
namespace Go.Proofs.YtafbapmbhjkheaaDoor
open Go.RowKit
theorem gLen : Tryd.prog.globalNamed "duepost/date.lengths" = some 0 := by kernel_rfl
/-- The tables read as the program's text lays them. -/
def Ready (w : World) : Prop := Lib.TabIs Tryd.prog w "duepost/date.lengths" .i64 tabD ∧ Lib.TabIs Tryd.prog w "internal/strconv.uint64pow10" .u64 Lib.pow10Tab
theorem Ready.below {w w' : World} (h : Ready w) (hb : Below w.heap.size w w') : Ready w' :=
  ⟨Lib.tabBelow_of_tabIs h.1 w' hb, Lib.tabBelow_of_tabIs h.2 w' hb⟩
theorem Ready.cell {w : World} (h : Ready w) (i : Nat) (hi : i < 12) : w.cell? ⟨0, i, none⟩ = some (.int .i64 (tabD.getD i 0)) := h.1.cell gLen i hi

theorem tmod_0 (y k : Int) : (y.tmod k = 0) ↔ y % k = 0 :=
  ⟨fun h => Int.emod_eq_zero_of_dvd (Int.dvd_of_tmod_eq_zero h), fun h => Int.tmod_eq_zero_of_dvd (Int.dvd_of_emod_eq_zero h)⟩
theorem leapT (y : Int) : leapD y = (decide (y.tmod 4 = 0) && !decide (y.tmod 100 = 0) || decide (y.tmod 400 = 0)) := by
  rw [Bool.eq_iff_iff]
  simp [leapD, tmod_0]
set_option maxHeartbeats 400000 in
theorem leap_x (y : Int) (w : World) : Calls Tryd.prog 17 #[.int .i64 y] w fun e w' => e = .returned (.bool (leapD y)) ∧ w = w' := by
  go_enter Tryd.func17, Tryd.ntmps17
  go_wp2_with fail
  all_goals
    go_ret
    exact ⟨ret_bool (by rw [leapT, Bool.eq_iff_iff]; simp [*]), rfl⟩
theorem len_at (y : Int) (k : Nat) (hk : k < 12) (h2 : ¬ k = 1) : dimD y ((k : Int) + 1) = tabD.getD k 0 := by
  rw [dimD, if_neg (by omega), if_neg (by omega)]
  simp
set_option maxHeartbeats 1000000 in
theorem len_x (y m : Int) (w : World) (hR : Ready w) : Calls Tryd.prog 19 #[.int .i64 y, .int .i64 m] w fun e w' => e = .returned (.int .i64 (dimD y m)) ∧ w = w' := by
  by_cases h1 : m < 1
  · have HD := Lib.hid (dim_no (y := y) (.inl h1))
    have d1 : decide (m < 1) = true := decide_eq_true h1
    go_enter Tryd.func19, Tryd.ntmps19
    go_wp2_with fail
    go_ret
    exact ⟨ret_int HD.out.symm, rfl⟩
  · have d1 : decide (m < 1) = false := decide_eq_false h1
    by_cases h2 : 12 < m
    · have HD := Lib.hid (dim_no (y := y) (.inr h2))
      have d2 : decide (12 < m) = true := decide_eq_true h2
      go_enter Tryd.func19, Tryd.ntmps19
      go_wp2_with fail
      go_ret
      exact ⟨ret_int HD.out.symm, rfl⟩
    · have d2 : decide (12 < m) = false := decide_eq_false h2
      obtain ⟨k, rfl⟩ : ∃ k : Nat, m = (k : Int) + 1 := ⟨(m - 1).toNat, by omega⟩
      have hk : k < 12 := by omega
      have hc := hR.cell k hk
      by_cases h3 : k = 1
      · subst h3
        have hc1 : w.cell? ⟨0, 1, none⟩ = some (.int .i64 28) := hc
        cases hl : leapD y
        · have HD := Lib.hid (show dimD y 2 = 28 by rw [dimD, lpD, hl]; rfl)
          have HL := Lib.hid (show Calls Tryd.prog 17 #[.int .i64 y] w fun e w' => e = .returned (.bool false) ∧ w = w' by rw [← hl]; exact leap_x y w)
          clear hc hl
          go_enter Tryd.func19, Tryd.ntmps19
          go_wp2_with fail
          refine HL.out.mono ?_
          rintro e w' ⟨rfl, rfl⟩
          go_wp2_with fail
          go_ret
          exact ⟨ret_int HD.out.symm, rfl⟩
        · have HD := Lib.hid (show dimD y 2 = 29 by rw [dimD, lpD, hl]; rfl)
          have HL := Lib.hid (show Calls Tryd.prog 17 #[.int .i64 y] w fun e w' => e = .returned (.bool true) ∧ w = w' by rw [← hl]; exact leap_x y w)
          clear hc hl
          go_enter Tryd.func19, Tryd.ntmps19
          go_wp2_with fail
          refine HL.out.mono ?_
          rintro e w' ⟨rfl, rfl⟩
          go_wp2_with fail
          go_ret
          exact ⟨ret_int HD.out.symm, rfl⟩
      · have HD := Lib.hid (len_at y k hk h3)
        have d3 : (((k : Int) + 1) == 2) = false := beq_eq_false_iff_ne.2 (by omega)
        have htb : 0 ≤ tabD.getD k 0 ∧ tabD.getD k 0 ≤ 31 := by have := dim_le y ((k : Int) + 1); rw [HD.out] at this; exact this
        generalize tabD.getD k 0 = v at hc HD htb
        clear h3
        go_enter Tryd.func19, Tryd.ntmps19
        go_wp2_with fail
        go_ret
        exact ⟨ret_int HD.out.symm, rfl⟩
set_option maxHeartbeats 400000 in
theorem ahead_x (y : Int) (w : World) (h0 : 1 ≤ y) (h1 : y ≤ 100000) : Calls Tryd.prog 39 #[.int .i64 y] w fun e w' => e = .returned (.int .i64 (aheadD y)) ∧ w = w' := by
  go_enter Tryd.func39, Tryd.ntmps39
  go_wp2_with fail
  go_ret
  exact ⟨ret_int rfl, rfl⟩
theorem ahead_bd (y : Int) (h0 : 1 ≤ y) (h1 : y ≤ 100000) : 0 ≤ aheadD y ∧ aheadD y ≤ 40000000 := by unfold aheadD; omega
set_option maxHeartbeats 400000 in
theorem begins_x (y : Int) (w : World) (h0 : 1 ≤ y) (h1 : y ≤ 100000) : Calls Tryd.prog 22 #[.int .i64 y] w fun e w' => e = .returned (.int .i64 (begD y)) ∧ w = w' := by
  have hb := ahead_bd y h0 h1
  have HB := Lib.hid (show begD y = aheadD y - 719162 from rfl)
  have HA := Lib.hid (ahead_x y w h0 h1)
  have HA2 := Lib.hid (show Calls Tryd.prog 39 #[.int .i64 1970] w fun e w' => e = .returned (.int .i64 719162) ∧ w = w' from ahead_x 1970 w (by omega) (by omega))
  generalize aheadD y = a at HB HA hb
  go_enter Tryd.func22, Tryd.ntmps22
  go_wp2_with fail
  refine HA.out.mono ?_
  rintro e w' ⟨rfl, rfl⟩
  go_wp2_with fail
  refine HA2.out.mono ?_
  rintro e w' ⟨rfl, rfl⟩
  go_wp2_with fail
  go_ret
  exact ⟨ret_int HB.out.symm, rfl⟩

set_option maxHeartbeats 400000 in
theorem digit_x (b : UInt8) (w : World) : Calls Tryd.prog 28 #[.int .u8 (b.toNat : Int)] w fun e w' => e = .returned (.bool (digB b)) ∧ w = w' := by
  have hlt := b.toNat_lt
  by_cases h1 : 48 ≤ b.toNat
  · have d1 : decide ((48 : Int) ≤ (b.toNat : Int)) = true := decide_eq_true (by omega)
    by_cases h2 : b.toNat ≤ 57
    · have d2 : decide ((b.toNat : Int) ≤ 57) = true := decide_eq_true (by omega)
      have HP := Lib.hid (show digB b = true by simp [digB, h1, h2])
      go_enter Tryd.func28, Tryd.ntmps28
      go_wp2_with fail
      go_ret
      exact ⟨ret_bool HP.out.symm, rfl⟩
    · have d2 : decide ((b.toNat : Int) ≤ 57) = false := decide_eq_false (by omega)
      have HP := Lib.hid (show digB b = false by simp [digB, h2])
      go_enter Tryd.func28, Tryd.ntmps28
      go_wp2_with fail
      go_ret
      exact ⟨ret_bool HP.out.symm, rfl⟩
  · have d1 : decide ((48 : Int) ≤ (b.toNat : Int)) = false := decide_eq_false (by omega)
    have HP := Lib.hid (show digB b = false by simp [digB, h1])
    go_enter Tryd.func28, Tryd.ntmps28
    go_wp2_with fail
    go_ret
    exact ⟨ret_bool HP.out.symm, rfl⟩
set_option maxHeartbeats 400000 in
theorem time_x (t : Int) (w : World) : Calls Tryd.prog 30 #[.int .i64 t] w fun e w' => e = .returned (.bool (timB t)) ∧ w = w' := by
  by_cases h1 : 0 ≤ t
  · have d1 : decide (0 ≤ t) = true := decide_eq_true h1
    by_cases h2 : t ≤ 253402300799
    · have d2 : decide (t ≤ 253402300799) = true := decide_eq_true h2
      have HP := Lib.hid (show timB t = true by simp [timB, h1, h2])
      go_enter Tryd.func30, Tryd.ntmps30
      go_wp2_with fail
      go_ret
      exact ⟨ret_bool HP.out.symm, rfl⟩
    · have d2 : decide (t ≤ 253402300799) = false := decide_eq_false h2
      have HP := Lib.hid (show timB t = false by simp [timB]; omega)
      go_enter Tryd.func30, Tryd.ntmps30
      go_wp2_with fail
      go_ret
      exact ⟨ret_bool HP.out.symm, rfl⟩
  · have d1 : decide (0 ≤ t) = false := decide_eq_false h1
    have HP := Lib.hid (show timB t = false by simp [timB]; omega)
    go_enter Tryd.func30, Tryd.ntmps30
    go_wp2_with fail
    go_ret
    exact ⟨ret_bool HP.out.symm, rfl⟩
set_option maxHeartbeats 400000 in
theorem sec_x (h m s : Int) (w : World) (h0 : 0 ≤ h) (h1 : h ≤ 10000) (m0 : 0 ≤ m) (m1 : m ≤ 10000) (s0 : 0 ≤ s) (s1 : s ≤ 10000) :
    Calls Tryd.prog 29 #[.int .i64 h, .int .i64 m, .int .i64 s] w fun e w' => e = .returned (.tuple #[.int .i64 (secV h m s), .int .i64 (secE h m s)]) ∧ w = w' := by
  by_cases a1 : 23 < h
  · have d1 : decide (23 < h) = true := decide_eq_true a1
    have HP := Lib.hid (show secB h m s = false by simp [secB]; omega)
    go_enter Tryd.func29, Tryd.ntmps29
    go_wp2_with fail
    go_ret2
    exact ⟨by rw [secV, secE, HP.out]; rfl, rfl⟩
  · have d1 : decide (23 < h) = false := decide_eq_false a1
    by_cases a2 : 59 < m
    · have d2 : decide (59 < m) = true := decide_eq_true a2
      have HP := Lib.hid (show secB h m s = false by simp [secB]; omega)
      go_enter Tryd.func29, Tryd.ntmps29
      go_wp2_with fail
      go_ret2
      exact ⟨by rw [secV, secE, HP.out]; rfl, rfl⟩
    · have d2 : decide (59 < m) = false := decide_eq_false a2
      by_cases a3 : 59 < s
      · have d3 : decide (59 < s) = true := decide_eq_true a3
        have HP := Lib.hid (show secB h m s = false by simp [secB]; omega)
        go_enter Tryd.func29, Tryd.ntmps29
        go_wp2_with fail
        go_ret2
        exact ⟨by rw [secV, secE, HP.out]; rfl, rfl⟩
      · have d3 : decide (59 < s) = false := decide_eq_false a3
        have HP := Lib.hid (show secB h m s = true by simp [secB]; omega)
        go_enter Tryd.func29, Tryd.ntmps29
        go_wp2_with fail
        go_ret2
        exact ⟨by rw [secV, secE, HP.out]; rfl, rfl⟩
end Go.Proofs.YtafbapmbhjkheaaDoor
