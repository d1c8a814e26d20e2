/-
  DtSmall · DtDays · DtOf · DtLike · DtParse · DtLay · DtPrint, in one text.
-/
import Derived.Test.YtojpkbonioglbaaGreatDoorMaBuild
import Derived.Test.YtojpkbonioglbaaGreatDoorMaPure
import Derived.Lib.LaidTab
import Derived.Lib.AppendIntMem
/-
  The walks of the small functions of package date: Leap, Length, ahead, begins, digit, isTime, seconds.
-/
namespace Go.Proofs.YtojpkbonioglbaaGreatDoor
set_option maxRecDepth 100000
open Go.RowKit
theorem gLen : Tryz.prog.globalNamed "duepost/date.lengths" = some 2 := by kernel_rfl
/-- The tables read as the program's text lays them. -/
def Ready (w : World) : Prop := Lib.TabIs Tryz.prog w "duepost/date.lengths" .i64 tabD ∧ Lib.TabIs Tryz.prog w "internal/strconv.uint64pow10" .u64 Lib.pow10Tab
theorem Ready.below {w w' : World} (h : Ready w) (hb : Below w.heap.size w w') : Ready w' :=
  ⟨Lib.tabBelow_of_tabIs h.1 w' hb, Lib.tabBelow_of_tabIs h.2 w' hb⟩
theorem Ready.cell {w : World} (h : Ready w) (i : Nat) (hi : i < 12) : w.cell? ⟨2, i, none⟩ = some (.int .i64 (tabD.getD i 0)) := h.1.cell gLen i hi

theorem tmod_0 (y k : Int) : (y.tmod k = 0) ↔ y % k = 0 :=
  ⟨fun h => Int.emod_eq_zero_of_dvd (Int.dvd_of_tmod_eq_zero h), fun h => Int.tmod_eq_zero_of_dvd (Int.dvd_of_emod_eq_zero h)⟩
theorem leapT (y : Int) : leapD y = (decide (y.tmod 4 = 0) && !decide (y.tmod 100 = 0) || decide (y.tmod 400 = 0)) := by
  rw [Bool.eq_iff_iff]
  simp [leapD, tmod_0]
set_option maxRecDepth 100000 in
set_option maxHeartbeats 400000 in
theorem leap_x (y : Int) (w : World) : Calls Tryz.prog 162 #[.int .i64 y] w fun e w' => e = .returned (.bool (leapD y)) ∧ w = w' := by
  go_enter Tryz.func162, Tryz.ntmps162
  go_wp2_with fail
  all_goals
    go_ret
    exact ⟨ret_bool (by rw [leapT, Bool.eq_iff_iff]; simp [*]), rfl⟩
theorem len_at (y : Int) (k : Nat) (hk : k < 12) (h2 : ¬ k = 1) : dimD y ((k : Int) + 1) = tabD.getD k 0 := by
  rw [dimD, if_neg (by omega), if_neg (by omega)]
  simp
set_option maxRecDepth 100000 in
set_option maxHeartbeats 1000000 in
theorem len_x (y m : Int) (w : World) (hR : Ready w) : Calls Tryz.prog 141 #[.int .i64 y, .int .i64 m] w fun e w' => e = .returned (.int .i64 (dimD y m)) ∧ w = w' := by
  by_cases h1 : m < 1
  · have HD := Lib.hid (dim_no (y := y) (.inl h1))
    have d1 : decide (m < 1) = true := decide_eq_true h1
    go_enter Tryz.func141, Tryz.ntmps141
    go_wp2_with fail
    go_ret
    exact ⟨ret_int HD.out.symm, rfl⟩
  · have d1 : decide (m < 1) = false := decide_eq_false h1
    by_cases h2 : 12 < m
    · have HD := Lib.hid (dim_no (y := y) (.inr h2))
      have d2 : decide (12 < m) = true := decide_eq_true h2
      go_enter Tryz.func141, Tryz.ntmps141
      go_wp2_with fail
      go_ret
      exact ⟨ret_int HD.out.symm, rfl⟩
    · have d2 : decide (12 < m) = false := decide_eq_false h2
      obtain ⟨k, rfl⟩ : ∃ k : Nat, m = (k : Int) + 1 := ⟨(m - 1).toNat, by omega⟩
      have hk : k < 12 := by omega
      have hc := hR.cell k hk
      by_cases h3 : k = 1
      · subst h3
        have hc1 : w.cell? ⟨2, 1, none⟩ = some (.int .i64 28) := hc
        cases hl : leapD y
        · have HD := Lib.hid (show dimD y 2 = 28 by rw [dimD, lpD, hl]; rfl)
          have HL := Lib.hid (show Calls Tryz.prog 162 #[.int .i64 y] w fun e w' => e = .returned (.bool false) ∧ w = w' by rw [← hl]; exact leap_x y w)
          clear hc hl
          go_enter Tryz.func141, Tryz.ntmps141
          go_wp2_with fail
          refine HL.out.mono ?_
          rintro e w' ⟨rfl, rfl⟩
          go_wp2_with fail
          go_ret
          exact ⟨ret_int HD.out.symm, rfl⟩
        · have HD := Lib.hid (show dimD y 2 = 29 by rw [dimD, lpD, hl]; rfl)
          have HL := Lib.hid (show Calls Tryz.prog 162 #[.int .i64 y] w fun e w' => e = .returned (.bool true) ∧ w = w' by rw [← hl]; exact leap_x y w)
          clear hc hl
          go_enter Tryz.func141, Tryz.ntmps141
          go_wp2_with fail
          refine HL.out.mono ?_
          rintro e w' ⟨rfl, rfl⟩
          go_wp2_with fail
          go_ret
          exact ⟨ret_int HD.out.symm, rfl⟩
      · have HD := Lib.hid (len_at y k hk h3)
        have d3 : (((k : Int) + 1) == 2) = false := beq_eq_false_iff_ne.2 (by omega)
        have htb : 0 ≤ tabD.getD k 0 ∧ tabD.getD k 0 ≤ 31 := by have := dim_le y ((k : Int) + 1); rw [HD.out] at this; exact this
        generalize tabD.getD k 0 = v at hc HD htb
        clear h3
        go_enter Tryz.func141, Tryz.ntmps141
        go_wp2_with fail
        go_ret
        exact ⟨ret_int HD.out.symm, rfl⟩
set_option maxRecDepth 100000 in
set_option maxHeartbeats 400000 in
theorem ahead_x (y : Int) (w : World) (h0 : 1 ≤ y) (h1 : y ≤ 100000) : Calls Tryz.prog 161 #[.int .i64 y] w fun e w' => e = .returned (.int .i64 (aheadD y)) ∧ w = w' := by
  go_enter Tryz.func161, Tryz.ntmps161
  go_wp2_with fail
  go_ret
  exact ⟨ret_int rfl, rfl⟩
theorem ahead_bd (y : Int) (h0 : 1 ≤ y) (h1 : y ≤ 100000) : 0 ≤ aheadD y ∧ aheadD y ≤ 40000000 := by unfold aheadD; omega
set_option maxRecDepth 100000 in
set_option maxHeartbeats 400000 in
theorem begins_x (y : Int) (w : World) (h0 : 1 ≤ y) (h1 : y ≤ 100000) : Calls Tryz.prog 139 #[.int .i64 y] w fun e w' => e = .returned (.int .i64 (begD y)) ∧ w = w' := by
  have hb := ahead_bd y h0 h1
  have HB := Lib.hid (show begD y = aheadD y - 719162 from rfl)
  have HA := Lib.hid (ahead_x y w h0 h1)
  have HA2 := Lib.hid (show Calls Tryz.prog 161 #[.int .i64 1970] w fun e w' => e = .returned (.int .i64 719162) ∧ w = w' from ahead_x 1970 w (by omega) (by omega))
  generalize aheadD y = a at HB HA hb
  go_enter Tryz.func139, Tryz.ntmps139
  go_wp2_with fail
  refine HA.out.mono ?_
  rintro e w' ⟨rfl, rfl⟩
  go_wp2_with fail
  refine HA2.out.mono ?_
  rintro e w' ⟨rfl, rfl⟩
  go_wp2_with fail
  go_ret
  exact ⟨ret_int HB.out.symm, rfl⟩

set_option maxRecDepth 100000 in
set_option maxHeartbeats 400000 in
theorem time_x (t : Int) (w : World) : Calls Tryz.prog 106 #[.int .i64 t] w fun e w' => e = .returned (.bool (timB t)) ∧ w = w' := by
  by_cases h1 : 0 ≤ t
  · have d1 : decide (0 ≤ t) = true := decide_eq_true h1
    by_cases h2 : t ≤ 253402300799
    · have d2 : decide (t ≤ 253402300799) = true := decide_eq_true h2
      have HP := Lib.hid (show timB t = true by simp [timB, h1, h2])
      go_enter Tryz.func106, Tryz.ntmps106
      go_wp2_with fail
      go_ret
      exact ⟨ret_bool HP.out.symm, rfl⟩
    · have d2 : decide (t ≤ 253402300799) = false := decide_eq_false h2
      have HP := Lib.hid (show timB t = false by simp [timB]; omega)
      go_enter Tryz.func106, Tryz.ntmps106
      go_wp2_with fail
      go_ret
      exact ⟨ret_bool HP.out.symm, rfl⟩
  · have d1 : decide (0 ≤ t) = false := decide_eq_false h1
    have HP := Lib.hid (show timB t = false by simp [timB]; omega)
    go_enter Tryz.func106, Tryz.ntmps106
    go_wp2_with fail
    go_ret
    exact ⟨ret_bool HP.out.symm, rfl⟩
end Go.Proofs.YtojpkbonioglbaaGreatDoor
/-
  The walk of package date's Days.
-/
namespace Go.Proofs.YtojpkbonioglbaaGreatDoor
set_option maxRecDepth 100000
open Go.RowKit
theorem vldB_no {y m d : Int} (h : ¬ (1970 ≤ y ∧ y ≤ 9999 ∧ 1 ≤ d ∧ d ≤ dimD y m)) : vldB y m d = false :=
  Bool.eq_false_iff.2 fun e => h (by obtain ⟨a, b, c, f⟩ := vldB_iff.1 e; exact ⟨a, b, c, f⟩)
def DaysPost (y m d : Int) (w : World) (e : Ending) (w' : World) : Prop := e = .returned (.tuple #[.int .i64 (daysV y m d), .int .i64 (daysE y m d)]) ∧ Below w.heap.size w w'
theorem days_no {y m d : Int} {w w' : World} (h : vldB y m d = false) (hb : Below w.heap.size w w') : DaysPost y m d w (.returned (.tuple #[.int .i64 0, .int .i64 1])) w' :=
  ⟨by rw [daysV, daysE, h]; rfl, hb⟩
theorem days_yes {y m d : Int} {w w' : World} (h : vldB y m d = true) (hb : Below w.heap.size w w') : DaysPost y m d w (.returned (.tuple #[.int .i64 (numD y m d), .int .i64 0])) w' :=
  ⟨by rw [daysV, daysE, h]; rfl, hb⟩
theorem days_at {y m d r : Int} {w w' : World} (h : vldB y m d = true) (hr : numD y m d = r) (hb : Below w.heap.size w w') : DaysPost y m d w (.returned (.tuple #[.int .i64 r, .int .i64 0])) w' := hr ▸ days_yes h hb
theorem below_box (w : World) (o : Obj) (n : Nat) : Below w.heap.size w ((w.alloc o).drewN n) := below_drewN ((Below.refl _ _).alloc (Nat.le_refl _) _) n
theorem still0 {P : Program} {f : FuncId} {args : Array Value} {w : World} {v : Value} (h : Calls P f args w fun e w' => e = .returned v ∧ w = w') :
    Calls P f args w fun e w' => e = .returned v ∧ w' = w := h.mono fun _ _ ⟨he, hw⟩ => ⟨he, hw.symm⟩
end Go.Proofs.YtojpkbonioglbaaGreatDoor
/-
  The walks of package date's Of, its closure, and sort.Search of it.
-/
namespace Go.Proofs.YtojpkbonioglbaaGreatDoor
set_option maxRecDepth 100000
open Go.RowKit
/-- A call that draws alone. -/
def Drew (v : Value) (w : World) (e : Ending) (w' : World) : Prop := e = .returned v ∧ ∃ k, w' = w.drewN k
def overB (n i : Int) : Bool := decide (n < begD (1970 + i + 1))
set_option maxRecDepth 100000 in
set_option maxHeartbeats 400000 in
theorem over_x (b : Nat) (n i : Int) (w : World) (hc : w.cell? ⟨b, 0, none⟩ = some (.int .i64 n)) (h0 : 0 ≤ i) (h1 : i ≤ 8029) :
    Calls Tryz.prog 138 #[.int .i64 i, .pointer (some ⟨b, 0, none⟩)] w (Drew (.bool (overB n i)) w) := by
  have HB := Lib.hid (fun (k : Nat) => still0 (begins_x (1970 + i + 1) (w.drewN k) (by omega) (by omega)))
  have HO := Lib.hid (show overB n i = decide (n < begD (1970 + i + 1)) from rfl)
  have e1 : IntKind.i64.wrap (1970 + i) = 1970 + i := IntWalk.i64_in _ (by omega)
  have e2 : IntKind.i64.wrap (1970 + i + 1) = 1970 + i + 1 := IntWalk.i64_in _ (by omega)
  generalize begD (1970 + i + 1) = q at HB HO
  go_enter Tryz.func138, Tryz.ntmps138
  go_wp2_with fail
  go_quiet ((go_at_call 139; exact Calls.quiet_of_same (HB.out _)))
  clear e1 e2
  go_wp2_with fail
  go_ret
  exact ⟨ret_bool HO.out.symm, _, rfl⟩
def SearchPost (n : Int) (w : World) (e : Ending) (w' : World) : Prop := ∃ r : Int, e = .returned (.int .i64 r) ∧ 0 ≤ r ∧ r ≤ 8029 ∧ begD (1970 + r) ≤ n ∧ n < begD (1970 + r + 1) ∧ ∃ k, w' = w.drewN k
set_option maxRecDepth 100000 in
set_option maxHeartbeats 1000000 in
theorem search_x (b : Nat) (n : Int) (w : World) (hc : w.cell? ⟨b, 0, none⟩ = some (.int .i64 n)) (h0 : 0 ≤ n) (h1 : n ≤ 2932896) :
    Calls Tryz.prog 140 #[.int .i64 8029, .func (.func 138) #[] #[.pointer (some ⟨b, 0, none⟩)]] w (SearchPost n w) := by
  have HX := Lib.hid (fun (i : Int) (k : Nat) (h0 : 0 ≤ i) (h1 : i ≤ 8029) => over_x b n i (w.drewN k) hc h0 h1)
  clear hc
  go_enter Tryz.func140, Tryz.ntmps140
  go_wp2_with fail
  go_loopw [5, 6] (fun u v wr => ∃ (i j : Int) (k : Nat), 0 ≤ i ∧ i ≤ j ∧ j ≤ 8029 ∧ u = .int .i64 i ∧ v = .int .i64 j ∧ wr = w.drewN k ∧ Hid (begD (1970 + i) ≤ n) ∧ Hid (n < begD (1970 + j + 1))) (fun u v _ => (intOf v - intOf u).toNat)
  case atStart => exact ⟨0, 8029, 0, by omega, by omega, by omega, rfl, rfl, rfl, by show begD (1970 + 0) ≤ n; rw [show (1970 : Int) + 0 = 1970 by omega, beg_0]; exact h0, by show n < begD 10000; rw [beg_end]; omega⟩
  case round =>
    obtain ⟨i, j, k, hi, hij, hj, rfl, rfl, rfl, HI, HJ⟩ := hrel
    by_cases hlt : i < j
    · have HH := Lib.hid (HX.out ((i + j) / 2) k (by omega) (by omega))
      cases ho : overB n ((i + j) / 2)
      · rw [ho] at HH
        have HI2 := Lib.hid (show begD (1970 + ((i + j) / 2 + 1)) ≤ n by have := of_decide_eq_false ho; rw [show (1970 : Int) + ((i + j) / 2 + 1) = 1970 + (i + j) / 2 + 1 by omega]; omega)
        clear ho
        go_wp2_with fail
        refine HH.out.mono ?_
        rintro e w' ⟨rfl, k2, rfl⟩
        go_wp2_with fail
        go_roundw
        case rel => exact ⟨(i + j) / 2 + 1, j, _, by omega, by omega, by omega, rfl, rfl, rfl, HI2.out, HJ.out⟩
        case measure => simp [intOf]; omega
      · rw [ho] at HH
        have HJ2 := Lib.hid (of_decide_eq_true ho)
        clear ho
        go_wp2_with fail
        refine HH.out.mono ?_
        rintro e w' ⟨rfl, k2, rfl⟩
        go_wp2_with fail
        go_roundw
        case rel => exact ⟨i, (i + j) / 2, _, by omega, by omega, by omega, rfl, rfl, rfl, HI.out, HJ2.out⟩
        case measure => simp [intOf]; omega
    · obtain rfl : i = j := by omega
      go_wp2_with fail
      go_ret
      exact ⟨i, rfl, hi, hj, HI.out, HJ.out, _, rfl⟩
/-- What Of answers. -/
noncomputable def ofV (n : Int) : Value := .tuple #[.agg #[.int .i64 (ofD n).1, .int .i64 (ofD n).2.1, .int .i64 (ofD n).2.2], .int .i64 (ofE n)]
theorem ofV_no {n : Int} (h : ¬ (0 ≤ n ∧ n ≤ 2932896)) : ofV n = .tuple #[.agg #[.int .i64 0, .int .i64 0, .int .i64 0], .int .i64 1] := by rw [ofV, ofD_no h, ofE, if_neg h]
theorem ofV_yes {n y m d : Int} (h : Vld y m d) (hn : numD y m d = n) : ofV n = .tuple #[.agg #[.int .i64 y, .int .i64 m, .int .i64 d], .int .i64 0] := by
  subst hn
  rw [ofV, ofD_num h, ofE, if_pos h.num_bd]
def OfPost (n : Int) (w : World) (e : Ending) (w' : World) : Prop := e = .returned (ofV n) ∧ Below w.heap.size w w'
theorem of_end {n : Int} {v : Value} {w w' : World} (h : ofV n = v) (hb : Below w.heap.size w w') : OfPost n w (.returned v) w' := ⟨by rw [h], hb⟩
set_option maxRecDepth 100000 in
set_option maxHeartbeats 2000000 in
theorem of_no (n : Int) (w : World) (h : ¬ (0 ≤ n ∧ n ≤ 2932896)) : Calls Tryz.prog 107 #[.int .i64 n] w (OfPost n w) := by
  have HV := Lib.hid (ofV_no h)
  by_cases h1 : n < 0
  · have d1 : decide (n < 0) = true := decide_eq_true h1
    go_enter Tryz.func107, Tryz.ntmps107
    go_wp2_with fail
    refine bodyPost_ret (v := .tuple #[.agg #[.int .i64 0, .int .i64 0, .int .i64 0], .int .i64 1]) (by simp [results, Tryz.results107, go_sem]) rfl (of_end HV.out (((Below.refl _ _).alloc (Nat.le_refl _) _).alloc (by simp) _))
  · have d1 : decide (n < 0) = false := decide_eq_false h1
    have d2 : decide (2932896 < n) = true := decide_eq_true (by omega)
    go_enter Tryz.func107, Tryz.ntmps107
    go_wp2_with fail
    refine bodyPost_ret (v := .tuple #[.agg #[.int .i64 0, .int .i64 0, .int .i64 0], .int .i64 1]) (by simp [results, Tryz.results107, go_sem]) rfl (of_end HV.out (((Below.refl _ _).alloc (Nat.le_refl _) _).alloc (by simp) _))
theorem of_at {n y m : Int} (hy1 : 1970 ≤ y) (hy2 : y ≤ 9999) (h1 : 0 ≤ n - begD y - cumD y m) (h2 : n - begD y - cumD y m < dimD y m) :
    ofV n = .tuple #[.agg #[.int .i64 y, .int .i64 m, .int .i64 (n - begD y - cumD y m + 1)], .int .i64 0] := by
  obtain ⟨a, b⟩ := Vld.mk' (y := y) (m := m) (n := n) hy1 hy2 (by omega) h2
  exact ofV_yes a b
set_option maxRecDepth 100000 in
set_option maxHeartbeats 4000000 in
theorem of_yes (n : Int) (w : World) (hR : Ready w) (h0 : 0 ≤ n) (h1 : n ≤ 2932896) : Calls Tryz.prog 107 #[.int .i64 n] w (OfPost n w) := by
  have HS := Lib.hid (fun (w' : World) (hc : w'.cell? ⟨w.heap.size, 0, none⟩ = some (.int .i64 n)) => search_x w.heap.size n w' hc h0 h1)
  have HB := Lib.hid (fun (y : Int) (w' : World) (h0 : 1 ≤ y) (h1 : y ≤ 100000) => still0 (begins_x y w' h0 h1))
  have HL := Lib.hid (fun (y m : Int) (w' : World) (hb : Below w.heap.size w w') => len_x y m w' (hR.below hb))
  have HW := Lib.hid (show Below w.heap.size w ((w.alloc (.cells #[.int .i64 n] 3)).alloc (.cells #[.int .i64 0, .int .i64 0, .int .i64 0] 142)) from ((Below.refl _ _).alloc (Nat.le_refl _) _).alloc (by simp) _)
  clear hR
  go_enter Tryz.func107, Tryz.ntmps107
  go_wp2_with fail
  refine (HS.out _ (by simp)).mono ?_
  rintro e w' ⟨r, rfl, hr0, hr1, hb1, hb2, k, rfl⟩
  have hbs := beg_succ (1970 + r)
  have hlp := lp_01 (1970 + r)
  have hbb := beg_bd (y := 1970 + r) (by omega) (by omega)
  have hdn : n - begD (1970 + r) < 365 + lpD (1970 + r) := by omega
  have HC1 := Lib.hid (cum_1 (1970 + r))
  have HC13 := Lib.hid (cum_13 (1970 + r))
  have HO := Lib.hid (fun (m : Int) => of_at (n := n) (y := 1970 + r) (m := m) (by omega) (by omega))
  have HBy := Lib.hid (fun (w' : World) => HB.out (1970 + r) w' (by omega) (by omega))
  have e0 : IntKind.i64.wrap (1970 + r) = 1970 + r := IntWalk.i64_in _ (by omega)
  have HLy := Lib.hid (HL.out (1970 + r))
  have HCS := Lib.hid (cum_succ (1970 + r))
  have HCB := Lib.hid (fun (m : Int) => cum_bd (1970 + r) (m := m))
  have HDL := Lib.hid (dim_le (1970 + r))
  clear hbs
  generalize hq : begD (1970 + r) = bg at HO HBy hb1 hbb hdn
  have HQ := Lib.hid hq
  clear hq hb2
  have e1 : IntKind.i64.wrap (n - bg) = n - bg := IntWalk.i64_in _ (by omega)
  go_wp2_with fail
  go_quiet ((go_at_call 139; exact quiet_more (HBy.out _)))
  clear e1 e0
  go_wp2_with fail
  rw [World.drewN_drewN]
  go_loop [6, 7] (fun a k => ∃ m : Int, 1 ≤ m ∧ m ≤ 12 ∧ k = .int .i64 m ∧ a = .int .i64 (n - bg - cumD (1970 + r) m) ∧ 0 ≤ n - bg - cumD (1970 + r) m) (fun _ k => (12 - intOf k).toNat)
  case atStart => exact ⟨1, by omega, by omega, rfl, by rw [HC1.out, Int.sub_zero], by rw [HC1.out]; omega⟩
  case round =>
    obtain ⟨m, hm1, hm2, rfl, rfl, hge⟩ := hrel
    have cb := HCB.out m (by omega) (by omega)
    have hdl := HDL.out m
    have CS := Lib.hid (HCS.out m hm1 hm2)
    have HJ := Lib.hid (HLy.out m)
    have HOm := Lib.hid (HO.out m)
    have h12 : m = 12 → n - bg - cumD (1970 + r) m < dimD (1970 + r) m := by
      rintro rfl
      have a := CS.out
      have b := HC13.out
      rw [show (12 : Int) + 1 = 13 from rfl] at a
      omega
    have H12 := Lib.hid h12
    clear h12
    generalize dimD (1970 + r) m = dj at CS HJ hdl HOm H12
    generalize cumD (1970 + r) m = cj at CS HOm hge cb H12
    by_cases hjm : dj ≤ n - bg - cj
    · have hm12 : m < 12 := by
        rcases Int.lt_or_le m 12 with h | h
        · exact h
        · have := H12.out (by omega); omega
      go_wp2_with fail
      refine (HJ.out _ (by first | exact below_drewN HW.out _ | exact below_drewN (below_drewN HW.out _) _)).mono ?_
      rintro e w' ⟨rfl, rfl⟩
      go_wp2_with fail
      refine (HJ.out _ (by first | exact below_drewN HW.out _ | exact below_drewN (below_drewN HW.out _) _)).mono ?_
      rintro e w' ⟨rfl, rfl⟩
      go_wp2_with fail
      go_round
      case rel => exact ⟨m + 1, by omega, by omega, rfl, by rw [CS.out]; go_num, by rw [CS.out]; omega⟩
      case measure => simp [intOf]; omega
    · have HV := Lib.hid (HOm.out hge (by omega))
      go_wp2_with fail
      refine (HJ.out _ (by first | exact below_drewN HW.out _ | exact below_drewN (below_drewN HW.out _) _)).mono ?_
      rintro e w' ⟨rfl, rfl⟩
      go_wp2_with fail
      refine bodyPost_ret (v := .tuple #[.agg #[.int .i64 (1970 + r), .int .i64 m, .int .i64 (n - bg - cj + 1)], .int .i64 0]) (by simp [results, Tryz.results107, go_sem]) rfl (of_end HV.out ?_)
      exact (((below_drewN HW.out _).setCell (Nat.le_succ _) _).setCell (Nat.le_succ _) _).setCell (Nat.le_succ _) _
theorem of_x (n : Int) (w : World) (hR : Ready w) : Calls Tryz.prog 107 #[.int .i64 n] w (OfPost n w) := by
  by_cases h : 0 ≤ n ∧ n ≤ 2932896
  · exact of_yes n w hR h.1 h.2
  · exact of_no n w h
end Go.Proofs.YtojpkbonioglbaaGreatDoor
/-
  The walks of package date's like and formed.
-/
namespace Go.Proofs.YtojpkbonioglbaaGreatDoor
set_option maxRecDepth 100000
open Go.RowKit
theorem get_at {l : List UInt8} {k : Nat} (hk : k < l.length) : ∃ x : UInt8, l[k]? = some x ∧ (mkS l)[k]'(by rw [mkS_size]; exact hk) = x :=
  ⟨_, List.getElem?_eq_getElem hk, mkS_get _ (List.getElem?_eq_getElem hk)⟩
end Go.Proofs.YtojpkbonioglbaaGreatDoor
/-
  The walks of package date's Parse and its closure.
-/
namespace Go.Proofs.YtojpkbonioglbaaGreatDoor
set_option maxRecDepth 100000
open Go.RowKit
/-- Block p holds the number j; nothing else has turned. -/
structure Moved (p j : Nat) (w w' : World) : Prop where
  os : w'.os = w.os
  tape : w'.tape = w.tape
  output : w'.output = w.output
  size : w'.heap.size = w.heap.size
  other : ∀ k, k ≠ p → w'.heap[k]? = w.heap[k]?
  here : w'.heap[p]? = some (.cells #[.int .i64 (j : Int)] 3 (0, 0))
theorem Moved.refl {p j : Nat} {w : World} (h : w.heap[p]? = some (.cells #[.int .i64 (j : Int)] 3 (0, 0))) : Moved p j w w := ⟨rfl, rfl, rfl, rfl, fun _ _ => rfl, h⟩
theorem Moved.trans {p j k : Nat} {a b c : World} (h : Moved p j a b) (g : Moved p k b c) : Moved p k a c :=
  ⟨g.os.trans h.os, g.tape.trans h.tape, g.output.trans h.output, g.size.trans h.size, fun i hi => (g.other i hi).trans (h.other i hi), g.here⟩
theorem Moved.set {p j : Nat} {w : World} (h : w.heap[p]? = some (.cells #[.int .i64 (j : Int)] 3 (0, 0))) (k : Nat) : Moved p k w (w.setCell ⟨p, 0, none⟩ (.int .i64 (k : Int))) :=
  ⟨rfl, rfl, rfl, by simp [World.setCell], fun i hi => Below.heap_setCell w ⟨p, 0, none⟩ _ i hi, setOf h 0 _⟩
theorem Moved.below {p j B : Nat} {w w' : World} (h : Moved p j w w') (hB : B ≤ p) : Below B w w' := ⟨h.os, h.tape, h.output, Nat.le_of_eq h.size.symm, fun k hk => h.other k (by omega)⟩
def NumPost (p j : Nat) (v : Int) (w : World) (e : Ending) (w' : World) : Prop := e = .returned (.int .i64 v) ∧ Moved p j w w'
theorem run_mono {l : List UInt8} {a k j : Nat} (h : Run l a k) (hj : j ≤ k) : Run l a j := fun i hi => h i (by omega)
theorem fld_0 (l : List UInt8) (a : Nat) : fld l a 0 = 0 := by simp [fld, fldL, valX]
theorem fld_succ {l : List UInt8} {a k : Nat} {x : UInt8} (h : l[a + k]? = some x) (hd : digB x = true) : fld l a (k + 1) = fld l a k * 10 + ((x.toNat : Int) - 48) := by
  have := digB_bd hd
  unfold fld
  rw [fldL_succ h, valX_snoc]
  omega
theorem fld_lt {l : List UInt8} {a k : Nat} (h : Run l a k) (hk : k ≤ 4) : 0 ≤ fld l a k ∧ fld l a k ≤ 9999 := by
  have := run_bd h
  have : 10 ^ k ≤ 10 ^ 4 := Nat.pow_le_pow_right (by omega) hk
  unfold fld
  omega
/-- What holds in Parse: the text in its box, the place in its own. -/
structure PR (W0 : World) (l : List UInt8) (k : Nat) (w : World) : Prop where
  box : w.heap[W0.heap.size]? = some (.cells #[.string (mkS l)] 9 (0, 0))
  here : w.heap[W0.heap.size + 1]? = some (.cells #[.int .i64 (k : Int)] 3 (0, 0))
  below : Below W0.heap.size W0 w
theorem PR.next {W0 w w' : World} {l : List UInt8} {k : Nat} (h : PR W0 l k w) (hb : Below w.heap.size w w') : PR W0 l k w' :=
  ⟨(hb.block _ (ltOf h.box)).trans h.box, (hb.block _ (ltOf h.here)).trans h.here, below_next h.below hb⟩
theorem run_0 (l : List UInt8) (a : Nat) : Run l a 0 := fun j hj => by omega
theorem ends_ge {l : List UInt8} {a : Nat} (h : l.length ≤ a) : Ends l a := fun x hx => by rw [List.getElem?_eq_none h] at hx; cases hx
def ParsePost (l : List UInt8) (w : World) (e : Ending) (w' : World) : Prop := e = .returned (.tuple #[.int .i64 (parseV l), .int .i64 (parseE l)]) ∧ Below w.heap.size w w'
theorem parse_end {l : List UInt8} {v e : Int} {w w' : World} (hv : parseV l = v) (he : parseE l = e) (hb : Below w.heap.size w w') : ParsePost l w (.returned (.tuple #[.int .i64 v, .int .i64 e])) w' := ⟨by rw [hv, he], hb⟩
theorem bad_of {l : List UInt8} (hf : formedX l = true) (h : okX l = false) : parseV l = 0 ∧ parseE l = 1 := by
  unfold parseV parseE
  rw [hf, h]
  exact ⟨rfl, rfl⟩
theorem good_of {l : List UInt8} (hf : formedX l = true) (h : okX l = true) : parseV l = parseT l ∧ parseE l = 0 := by
  unfold parseV parseE
  rw [hf, h]
  exact ⟨rfl, rfl⟩
theorem pr_new (w : World) (l : List UInt8) (k : Nat) : PR w l 0 (((w.alloc (.cells #[.string (mkS l)] 9)).drewN k).alloc (.cells #[.int .i64 0] 3)) := by
  have h0 := newOf w (.cells #[.string (mkS l)] 9)
  have h1 := newOf ((w.alloc (.cells #[.string (mkS l)] 9)).drewN k) (.cells #[.int .i64 0] 3)
  have s1 : ((w.alloc (.cells #[.string (mkS l)] 9)).drewN k).heap.size = w.heap.size + 1 := by simp
  rw [s1] at h1
  refine ⟨?_, h1, ?_⟩
  · rw [Below.heap_alloc _ _ _ (by rw [s1]; omega)]; exact h0
  · exact (below_box w _ k).alloc (by rw [s1]; omega) _
end Go.Proofs.YtojpkbonioglbaaGreatDoor
/-
  The walks of strings.Repeat of no text and of one, and of Print's closure.
-/
namespace Go.Proofs.YtojpkbonioglbaaGreatDoor
set_option maxRecDepth 100000
open Go.RowKit
set_option maxRecDepth 100000 in
set_option maxHeartbeats 1000000 in
theorem rep0_x (w : World) : Calls Tryz.prog 109 #[.string { data := #[48] }, .int .i64 0] w fun e w' => e = .returned (.string { data := #[] }) ∧ w = w' := by
  go_enter Tryz.func109, Tryz.ntmps109
  go_wp2_with fail
  go_ret
  exact ⟨rfl, rfl⟩
set_option maxRecDepth 100000 in
set_option maxHeartbeats 1000000 in
theorem rep1_x (w : World) : Calls Tryz.prog 109 #[.string { data := #[48] }, .int .i64 1] w fun e w' => e = .returned (.string { data := #[48] }) ∧ w = w' := by
  go_enter Tryz.func109, Tryz.ntmps109
  go_wp2_with fail
  go_ret
  exact ⟨rfl, rfl⟩
theorem itoa_small (n : Nat) (h : n < 100) (w : World) : Calls Tryz.prog 22 #[.int .i64 (n : Int)] w fun e w' => e = .returned (.string (mkS (Lib.decDigits n))) ∧ w = w' :=
  (Tryz.strconv_Itoa_small n h w).mono fun _ _ ⟨he, hw⟩ => ⟨he, hw.symm⟩
theorem itoa_big (n : Nat) (h : n < 100000) (w : World) (hR : Ready w) : Calls Tryz.prog 22 #[.int .i64 (n : Int)] w fun e w' => e = .returned (.string (mkS (Lib.decDigits n))) ∧ Below w.heap.size w w' :=
  (Tryz.strconv_Itoa n (by omega) (by omega) w hR.2).mono fun _ _ ⟨he, k, os, hw⟩ => ⟨by rw [he, Lib.itoa, if_neg (by omega)]; rfl, by rw [hw]; exact Lib.below_grow _ _ (Nat.le_refl _) _ _⟩
def LayPost (b : Nat) (l : List UInt8) (w : World) (e : Ending) (w' : World) : Prop := e = .returned (.tuple #[]) ∧ Bld b l w' ∧ Below b w w'
set_option maxRecDepth 100000 in
set_option maxHeartbeats 1000000 in
theorem lay2_x (b : Nat) (l behind : List UInt8) (n : Nat) (w : World) (hB : Bld b l w) (hl : l.length ≤ 1000) (hbl : behind.length ≤ 10) (hn : n < 100) :
    Calls Tryz.prog 108 #[.int .i64 (n : Int), .int .i64 2, .string (mkS behind), .pointer (some ⟨b, 0, none⟩)] w (LayPost b (l ++ b2 n ++ behind) w) := by
  have HB := Lib.hid hB
  have HI := Lib.hid (itoa_small n hn w)
  have hmd := mkS_size (Lib.decDigits n)
  by_cases h10 : n < 10
  · have HD := Lib.hid (dec_b2 h10)
    have hdl : (Lib.decDigits n).length = 1 := by rw [dec_1 h10]; rfl
    generalize Lib.decDigits n = d at HI hmd HD hdl
    rw [hdl] at hmd
    have HDL := Lib.hid hdl
    clear hB hdl
    go_enter Tryz.func108, Tryz.ntmps108
    go_wp2_with fail
    refine HI.out.mono ?_
    rintro e w' ⟨rfl, rfl⟩
    go_wp2_with fail
    refine (rep1_x _).mono ?_
    rintro e w' ⟨rfl, rfl⟩
    go_wp2_with fail
    refine (bld_str HB.out [48] (by simp; omega)).mono ?_
    rintro e w1 ⟨rfl, hb1, hw1⟩
    have HB1 := Lib.hid hb1
    have HW1 := Lib.hid hw1
    clear hb1 hw1
    go_wp2_with fail
    refine (bld_str HB1.out d (by rw [HDL.out]; simp; omega)).mono ?_
    rintro e w2 ⟨rfl, hb2, hw2⟩
    have HB2 := Lib.hid hb2
    have HW2 := Lib.hid (HW1.out.trans hw2)
    clear hb2 hw2
    go_wp2_with fail
    refine (bld_str HB2.out behind (by simp [HDL.out]; omega)).mono ?_
    rintro e w3 ⟨rfl, hb3, hw3⟩
    have HB3 := Lib.hid hb3
    have HW3 := Lib.hid (HW2.out.trans hw3)
    clear hb3 hw3
    go_wp2_with fail
    go_end0
    exact ⟨rfl, by have := HB3.out; rw [List.append_assoc l, HD.out] at this; exact this, HW3.out⟩
  · have HD := Lib.hid (dec_2 h10 hn)
    have hdl : (Lib.decDigits n).length = 2 := by rw [dec_2 h10 hn]; rfl
    generalize Lib.decDigits n = d at HI hmd HD hdl
    rw [hdl] at hmd
    have HDL := Lib.hid hdl
    clear hB hdl
    go_enter Tryz.func108, Tryz.ntmps108
    go_wp2_with fail
    refine HI.out.mono ?_
    rintro e w' ⟨rfl, rfl⟩
    go_wp2_with fail
    refine (rep0_x _).mono ?_
    rintro e w' ⟨rfl, rfl⟩
    go_wp2_with fail
    refine (bld_str HB.out [] (by simp; omega)).mono ?_
    rintro e w1 ⟨rfl, hb1, hw1⟩
    have HB1 := Lib.hid hb1
    have HW1 := Lib.hid hw1
    clear hb1 hw1
    go_wp2_with fail
    refine (bld_str HB1.out d (by rw [HDL.out]; simp; omega)).mono ?_
    rintro e w2 ⟨rfl, hb2, hw2⟩
    have HB2 := Lib.hid hb2
    have HW2 := Lib.hid (HW1.out.trans hw2)
    clear hb2 hw2
    go_wp2_with fail
    refine (bld_str HB2.out behind (by simp [HDL.out]; omega)).mono ?_
    rintro e w3 ⟨rfl, hb3, hw3⟩
    have HB3 := Lib.hid hb3
    have HW3 := Lib.hid (HW2.out.trans hw3)
    clear hb3 hw3
    go_wp2_with fail
    go_end0
    exact ⟨rfl, by have := HB3.out; rw [List.append_nil, HD.out] at this; exact this, HW3.out⟩
set_option maxRecDepth 100000 in
set_option maxHeartbeats 1000000 in
theorem lay4_x (b : Nat) (l behind : List UInt8) (n : Nat) (w : World) (hR : Ready w) (hB : Bld b l w) (hl : l.length ≤ 1000) (hbl : behind.length ≤ 10) (h1 : 1000 ≤ n) (h2 : n < 10000) :
    Calls Tryz.prog 108 #[.int .i64 (n : Int), .int .i64 4, .string (mkS behind), .pointer (some ⟨b, 0, none⟩)] w (LayPost b (l ++ b4 n ++ behind) w) := by
  have HB := Lib.hid hB
  have HI := Lib.hid (itoa_big n (by omega) w hR)
  have hmd := mkS_size (Lib.decDigits n)
  have HD := Lib.hid (dec_4 h1 h2)
  have hdl : (Lib.decDigits n).length = 4 := by rw [dec_4 h1 h2]; rfl
  generalize Lib.decDigits n = d at HI hmd HD hdl
  rw [hdl] at hmd
  have HDL := Lib.hid hdl
  have HBL := Lib.hid (Nat.le_of_lt hB.lt)
  clear hB hdl hR
  go_enter Tryz.func108, Tryz.ntmps108
  go_wp2_with fail
  refine HI.out.mono ?_
  rintro e w0 ⟨rfl, hw0⟩
  have HB0 := Lib.hid (HB.out.below hw0)
  have HW0 := Lib.hid (hw0.mono HBL.out)
  clear hw0
  go_wp2_with fail
  refine (rep0_x _).mono ?_
  rintro e w' ⟨rfl, rfl⟩
  go_wp2_with fail
  refine (bld_str HB0.out [] (by simp; omega)).mono ?_
  rintro e w1 ⟨rfl, hb1, hw1⟩
  have HB1 := Lib.hid hb1
  have HW1 := Lib.hid (HW0.out.trans hw1)
  clear hb1 hw1
  go_wp2_with fail
  refine (bld_str HB1.out d (by rw [HDL.out]; simp; omega)).mono ?_
  rintro e w2 ⟨rfl, hb2, hw2⟩
  have HB2 := Lib.hid hb2
  have HW2 := Lib.hid (HW1.out.trans hw2)
  clear hb2 hw2
  go_wp2_with fail
  refine (bld_str HB2.out behind (by simp [HDL.out]; omega)).mono ?_
  rintro e w3 ⟨rfl, hb3, hw3⟩
  have HB3 := Lib.hid hb3
  have HW3 := Lib.hid (HW2.out.trans hw3)
  clear hb3 hw3
  go_wp2_with fail
  go_end0
  exact ⟨rfl, by have := HB3.out; rw [List.append_nil, HD.out] at this; exact this, HW3.out⟩
end Go.Proofs.YtojpkbonioglbaaGreatDoor
/-
  The walk of package date's Print.
-/
namespace Go.Proofs.YtojpkbonioglbaaGreatDoor
set_option maxRecDepth 100000
open Go.RowKit
def PrintPost (t : Int) (w : World) (e : Ending) (w' : World) : Prop := e = .returned (.tuple #[.string (mkS (printS t)), .int .i64 (printE t)]) ∧ Below w.heap.size w w'
set_option maxRecDepth 100000 in
set_option maxHeartbeats 1000000 in
theorem print_no (t : Int) (w : World) (ht : timB t = false) : Calls Tryz.prog 79 #[.int .i64 t] w (PrintPost t w) := by
  have HT := Lib.hid (time_x t w)
  have HS := Lib.hid (show printS t = [] ∧ printE t = 1 by unfold printS printE; rw [ht]; exact ⟨rfl, rfl⟩)
  rw [ht] at HT
  clear ht
  go_enter Tryz.func79, Tryz.ntmps79
  go_wp2_with fail
  refine HT.out.mono ?_
  rintro e w' ⟨rfl, rfl⟩
  go_wp2_with fail
  go_ret2
  exact ⟨by rw [HS.out.1, HS.out.2]; rfl, Below.refl _ _⟩
/-- What holds in Print: what was laid so far, and the date in its box. -/
structure PS (w0 w1 : World) (l : List UInt8) (y m d : Nat) (w : World) : Prop where
  bld : Bld (w1.heap.size + 1) l w
  box : w.heap[w1.heap.size]? = some (.cells #[.int .i64 (y : Int), .int .i64 (m : Int), .int .i64 (d : Int)] 142 (0, 0))
  below : Below w0.heap.size w0 w
theorem ps_new {w0 w1 : World} (h : Below w0.heap.size w0 w1) (y m d : Nat) :
    PS w0 w1 [] y m d ((w1.alloc (.cells #[.int .i64 (y : Int), .int .i64 (m : Int), .int .i64 (d : Int)] 142)).alloc (.cells #[.pointer none, .slice none 0 0] 105)) := by
  have h0 := newOf w1 (.cells #[.int .i64 (y : Int), .int .i64 (m : Int), .int .i64 (d : Int)] 142)
  have h1 := bld_new (w1.alloc (.cells #[.int .i64 (y : Int), .int .i64 (m : Int), .int .i64 (d : Int)] 142))
  have s1 : (w1.alloc (.cells #[.int .i64 (y : Int), .int .i64 (m : Int), .int .i64 (d : Int)] 142)).heap.size = w1.heap.size + 1 := by simp
  rw [s1] at h1
  refine ⟨h1, ?_, ?_⟩
  · rw [Below.heap_alloc _ _ _ (by rw [s1]; omega)]; exact h0
  · exact (h.alloc h.size _).alloc (by have := h.size; rw [s1]; omega) _
theorem PS.next {w0 w1 w w' : World} {l l' : List UInt8} {y m d : Nat} (h : PS w0 w1 l y m d w) (hs : w0.heap.size ≤ w1.heap.size) (hb : Bld (w1.heap.size + 1) l' w') (hw : Below (w1.heap.size + 1) w w') : PS w0 w1 l' y m d w' :=
  ⟨hb, (hw.block _ (by omega)).trans h.box, h.below.trans (hw.mono (by omega))⟩
theorem ps2_x {w0 w1 w : World} {l : List UInt8} {y m d : Nat} (h : PS w0 w1 l y m d w) (hs : w0.heap.size ≤ w1.heap.size) (v : Int) (x : UInt8) (h0 : 0 ≤ v) (h1 : v < 100) (hl : l.length ≤ 1000) :
    Calls Tryz.prog 108 #[.int .i64 v, .int .i64 2, .string { data := #[x] }, .pointer (some ⟨w1.heap.size + 1, 0, none⟩)] w fun e w' => e = .returned (.tuple #[]) ∧ PS w0 w1 (l ++ b2 v.toNat ++ [x]) y m d w' := by
  obtain ⟨n, rfl⟩ : ∃ n : Nat, v = n := ⟨v.toNat, by omega⟩
  rw [Int.toNat_natCast]
  exact (lay2_x _ l [x] n w h.bld hl (by simp) (by omega)).mono fun e w' ⟨he, hb, hw⟩ => ⟨he, h.next hs hb hw⟩
theorem ps4_x {w0 w1 w : World} {l : List UInt8} {y m d : Nat} (h : PS w0 w1 l y m d w) (hR : Ready w0) (hs : w0.heap.size ≤ w1.heap.size) (n : Nat) (x : UInt8) (h0 : 1000 ≤ n) (h1 : n < 10000) (hl : l.length ≤ 1000) :
    Calls Tryz.prog 108 #[.int .i64 (n : Int), .int .i64 4, .string { data := #[x] }, .pointer (some ⟨w1.heap.size + 1, 0, none⟩)] w fun e w' => e = .returned (.tuple #[]) ∧ PS w0 w1 (l ++ b4 n ++ [x]) y m d w' :=
  (lay4_x _ l [x] n w (hR.below h.below) h.bld hl (by simp) h0 h1).mono fun e w' ⟨he, hb, hw⟩ => ⟨he, h.next hs hb hw⟩
theorem text_eq (y m d h i s : Nat) : [] ++ b4 y ++ [45] ++ b2 m ++ [45] ++ b2 d ++ [84] ++ b2 h ++ [58] ++ b2 i ++ [58] ++ b2 s ++ [90] = textX y m d h i s := rfl
set_option maxRecDepth 100000 in
set_option maxHeartbeats 4000000 in
theorem print_yes (t : Int) (w : World) (hR : Ready w) (ht : timB t = true) : Calls Tryz.prog 79 #[.int .i64 t] w (PrintPost t w) := by
  have htb := timB_iff.1 ht
  have HT := Lib.hid (time_x t w)
  have HO := Lib.hid (of_x (t / 86400) w hR)
  have hsp := ofD_spec (n := t / 86400) (by omega) (by omega)
  have HE := Lib.hid (show ofV (t / 86400) = .tuple #[.agg #[.int .i64 (ofD (t / 86400)).1, .int .i64 (ofD (t / 86400)).2.1, .int .i64 (ofD (t / 86400)).2.2], .int .i64 0] by rw [ofV, ofE, if_pos (by omega)])
  have HS := Lib.hid (show printS t = textX (ofD (t / 86400)).1.toNat (ofD (t / 86400)).2.1.toNat (ofD (t / 86400)).2.2.toNat (t % 86400 / 3600).toNat (t % 3600 / 60).toNat (t % 60).toNat ∧ printE t = 0 by unfold printS printE printX; rw [ht]; exact ⟨rfl, rfl⟩)
  unfold OfPost at HO
  rw [HE.out] at HO
  rw [ht] at HT
  generalize (ofD (t / 86400)).1 = y at *
  generalize (ofD (t / 86400)).2.1 = m at *
  generalize (ofD (t / 86400)).2.2 = d at *
  have hv := hsp.1
  have hm := hv.m
  have hd := hv.d31
  have hd1 := hv.d1
  have hy1 := hv.y1
  have hy2 := hv.y2
  have HR := Lib.hid hR
  clear hsp ht hv HE hR
  obtain ⟨y, rfl⟩ : ∃ k : Nat, y = k := ⟨y.toNat, by omega⟩
  obtain ⟨m, rfl⟩ : ∃ k : Nat, m = k := ⟨m.toNat, by omega⟩
  obtain ⟨d, rfl⟩ : ∃ k : Nat, d = k := ⟨d.toNat, by omega⟩
  go_enter Tryz.func79, Tryz.ntmps79
  go_wp2_with fail
  refine HT.out.mono ?_
  rintro e w' ⟨rfl, rfl⟩
  go_wp2_with fail
  refine HO.out.mono ?_
  rintro e w1 ⟨rfl, hb1⟩
  have HB1 := Lib.hid hb1
  clear hb1
  go_wp2_with fail
  have HZ := Lib.hid HB1.out.size
  refine (ps4_x (ps_new HB1.out y m d) HR.out HZ.out y 45 (by omega) (by omega) (by simp)).mono ?_
  rintro e v1 ⟨rfl, hp⟩
  have P1 := Lib.hid hp
  clear hp
  have hc1 := cellOf P1.out.box 1
  go_wp2_with fail
  clear hc1
  refine (ps2_x P1.out HZ.out ((m : Nat) : Int) 45 (by omega) (by omega) (by simp [b4])).mono ?_
  rintro e v2 ⟨rfl, hp⟩
  have P2 := Lib.hid hp
  clear hp
  have hc2 := cellOf P2.out.box 2
  go_wp2_with fail
  clear hc2
  refine (ps2_x P2.out HZ.out ((d : Nat) : Int) 84 (by omega) (by omega) (by simp [b2, b4])).mono ?_
  rintro e v3 ⟨rfl, hp⟩
  have P3 := Lib.hid hp
  clear hp
  go_wp2_with fail
  refine (ps2_x P3.out HZ.out (t % 86400 / 3600) 58 (by omega) (by omega) (by simp [b2, b4])).mono ?_
  rintro e v4 ⟨rfl, hp⟩
  have P4 := Lib.hid hp
  clear hp
  go_wp2_with fail
  refine (ps2_x P4.out HZ.out (t % 3600 / 60) 58 (by omega) (by omega) (by simp [b2, b4])).mono ?_
  rintro e v5 ⟨rfl, hp⟩
  have P5 := Lib.hid hp
  clear hp
  go_wp2_with fail
  refine (ps2_x P5.out HZ.out (t % 60) 90 (by omega) (by omega) (by simp [b2, b4])).mono ?_
  rintro e v6 ⟨rfl, hp⟩
  have P6 := Lib.hid hp
  clear hp
  go_wp2_with fail
  refine (bld_string P6.out.bld).mono ?_
  rintro e v7 ⟨rfl, _, hw⟩
  have HW := Lib.hid (P6.out.below.trans (hw.mono (by have := HZ.out; omega)))
  clear hw
  go_wp2_with fail
  go_ret2
  exact ⟨by rw [HS.out.1, HS.out.2]; rfl, HW.out⟩
theorem print_x (t : Int) (w : World) (hR : Ready w) : Calls Tryz.prog 79 #[.int .i64 t] w (PrintPost t w) := by
  cases ht : timB t
  · exact print_no t w ht
  · exact print_yes t w hR ht
end Go.Proofs.YtojpkbonioglbaaGreatDoor
