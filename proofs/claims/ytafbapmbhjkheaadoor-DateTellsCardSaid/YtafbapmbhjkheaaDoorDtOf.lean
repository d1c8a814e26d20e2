/-
  The walks of package date's Of, its closure, and sort.Search of it.
-/
import Derived.Test.YtafbapmbhjkheaaDoorDtDays
namespace Go.Proofs.YtafbapmbhjkheaaDoor
open Go.RowKit
/-- A call that draws alone. -/
def Drew (v : Value) (w : World) (e : Ending) (w' : World) : Prop := e = .returned v ∧ ∃ k, w' = w.drewN k
def overB (n i : Int) : Bool := decide (n < begD (1970 + i + 1))
set_option maxHeartbeats 400000 in
theorem over_x (b : Nat) (n i : Int) (w : World) (hc : w.cell? ⟨b, 0, none⟩ = some (.int .i64 n)) (h0 : 0 ≤ i) (h1 : i ≤ 8029) :
    Calls Tryd.prog 24 #[.int .i64 i, .pointer (some ⟨b, 0, none⟩)] w (Drew (.bool (overB n i)) w) := by
  have HB := Lib.hid (fun (k : Nat) => still0 (begins_x (1970 + i + 1) (w.drewN k) (by omega) (by omega)))
  have HO := Lib.hid (show overB n i = decide (n < begD (1970 + i + 1)) from rfl)
  have e1 : IntKind.i64.wrap (1970 + i) = 1970 + i := IntWalk.i64_in _ (by omega)
  have e2 : IntKind.i64.wrap (1970 + i + 1) = 1970 + i + 1 := IntWalk.i64_in _ (by omega)
  generalize begD (1970 + i + 1) = q at HB HO
  go_enter Tryd.func24, Tryd.ntmps24
  go_wp2_with fail
  go_quiet ((go_at_call 22; exact Calls.quiet_of_same (HB.out _)))
  clear e1 e2
  go_wp2_with fail
  go_ret
  exact ⟨ret_bool HO.out.symm, _, rfl⟩
def SearchPost (n : Int) (w : World) (e : Ending) (w' : World) : Prop := ∃ r : Int, e = .returned (.int .i64 r) ∧ 0 ≤ r ∧ r ≤ 8029 ∧ begD (1970 + r) ≤ n ∧ n < begD (1970 + r + 1) ∧ ∃ k, w' = w.drewN k
set_option maxHeartbeats 1000000 in
theorem search_x (b : Nat) (n : Int) (w : World) (hc : w.cell? ⟨b, 0, none⟩ = some (.int .i64 n)) (h0 : 0 ≤ n) (h1 : n ≤ 2932896) :
    Calls Tryd.prog 25 #[.int .i64 8029, .func (.func 24) #[] #[.pointer (some ⟨b, 0, none⟩)]] w (SearchPost n w) := by
  have HX := Lib.hid (fun (i : Int) (k : Nat) (h0 : 0 ≤ i) (h1 : i ≤ 8029) => over_x b n i (w.drewN k) hc h0 h1)
  clear hc
  go_enter Tryd.func25, Tryd.ntmps25
  go_wp2_with fail
  go_loopw [5, 6] (fun u v wr => ∃ (i j : Int) (k : Nat), 0 ≤ i ∧ i ≤ j ∧ j ≤ 8029 ∧ u = .int .i64 i ∧ v = .int .i64 j ∧ wr = w.drewN k ∧ Hid (begD (1970 + i) ≤ n) ∧ Hid (n < begD (1970 + j + 1))) (fun u v _ => (intOf v - intOf u).toNat)
  case atStart => exact ⟨0, 8029, 0, by omega, by omega, by omega, rfl, rfl, rfl, by show begD (1970 + 0) ≤ n; rw [show (1970 : Int) + 0 = 1970 by omega, beg_0]; exact h0, by show n < begD 10000; rw [beg_end]; omega⟩
  case round =>
    obtain ⟨i, j, k, hi, hij, hj, rfl, rfl, rfl, HI, HJ⟩ := hrel
    by_cases hlt : i < j
    · have HH := Lib.hid (HX.out ((i + j) / 2) k (by omega) (by omega))
      cases ho : overB n ((i + j) / 2)
      · rw [ho] at HH
        have HI2 := Lib.hid (show begD (1970 + ((i + j) / 2 + 1)) ≤ n by have := of_decide_eq_false ho; rw [show (1970 : Int) + ((i + j) / 2 + 1) = 1970 + (i + j) / 2 + 1 by omega]; omega)
        clear ho
        go_wp2_with fail
        refine HH.out.mono ?_
        rintro e w' ⟨rfl, k2, rfl⟩
        go_wp2_with fail
        go_roundw
        case rel => exact ⟨(i + j) / 2 + 1, j, _, by omega, by omega, by omega, rfl, rfl, rfl, HI2.out, HJ.out⟩
        case measure => simp [intOf]; omega
      · rw [ho] at HH
        have HJ2 := Lib.hid (of_decide_eq_true ho)
        clear ho
        go_wp2_with fail
        refine HH.out.mono ?_
        rintro e w' ⟨rfl, k2, rfl⟩
        go_wp2_with fail
        go_roundw
        case rel => exact ⟨i, (i + j) / 2, _, by omega, by omega, by omega, rfl, rfl, rfl, HI.out, HJ2.out⟩
        case measure => simp [intOf]; omega
    · obtain rfl : i = j := by omega
      go_wp2_with fail
      go_ret
      exact ⟨i, rfl, hi, hj, HI.out, HJ.out, _, rfl⟩
/-- What Of answers. -/
noncomputable def ofV (n : Int) : Value := .tuple #[.agg #[.int .i64 (ofD n).1, .int .i64 (ofD n).2.1, .int .i64 (ofD n).2.2], .int .i64 (ofE n)]
theorem ofV_no {n : Int} (h : ¬ (0 ≤ n ∧ n ≤ 2932896)) : ofV n = .tuple #[.agg #[.int .i64 0, .int .i64 0, .int .i64 0], .int .i64 1] := by rw [ofV, ofD_no h, ofE, if_neg h]
theorem ofV_yes {n y m d : Int} (h : Vld y m d) (hn : numD y m d = n) : ofV n = .tuple #[.agg #[.int .i64 y, .int .i64 m, .int .i64 d], .int .i64 0] := by
  subst hn
  rw [ofV, ofD_num h, ofE, if_pos h.num_bd]
def OfPost (n : Int) (w : World) (e : Ending) (w' : World) : Prop := e = .returned (ofV n) ∧ Below w.heap.size w w'
theorem of_end {n : Int} {v : Value} {w w' : World} (h : ofV n = v) (hb : Below w.heap.size w w') : OfPost n w (.returned v) w' := ⟨by rw [h], hb⟩
set_option maxHeartbeats 2000000 in
theorem of_no (n : Int) (w : World) (h : ¬ (0 ≤ n ∧ n ≤ 2932896)) : Calls Tryd.prog 11 #[.int .i64 n] w (OfPost n w) := by
  have HV := Lib.hid (ofV_no h)
  by_cases h1 : n < 0
  · have d1 : decide (n < 0) = true := decide_eq_true h1
    go_enter Tryd.func11, Tryd.ntmps11
    go_wp2_with fail
    refine bodyPost_ret (v := .tuple #[.agg #[.int .i64 0, .int .i64 0, .int .i64 0], .int .i64 1]) (by simp [results, Tryd.results11, go_sem]) rfl (of_end HV.out (((Below.refl _ _).alloc (Nat.le_refl _) _).alloc (by simp) _))
  · have d1 : decide (n < 0) = false := decide_eq_false h1
    have d2 : decide (2932896 < n) = true := decide_eq_true (by omega)
    go_enter Tryd.func11, Tryd.ntmps11
    go_wp2_with fail
    refine bodyPost_ret (v := .tuple #[.agg #[.int .i64 0, .int .i64 0, .int .i64 0], .int .i64 1]) (by simp [results, Tryd.results11, go_sem]) rfl (of_end HV.out (((Below.refl _ _).alloc (Nat.le_refl _) _).alloc (by simp) _))
theorem of_at {n y m : Int} (hy1 : 1970 ≤ y) (hy2 : y ≤ 9999) (h1 : 0 ≤ n - begD y - cumD y m) (h2 : n - begD y - cumD y m < dimD y m) :
    ofV n = .tuple #[.agg #[.int .i64 y, .int .i64 m, .int .i64 (n - begD y - cumD y m + 1)], .int .i64 0] := by
  obtain ⟨a, b⟩ := Vld.mk' (y := y) (m := m) (n := n) hy1 hy2 (by omega) h2
  exact ofV_yes a b
set_option maxHeartbeats 4000000 in
theorem of_yes (n : Int) (w : World) (hR : Ready w) (h0 : 0 ≤ n) (h1 : n ≤ 2932896) : Calls Tryd.prog 11 #[.int .i64 n] w (OfPost n w) := by
  have HS := Lib.hid (fun (w' : World) (hc : w'.cell? ⟨w.heap.size, 0, none⟩ = some (.int .i64 n)) => search_x w.heap.size n w' hc h0 h1)
  have HB := Lib.hid (fun (y : Int) (w' : World) (h0 : 1 ≤ y) (h1 : y ≤ 100000) => still0 (begins_x y w' h0 h1))
  have HL := Lib.hid (fun (y m : Int) (w' : World) (hb : Below w.heap.size w w') => len_x y m w' (hR.below hb))
  have HW := Lib.hid (show Below w.heap.size w ((w.alloc (.cells #[.int .i64 n] 3)).alloc (.cells #[.int .i64 0, .int .i64 0, .int .i64 0] 23)) from ((Below.refl _ _).alloc (Nat.le_refl _) _).alloc (by simp) _)
  clear hR
  go_enter Tryd.func11, Tryd.ntmps11
  go_wp2_with fail
  refine (HS.out _ (by simp)).mono ?_
  rintro e w' ⟨r, rfl, hr0, hr1, hb1, hb2, k, rfl⟩
  have hbs := beg_succ (1970 + r)
  have hlp := lp_01 (1970 + r)
  have hbb := beg_bd (y := 1970 + r) (by omega) (by omega)
  have hdn : n - begD (1970 + r) < 365 + lpD (1970 + r) := by omega
  have HC1 := Lib.hid (cum_1 (1970 + r))
  have HC13 := Lib.hid (cum_13 (1970 + r))
  have HO := Lib.hid (fun (m : Int) => of_at (n := n) (y := 1970 + r) (m := m) (by omega) (by omega))
  have HBy := Lib.hid (fun (w' : World) => HB.out (1970 + r) w' (by omega) (by omega))
  have e0 : IntKind.i64.wrap (1970 + r) = 1970 + r := IntWalk.i64_in _ (by omega)
  have HLy := Lib.hid (HL.out (1970 + r))
  have HCS := Lib.hid (cum_succ (1970 + r))
  have HCB := Lib.hid (fun (m : Int) => cum_bd (1970 + r) (m := m))
  have HDL := Lib.hid (dim_le (1970 + r))
  clear hbs
  generalize hq : begD (1970 + r) = bg at HO HBy hb1 hbb hdn
  have HQ := Lib.hid hq
  clear hq hb2
  have e1 : IntKind.i64.wrap (n - bg) = n - bg := IntWalk.i64_in _ (by omega)
  go_wp2_with fail
  go_quiet ((go_at_call 22; exact quiet_more (HBy.out _)))
  clear e1 e0
  go_wp2_with fail
  rw [World.drewN_drewN]
  go_loop [6, 7] (fun a k => ∃ m : Int, 1 ≤ m ∧ m ≤ 12 ∧ k = .int .i64 m ∧ a = .int .i64 (n - bg - cumD (1970 + r) m) ∧ 0 ≤ n - bg - cumD (1970 + r) m) (fun _ k => (12 - intOf k).toNat)
  case atStart => exact ⟨1, by omega, by omega, rfl, by rw [HC1.out, Int.sub_zero], by rw [HC1.out]; omega⟩
  case round =>
    obtain ⟨m, hm1, hm2, rfl, rfl, hge⟩ := hrel
    have cb := HCB.out m (by omega) (by omega)
    have hdl := HDL.out m
    have CS := Lib.hid (HCS.out m hm1 hm2)
    have HJ := Lib.hid (HLy.out m)
    have HOm := Lib.hid (HO.out m)
    have h12 : m = 12 → n - bg - cumD (1970 + r) m < dimD (1970 + r) m := by
      rintro rfl
      have a := CS.out
      have b := HC13.out
      rw [show (12 : Int) + 1 = 13 from rfl] at a
      omega
    have H12 := Lib.hid h12
    clear h12
    generalize dimD (1970 + r) m = dj at CS HJ hdl HOm H12
    generalize cumD (1970 + r) m = cj at CS HOm hge cb H12
    by_cases hjm : dj ≤ n - bg - cj
    · have hm12 : m < 12 := by
        rcases Int.lt_or_le m 12 with h | h
        · exact h
        · have := H12.out (by omega); omega
      go_wp2_with fail
      refine (HJ.out _ (by first | exact below_drewN HW.out _ | exact below_drewN (below_drewN HW.out _) _)).mono ?_
      rintro e w' ⟨rfl, rfl⟩
      go_wp2_with fail
      refine (HJ.out _ (by first | exact below_drewN HW.out _ | exact below_drewN (below_drewN HW.out _) _)).mono ?_
      rintro e w' ⟨rfl, rfl⟩
      go_wp2_with fail
      go_round
      case rel => exact ⟨m + 1, by omega, by omega, rfl, by rw [CS.out]; go_num, by rw [CS.out]; omega⟩
      case measure => simp [intOf]; omega
    · have HV := Lib.hid (HOm.out hge (by omega))
      go_wp2_with fail
      refine (HJ.out _ (by first | exact below_drewN HW.out _ | exact below_drewN (below_drewN HW.out _) _)).mono ?_
      rintro e w' ⟨rfl, rfl⟩
      go_wp2_with fail
      refine bodyPost_ret (v := .tuple #[.agg #[.int .i64 (1970 + r), .int .i64 m, .int .i64 (n - bg - cj + 1)], .int .i64 0]) (by simp [results, Tryd.results11, go_sem]) rfl (of_end HV.out ?_)
      exact (((below_drewN HW.out _).setCell (Nat.le_succ _) _).setCell (Nat.le_succ _) _).setCell (Nat.le_succ _) _
theorem of_x (n : Int) (w : World) (hR : Ready w) : Calls Tryd.prog 11 #[.int .i64 n] w (OfPost n w) := by
  by_cases h : 0 ≤ n ∧ n ≤ 2932896
  · exact of_yes n w hR h.1 h.2
  · exact of_no n w h
end Go.Proofs.YtafbapmbhjkheaaDoor
