/-
  The walk of formed: may a line be one of a reply?
-/
import Derived.Test.YtdcakmamdabiaaaDoorRpParted
namespace Go.Proofs.YtdcakmamdabiaaaDoor
set_option maxRecDepth 100000
open Go.RowKit
theorem prefix_c (l : Txt) (c : UInt8) : Lib.hasPrefix l [c] = (l.head? == some c) := by
  cases l with
  | nil => rfl
  | cons b t =>
    by_cases e : c = b
    · subst e; simp [Lib.hasPrefix, List.isPrefixOf]
    · simp [Lib.hasPrefix, List.isPrefixOf]
      rw [beq_eq_false_iff_ne.2 e, beq_eq_false_iff_ne.2 (Ne.symm e)]
theorem prefix_x (l : Txt) (c : UInt8) (w : World) : Calls Tryd.prog 20 #[.string (mkS l), .string ⟨#[c]⟩] w fun e w' => e = .returned (.bool (l.head? == some c)) ∧ w = w' :=
  (Tryd.strings_HasPrefix (mkS l) ⟨#[c]⟩ w).mono fun e w' ⟨he, hw⟩ => ⟨by rw [he, mkS_data, ← prefix_c], hw.symm⟩
theorem take3_x (l : Txt) : (mkS l).extract 0 3 = mkS (l.take 3) := by rw [mkS_extract, List.drop_zero]
theorem drop3_x (l : Txt) : (mkS l).extract 3 l.length = mkS (l.drop 3) := by rw [mkS_extract, List.take_length]
theorem fm_bool (l : Txt) : rpFm l = (decide (3 ≤ l.length) && l.all rpPr && rpNm (l.take 3) && rpCls (valX (l.take 3)) != 0 && ((l.drop 3).isEmpty || (l.drop 3).head? == some 45 || (l.drop 3).head? == some 32)) := by
  have e : (l[3]? == none) = (l.drop 3).isEmpty := by
    rw [Bool.eq_iff_iff, List.isEmpty_iff, List.drop_eq_nil_iff]
    simp
  rw [rpFm, e, List.head?_drop]
set_option maxHeartbeats 2000000 in
theorem formed_x (l : Txt) (w : World) (hl : l.length ≤ 1000000) : Calls Tryd.prog 19 #[.string (mkS l)] w fun e w' => e = .returned (.bool (rpFm l)) ∧ w = w' := by
  have HV := Lib.hid (fm_bool l)
  have hms := mkS_size l
  by_cases h3 : l.length < 3
  · have d1 : decide ((l.length : Int) < 3) = true := decide_eq_true (by omega)
    have HE := Lib.hid (show rpFm l = false by rw [HV.out, decide_eq_false (by omega)]; rfl)
    clear h3
    go_enter Tryd.func19, Tryd.ntmps19
    go_wp2_with fail
    go_ret
    exact ⟨ret_bool HE.out.symm, rfl⟩
  · have d1 : decide ((l.length : Int) < 3) = false := decide_eq_false (by omega)
    have HP := Lib.hid (fun w => printable_x l w (by omega))
    have HN := Lib.hid (fun w => number_x (l.take 3) w (by rw [List.length_take]; omega))
    have HC := Lib.hid (fun w => class_x (nmV (l.take 3)) w)
    have H45 := Lib.hid (fun w => prefix_x (l.drop 3) 45 w)
    have H32 := Lib.hid (fun w => prefix_x (l.drop 3) 32 w)
    have hx1 := take3_x l
    have hx2 := drop3_x l
    have hT := mkS_toList (l.drop 3)
    have hcv : rpNm (l.take 3) = true → nmV (l.take 3) = (valX (l.take 3) : Int) := fun h => by rw [nmV, if_pos h]
    have h3i : (3 : Int) ≤ (l.length : Int) := by omega
    rw [decide_eq_true (show 3 ≤ l.length by omega)] at HV
    unfold NmPost at HN
    generalize l.all rpPr = qp at HP HV
    cases qp
    · have HE := Lib.hid (show rpFm l = false by rw [HV.out]; rfl)
      clear h3
      go_enter Tryd.func19, Tryd.ntmps19
      go_wp2_with (go_at_call 31; refine (HP.out _).mono ?_; rintro e w' ⟨rfl, rfl⟩)
      go_ret
      exact ⟨ret_bool HE.out.symm, rfl⟩
    · generalize nmV (l.take 3) = cv at HN HC hcv
      cases hn : rpNm (l.take 3)
      · have HE := Lib.hid (show rpFm l = false by rw [HV.out, hn]; rfl)
        rw [hn] at HN
        clear h3 hn hcv
        go_enter Tryd.func19, Tryd.ntmps19
        go_wp2_with (first | (go_at_call 31; refine (HP.out _).mono ?_; rintro e w' ⟨rfl, rfl⟩) | (go_at_call 39; refine (HN.out _).mono ?_; rintro e w' ⟨rfl, rfl⟩))
        go_ret
        exact ⟨ret_bool HE.out.symm, rfl⟩
      · have hcv := hcv hn
        rw [hn] at HN
        rw [hn, ← hcv] at HV
        clear hn hcv h3
        generalize hcl : rpCls cv = cl at HC HV
        clear hcl
        cases hc0 : (cl != 0)
        · have HE := Lib.hid (show rpFm l = false by rw [HV.out, hc0]; rfl)
          go_enter Tryd.func19, Tryd.ntmps19
          go_wp2_with (first | (go_at_call 31; refine (HP.out _).mono ?_; rintro e w' ⟨rfl, rfl⟩) | (go_at_call 39; refine (HN.out _).mono ?_; rintro e w' ⟨rfl, rfl⟩) | (go_at_call 15; refine (HC.out _).mono ?_; rintro e w' ⟨rfl, rfl⟩))
          go_ret
          exact ⟨ret_bool HE.out.symm, rfl⟩
        · rw [hc0] at HV
          generalize hd3 : l.drop 3 = d3 at *
          clear hd3
          generalize hq0 : d3.isEmpty = q0 at HV
          generalize hq1 : (d3.head? == some 45) = q1 at HV H45
          generalize hq2 : (d3.head? == some 32) = q2 at HV H32
          have hde : decide (d3 = []) = q0 := by rw [← hq0]; cases d3 <;> rfl
          have HE := Lib.hid (show rpFm l = (q0 || q1 || q2) by rw [HV.out]; rfl)
          clear hq1 hq2
          cases q0 <;> cases q1 <;> cases q2 <;>
          · go_enter Tryd.func19, Tryd.ntmps19
            go_wp2_with (first | (go_at_call 31; refine (HP.out _).mono ?_; rintro e w' ⟨rfl, rfl⟩) | (go_at_call 39; refine (HN.out _).mono ?_; rintro e w' ⟨rfl, rfl⟩) | (go_at_call 15; refine (HC.out _).mono ?_; rintro e w' ⟨rfl, rfl⟩) | (go_at_call 20; (with_reducible refine (H45.out _).mono ?_); rintro e w' ⟨rfl, rfl⟩) | (go_at_call 20; (with_reducible refine (H32.out _).mono ?_); rintro e w' ⟨rfl, rfl⟩))
            go_ret
            exact ⟨ret_bool HE.out.symm, rfl⟩
end Go.Proofs.YtdcakmamdabiaaaDoor
