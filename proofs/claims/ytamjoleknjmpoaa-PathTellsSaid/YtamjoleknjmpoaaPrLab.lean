/-
  The walks of the reference's Labels and Atoms.
-/
import Derived.Test.YtamjoleknjmpoaaPrCut
import Derived.Test.YtamjoleknjmpoaaPtParts
namespace Go.Proofs.Ytamjoleknjmpoaa
open Go.RowKit
theorem lab_form {x : List UInt8} {b y : UInt8} {t : List UInt8} (hc : x = b :: t) (hy : x[t.length]? = some y) : isLab x = (!decide (63 < t.length + 1) && !(b == 45) && !(y == 45) && x.all labB) := by
  have hlen : x.length = t.length + 1 := by rw [hc, List.length_cons]
  have h1 : x.head? = some b := by rw [hc]; rfl
  have h2 : x.getLast? = some y := by rw [List.getLast?_eq_getElem?, hlen, Nat.add_sub_cancel, hy]
  have h3 : (x != []) = true := bne_iff_ne.2 (by rw [hc]; simp)
  have h4 : decide (t.length + 1 ≤ 63) = !decide (63 < t.length + 1) := by
    by_cases h : 63 < t.length + 1
    · rw [decide_eq_true h, decide_eq_false (by omega)]; rfl
    · rw [decide_eq_false h, decide_eq_true (by omega)]; rfl
  rw [isLab, h1, h2, hlen, h3, Bool.true_and, h4]
  rfl
theorem lab_no {s x : List UInt8} {k : Nat} (hx : (splitD s)[k]? = some x) (h : isLab x = false) : labels s = false := alls_not hx h
set_option maxRecDepth 100000 in
set_option maxHeartbeats 8000000 in
theorem rlabels_x (s : List UInt8) (w : World) (hs : s.length ≤ 1000000) : Calls Try.prog 34 #[.string (mkS s)] w fun e w' => e = .returned (.bool (labels s)) ∧ Below w.heap.size w w' := by
  have HC := Lib.hid (fun w => rcut_x s w hs)
  have HSL := Lib.hid (split_le s)
  go_enter Try.func34, Try.ntmps34
  go_wp2_with fail
  refine (HC.out _).mono ?_
  rintro e w1 ⟨g, cap, rfl, hR, hB⟩
  have HR := Lib.hid hR
  have HB := Lib.hid hB
  have hn2 := splitD_len s
  clear hR hB
  go_wp2_with fail
  go_loop [4] (fun i => ∃ k : Nat, k ≤ (splitD s).length ∧ i = .int .i64 k ∧ Hid (((splitD s).take k).all isLab = true)) (fun i => (splitD s).length - (intOf i).toNat)
  case atStart => exact ⟨0, Nat.zero_le _, rfl, by simp [Hid]⟩
  case round =>
    obtain ⟨k, hk, rfl, HA⟩ := hrel
    by_cases hlt : k < (splitD s).length
    · obtain ⟨x, hx⟩ : ∃ x, (splitD s)[k]? = some x := ⟨_, List.getElem?_eq_getElem hlt⟩
      have hcell := HR.out.get hx
      have hxl := HSL.out x (List.mem_of_getElem? hx)
      have HNO := Lib.hid (fun h => lab_no (s := s) hx h)
      have HYES := Lib.hid (fun h => alls_take hx HA.out h)
      clear hx
      cases hc : x with
      | nil =>
        have hms := mkS_size ([] : List UInt8)
        subst hc
        have HF := Lib.hid (HNO.out rfl)
        go_wp2_with fail
        go_ret
        exact ⟨ret_bool HF.out.symm, HB.out⟩
      | cons b t =>
        obtain ⟨m, hm⟩ : ∃ m, t.length = m := ⟨_, rfl⟩
        have hlen : x.length = m + 1 := by rw [hc, List.length_cons, hm]
        have hms : (mkS x).size = m + 1 := (mkS_size x).trans hlen
        have hb0 : (mkS x)[0]'(by omega) = b := mkS_get (by omega) (by rw [hc]; rfl)
        obtain ⟨y, hY⟩ : ∃ y : UInt8, x[m]? = some y := ⟨_, List.getElem?_eq_getElem (by omega)⟩
        have hy0 : (mkS x)[m]'(by omega) = y := mkS_get (by omega) hY
        have hf := lab_form (y := y) hc (by rw [hm]; exact hY)
        rw [hm] at hf
        have HV := Lib.hid hf
        have d1 : decide ((63 : Int) < (m : Int) + 1) = decide (63 < m + 1) := by
          by_cases h : 63 < m + 1
          · rw [decide_eq_true h]; exact decide_eq_true (by omega)
          · rw [decide_eq_false h]; exact decide_eq_false (by omega)
        have d0 : decide ((m : Int) + 1 < 1) = false := decide_eq_false (by omega)
        have d2 : ((b.toNat : Int) == 45) = (b == 45) := byte_beq b 45 (by decide) 45 rfl
        have d3 : ((y.toNat : Int) == 45) = (y == 45) := byte_beq y 45 (by decide) 45 rfl
        have hxm : m + 1 ≤ 1000000 := by omega
        generalize decide (63 < m + 1) = q1 at d1 HV
        generalize (b == 45) = q2 at d2 HV
        generalize (y == 45) = q3 at d3 HV
        clear hc hY hf hxl
        cases q1 <;> cases q2 <;> cases q3
        · go_wp2_with fail
          go_loop [6] (fun i => ∃ j : Nat, j ≤ m + 1 ∧ i = .int .i64 j ∧ Hid ((x.take j).all labB = true)) (fun i => m + 1 - (intOf i).toNat)
          case atStart => exact ⟨0, Nat.zero_le _, rfl, by simp [Hid]⟩
          case round =>
            obtain ⟨j, hj, rfl, HJ⟩ := hrel
            by_cases hjl : j < m + 1
            · obtain ⟨z, hz⟩ : ∃ z : UInt8, (mkS x)[j]'(by omega) = z := ⟨_, rfl⟩
              have hZ : x[j]? = some z := by rw [← hz]; have := Lib.data_getElem? (mkS x) j (by omega); rwa [mkS_data] at this
              have HL := Lib.hid (fun w => letter_x z w)
              have d4 : ((z.toNat : Int) != 45) = (z != 45) := byte_bne z 45 (by decide) 45 rfl
              have hzv : labB z = (plainB z || !(z != 45)) := by simp [labB, bne]
              have HZN := Lib.hid (fun h : labB z = false => (all_not hZ h : x.all labB = false))
              have HZY := Lib.hid (fun h : labB z = true => all_take hZ HJ.out h)
              generalize plainB z = p1 at HL hzv
              generalize (z != 45) = p2 at d4 hzv
              have HZV := Lib.hid hzv
              clear hZ hzv
              cases p1 <;> cases p2
              · have HN := Lib.hid (HZY.out (by rw [HZV.out]; rfl))
                go_wp2_with fail
                refine (HL.out _).mono ?_
                rintro e w2 ⟨rfl, rfl⟩
                go_wp2_with fail
                go_round
                case rel => exact ⟨j + 1, by omega, by go_num, HN⟩
                case measure => simp [intOf]; omega
              · have HF := Lib.hid (HNO.out (by rw [HV.out, HZN.out (by rw [HZV.out]; rfl)]; rfl))
                go_wp2_with fail
                refine (HL.out _).mono ?_
                rintro e w2 ⟨rfl, rfl⟩
                go_wp2_with fail
                go_ret
                exact ⟨ret_bool HF.out.symm, HB.out⟩
              all_goals
                have HN := Lib.hid (HZY.out (by rw [HZV.out]; rfl))
                go_wp2_with fail
                refine (HL.out _).mono ?_
                rintro e w2 ⟨rfl, rfl⟩
                go_wp2_with fail
                go_round
                case rel => exact ⟨j + 1, by omega, by go_num, HN⟩
                case measure => simp [intOf]; omega
            · have ha := HJ.out
              rw [List.take_of_length_le (by omega)] at ha
              have HK := Lib.hid (HYES.out (by rw [HV.out, ha]; rfl))
              clear ha
              go_wp2_with fail
              go_round
              case rel => exact ⟨k + 1, by omega, by go_num, HK⟩
              case measure => simp [intOf]; omega
        all_goals
          have HF := Lib.hid (HNO.out (by rw [HV.out]; rfl))
          go_wp2_with fail
          go_ret
          exact ⟨ret_bool HF.out.symm, HB.out⟩
    · have ha := HA.out
      rw [List.take_of_length_le (by omega)] at ha
      have HF := Lib.hid (show labels s = true from ha)
      clear ha
      go_wp2_with fail
      go_ret
      exact ⟨ret_bool HF.out.symm, HB.out⟩
theorem atom_no {s x : List UInt8} {k : Nat} (hx : (splitD s)[k]? = some x) (h : isAtom x = false) : atoms s = false := alls_not hx h
theorem hasS_x (b : UInt8) (w : World) : Calls Try.prog 41 #[.string { data := #[33, 35, 36, 37, 38, 39, 42, 43, 45, 47, 61, 63, 94, 95, 124, 126, 123, 125] }, .int .u8 (b.toNat : Int)] w fun e w' => e = .returned (.bool (signsR.contains b)) ∧ w = w' :=
  has_x signsR b w (by decide)
set_option maxRecDepth 100000 in
set_option maxHeartbeats 8000000 in
theorem ratoms_x (s : List UInt8) (w : World) (hs : s.length ≤ 1000000) : Calls Try.prog 19 #[.string (mkS s)] w fun e w' => e = .returned (.bool (atoms s)) ∧ Below w.heap.size w w' := by
  have HC := Lib.hid (fun w => rcut_x s w hs)
  have HSL := Lib.hid (split_le s)
  go_enter Try.func19, Try.ntmps19
  go_wp2_with fail
  refine (HC.out _).mono ?_
  rintro e w1 ⟨g, cap, rfl, hR, hB⟩
  have HR := Lib.hid hR
  have HB := Lib.hid hB
  have hn2 := splitD_len s
  clear hR hB
  go_wp2_with fail
  go_loop [4] (fun i => ∃ k : Nat, k ≤ (splitD s).length ∧ i = .int .i64 k ∧ Hid (((splitD s).take k).all isAtom = true)) (fun i => (splitD s).length - (intOf i).toNat)
  case atStart => exact ⟨0, Nat.zero_le _, rfl, by simp [Hid]⟩
  case round =>
    obtain ⟨k, hk, rfl, HA⟩ := hrel
    by_cases hlt : k < (splitD s).length
    · obtain ⟨x, hx⟩ : ∃ x, (splitD s)[k]? = some x := ⟨_, List.getElem?_eq_getElem hlt⟩
      have hcell := HR.out.get hx
      have hxl := HSL.out x (List.mem_of_getElem? hx)
      have HNO := Lib.hid (fun h => atom_no (s := s) hx h)
      have HYES := Lib.hid (fun h => alls_take hx HA.out h)
      have hT := mkS_toList x
      have hms := mkS_size x
      clear hx
      by_cases hx0 : x = []
      · subst hx0
        have HF := Lib.hid (HNO.out rfl)
        go_wp2_with fail
        go_ret
        exact ⟨ret_bool HF.out.symm, HB.out⟩
      · have hem2 : x.isEmpty = false := by cases x <;> simp_all
        have hem : (x == []) = false := beq_eq_false_iff_ne.2 hx0
        have HV := Lib.hid (show isAtom x = x.all atomB by rw [isAtom, bne, hem]; rfl)
        clear hx0
        go_wp2_with fail
        go_loop [5] (fun i => ∃ j : Nat, j ≤ x.length ∧ i = .int .i64 j ∧ Hid ((x.take j).all atomB = true)) (fun i => x.length - (intOf i).toNat)
        case atStart => exact ⟨0, Nat.zero_le _, rfl, by simp [Hid]⟩
        case round =>
          obtain ⟨j, hj, rfl, HJ⟩ := hrel
          by_cases hjl : j < x.length
          · obtain ⟨z, hz⟩ : ∃ z : UInt8, (mkS x)[j]'(by omega) = z := ⟨_, rfl⟩
            have hZ : x[j]? = some z := by rw [← hz]; have := Lib.data_getElem? (mkS x) j (by omega); rwa [mkS_data] at this
            have HL := Lib.hid (fun w => letter_x z w)
            have HH := Lib.hid (fun w => hasS_x z w)
            have d4 : ((z.toNat : Int) != 96) = (z != 96) := byte_bne z 96 (by decide) 96 rfl
            have hzv : atomB z = (plainB z || signsR.contains z || !(z != 96)) := by rw [atom_eq]; simp [bne]
            have HZN := Lib.hid (fun h : atomB z = false => (all_not hZ h : x.all atomB = false))
            have HZY := Lib.hid (fun h : atomB z = true => all_take hZ HJ.out h)
            generalize plainB z = p1 at HL hzv
            generalize signsR.contains z = p2 at HH hzv
            generalize (z != 96) = p3 at d4 hzv
            have HZV := Lib.hid hzv
            clear hZ hzv
            cases p1
            · cases p2
              · cases p3
                · have HN := Lib.hid (HZY.out (by rw [HZV.out]; rfl))
                  go_wp2_with (first | (go_at_call 40; refine (HL.out _).mono ?_; rintro e w' ⟨rfl, rfl⟩) | (go_at_call 41; refine (HH.out _).mono ?_; rintro e w' ⟨rfl, rfl⟩))
                  go_round
                  case rel => exact ⟨j + 1, by omega, by go_num, HN⟩
                  case measure => simp [intOf]; omega
                · have HF := Lib.hid (HNO.out (by rw [HV.out, HZN.out (by rw [HZV.out]; rfl)]))
                  go_wp2_with (first | (go_at_call 40; refine (HL.out _).mono ?_; rintro e w' ⟨rfl, rfl⟩) | (go_at_call 41; refine (HH.out _).mono ?_; rintro e w' ⟨rfl, rfl⟩))
                  go_ret
                  exact ⟨ret_bool HF.out.symm, HB.out⟩
              · have HN := Lib.hid (HZY.out (by rw [HZV.out]; rfl))
                go_wp2_with (first | (go_at_call 40; refine (HL.out _).mono ?_; rintro e w' ⟨rfl, rfl⟩) | (go_at_call 41; refine (HH.out _).mono ?_; rintro e w' ⟨rfl, rfl⟩))
                go_round
                case rel => exact ⟨j + 1, by omega, by go_num, HN⟩
                case measure => simp [intOf]; omega
            · have HN := Lib.hid (HZY.out (by rw [HZV.out]; rfl))
              go_wp2_with (first | (go_at_call 40; refine (HL.out _).mono ?_; rintro e w' ⟨rfl, rfl⟩) | (go_at_call 41; refine (HH.out _).mono ?_; rintro e w' ⟨rfl, rfl⟩))
              go_round
              case rel => exact ⟨j + 1, by omega, by go_num, HN⟩
              case measure => simp [intOf]; omega
          · have ha := HJ.out
            rw [List.take_of_length_le (by omega)] at ha
            have HK := Lib.hid (HYES.out (by rw [HV.out, ha]))
            clear ha
            go_wp2_with fail
            go_round
            case rel => exact ⟨k + 1, by omega, by go_num, HK⟩
            case measure => simp [intOf]; omega
    · have ha := HA.out
      rw [List.take_of_length_le (by omega)] at ha
      have HF := Lib.hid (show atoms s = true from ha)
      clear ha
      go_wp2_with fail
      go_ret
      exact ⟨ret_bool HF.out.symm, HB.out⟩
end Go.Proofs.Ytamjoleknjmpoaa
