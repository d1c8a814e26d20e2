/-
  The walks of what param asks of strings and of strconv: Cut at one sign, CutPrefix of one, Contains of one, Atoi of digits; whole, signed, decode.
-/
import Derived.Test.YtojpkbonioglbaaGreatDoorPaSmall
import Derived.Test.YtojpkbonioglbaaGreatDoorMaXt
namespace Go.Proofs.YtojpkbonioglbaaGreatDoor
set_option maxRecDepth 100000
open Go.RowKit
/-- Where a sign stands, and what stands ahead of it and behind. -/
theorem ib_cases (l : List UInt8) (c : UInt8) : (Lib.indexByte l c = -1 ∧ hasC c l = false) ∨ ∃ i : Nat, Lib.indexByte l c = i ∧ i < l.length ∧ hasC c l = true ∧ preC c l = l.take i ∧ postC c l = l.drop (i + 1) := by
  induction l with
  | nil => exact .inl ⟨rfl, rfl⟩
  | cons b t ih =>
    by_cases e : b = c
    · subst e
      exact .inr ⟨0, by simp [Lib.indexByte], by simp, by simp [hasC], by simp [preC], by simp [postC]⟩
    · have e1 : preC c (b :: t) = b :: preC c t := by simp [preC, e]
      have e2 : postC c (b :: t) = postC c t := by simp [postC, e]
      have e3 : hasC c (b :: t) = hasC c t := by simp [hasC, Ne.symm e]
      have e4 : Lib.indexByte (b :: t) c = if Lib.indexByte t c == -1 then -1 else Lib.indexByte t c + 1 := by simp [Lib.indexByte, e]
      rcases ih with ⟨h1, h2⟩ | ⟨i, h1, h2, h3, h4, h5⟩
      · exact .inl ⟨by rw [e4, h1]; rfl, by rw [e3, h2]⟩
      · refine .inr ⟨i + 1, ?_, by simp; exact h2, by rw [e3, h3], by rw [e1, h4]; simp, by rw [e2, h5]; simp⟩
        rw [e4, h1, if_neg (by rw [beq_iff_eq]; omega)]
        omega
set_option maxRecDepth 100000 in
set_option maxHeartbeats 400000 in
theorem scut_x (c : UInt8) (l : List UInt8) (w : World) (hl : l.length ≤ 1000000000000000) :
    Calls Tryz.prog 149 #[.string (mkS l), .string ⟨#[c]⟩] w fun e w' => e = .returned (.tuple #[.string (mkS (preC c l)), .string (mkS (postC c l)), .bool (hasC c l)]) ∧ ∃ n, w' = w.drewN n := by
  have hms := mkS_size l
  have hm1 : (⟨#[c]⟩ : ByteArray).size = 1 := rfl
  have HI := Lib.hid (fun w => Tryz.stringslite_Index_one (mkS l) c w)
  rw [mkS_data] at HI
  rcases ib_cases l c with ⟨h1, h2⟩ | ⟨i, h1, h2, h3, h4, h5⟩
  · obtain ⟨h6, h7⟩ := cut_no h2
    rw [h2, h6, h7]
    rw [h1] at HI
    clear h1 h2 h6 h7
    go_enter Tryz.func149, Tryz.ntmps149
    go_wp2_with (go_at_call 168; refine (HI.out _).mono ?_; rintro e w' ⟨rfl, hw⟩; rw [hw])
    go_ret3
    exact ⟨rfl, 0, rfl⟩
  · rw [h1] at HI
    have HV := Lib.hid (show Ending.returned (.tuple #[.string ((mkS l).extract 0 i), .string ((mkS l).extract (i + 1) (mkS l).size), .bool true]) = .returned (.tuple #[.string (mkS (preC c l)), .string (mkS (postC c l)), .bool (hasC c l)]) by
      rw [h3, h4, h5, mkS_extract, mkS_extract, hms, List.take_length, List.drop_zero])
    rw [hms] at HV
    have c1 : (0 : Int) ≤ (i : Int) := by omega
    have c2 : (i : Int) ≤ (l.length : Int) := by omega
    have c3 : (0 : Int) ≤ (i : Int) + 1 := by omega
    have c4 : (i : Int) + 1 ≤ (l.length : Int) := by omega
    have c5 : (i : Int).toNat = i := by omega
    have c6 : ((i : Int) + 1).toNat = i + 1 := by omega
    have c7 : IntKind.i64.wrap ((i : Int) + 1) = (i : Int) + 1 := IntWalk.i64_in _ (by omega)
    clear h1 h3 h4 h5
    go_enter Tryz.func149, Tryz.ntmps149
    go_wp2_with (go_at_call 168; refine (HI.out _).mono ?_; rintro e w' ⟨rfl, hw⟩; rw [hw])
    go_quiet (fail)
    go_wp2_with fail
    go_ret3
    exact ⟨HV.out, _, rfl⟩
theorem cut_x (c : UInt8) (l : List UInt8) (w : World) (hl : l.length ≤ 1000000000000000) :
    Calls Tryz.prog 119 #[.string (mkS l), .string ⟨#[c]⟩] w fun e w' => e = .returned (.tuple #[.string (mkS (preC c l)), .string (mkS (postC c l)), .bool (hasC c l)]) ∧ ∃ n, w' = w.drewN n := by
  have HI := Lib.hid (fun w => scut_x c l w hl)
  generalize preC c l = a at HI ⊢
  generalize postC c l = b at HI ⊢
  generalize hasC c l = q at HI ⊢
  go_enter Tryz.func119, Tryz.ntmps119
  go_wp2_with (go_at_call 149; refine (HI.out _).mono ?_; rintro e w' ⟨rfl, n, rfl⟩)
  go_ret3
  exact ⟨rfl, n, rfl⟩
theorem prefix_one (c : UInt8) (l : List UInt8) : Lib.hasPrefix l [c] = (cutP c l).2 ∧ Lib.trimPrefix l [c] = (cutP c l).1 := by
  cases l with
  | nil => exact ⟨rfl, rfl⟩
  | cons b t =>
    by_cases e : c = b
    · subst e; simp [Lib.trimPrefix, Lib.hasPrefix, cutP, List.isPrefixOf]
    · simp [Lib.trimPrefix, Lib.hasPrefix, cutP, List.isPrefixOf, e, Ne.symm e]
theorem cutp_x (c : UInt8) (l : List UInt8) (w : World) :
    Calls Tryz.prog 20 #[.string (mkS l), .string ⟨#[c]⟩] w fun e w' => e = .returned (.tuple #[.string (mkS (cutP c l).1), .bool (cutP c l).2]) ∧ w = w' :=
  (Tryz.strings_CutPrefix (mkS l) ⟨#[c]⟩ w).mono fun e w' ⟨he, hw⟩ => ⟨by rw [he, mkS_data, (prefix_one c l).1, (prefix_one c l).2]; rfl, hw.symm⟩
theorem ib_has : ∀ (l : List UInt8) (c : UInt8), (0 ≤ Lib.indexByte l c) = (l.contains c = true)
  | [], c => by simp [Lib.indexByte]
  | b :: l, c => by
    have ih := ib_has l c
    have h1 := Lib.indexByte_ge l c
    rw [Lib.indexByte]
    split
    · rename_i h
      have : b = c := eq_of_beq h
      simp [this]
    · rename_i h
      have hne : ¬ c = b := fun e => h (by rw [e]; exact beq_self_eq_true b)
      split
      · rename_i h2
        rw [beq_iff_eq] at h2
        rw [h2] at ih
        simpa [hne] using ih
      · rename_i h2
        have h3 : Lib.indexByte l c ≠ -1 := fun e => h2 (by rw [e]; rfl)
        have : (0 ≤ Lib.indexByte l c + 1) = (0 ≤ Lib.indexByte l c) := propext ⟨fun _ => by omega, fun _ => by omega⟩
        rw [this, ih]
        simp [hne]
theorem dec_from : ∀ (l : Txt) (acc : Nat), l.all digB = true → Lib.decFrom acc l = some (l.foldl (fun n b => n * 10 + (b.toNat - 48)) acc)
  | [], acc, _ => rfl
  | b :: t, acc, h => by
    rw [List.all_cons, Bool.and_eq_true] at h
    have hb := digB_bd h.1
    rw [Lib.decFrom, Lib.digitVal, if_pos hb, List.foldl_cons]
    exact dec_from t _ h.2
theorem atoi_wh {l : Txt} (h : whB l = true) : Lib.atoi l = some (whV l) ∧ l.length ≤ 9 := by
  have hv : whV l = (valX l : Int) := by rw [whV, if_pos h]
  unfold whB at h
  rw [Bool.and_eq_true, Bool.and_eq_true] at h
  obtain ⟨⟨h1, h2⟩, h3⟩ := h
  have h1 : l ≠ [] := by simpa using h1
  refine ⟨?_, of_decide_eq_true h2⟩
  rw [hv]
  cases l with
  | nil => exact absurd rfl h1
  | cons b t =>
    have hb := digB_bd (by rw [List.all_cons, Bool.and_eq_true] at h3; exact h3.1 : digB b = true)
    have e1 : Lib.decNat (b :: t) = some (valX (b :: t)) := by
      rw [Lib.decNat]
      exact dec_from (b :: t) 0 h3
    have n1 : (b == 45) = false := beq_eq_false_iff_ne.2 fun e => by rw [e] at hb; revert hb; decide
    have n2 : (b == 43) = false := beq_eq_false_iff_ne.2 fun e => by rw [e] at hb; revert hb; decide
    show (if (b == 45) = true then _ else if (b == 43) = true then _ else (Lib.decNat (b :: t)).map fun (m : Nat) => (m : Int)) = _
    rw [n1, n2, if_neg (by decide), if_neg (by decide), e1]
    rfl
theorem wh_bd (l : Txt) : 0 ≤ whV l ∧ whV l ≤ 999999999 := by
  refine ⟨whV_nn l, ?_⟩
  cases h : whB l
  · rw [whV, h, if_neg (by decide)]; decide
  · rw [whV, if_pos h]
    unfold whB at h
    simp only [Bool.and_eq_true] at h
    have h2 := of_decide_eq_true h.1.2
    have hr : Run l 0 l.length := fun j hj => ⟨l[j], by rw [Nat.zero_add]; exact List.getElem?_eq_getElem hj, List.all_eq_true.1 h.2 _ (List.getElem_mem hj)⟩
    have hb := run_bd hr
    have e : fldL l 0 l.length = l := by simp [fldL]
    rw [e] at hb
    have : (10 : Nat) ^ l.length ≤ 10 ^ 9 := Nat.pow_le_pow_right (by decide) h2
    have h9 : (10 : Nat) ^ 9 = 1000000000 := by decide
    omega
theorem contains_x (l : Txt) (c : UInt8) (w : World) : Calls Tryz.prog 189 #[.string (mkS l), .string ⟨#[c]⟩] w fun e w' => e = .returned (.bool (l.contains c)) ∧ w = w' :=
  (Tryz.strings_Contains_one (mkS l) c w).mono fun e w' ⟨he, hw⟩ => ⟨by rw [he, mkS_data]; exact ret_bool (by rw [Bool.eq_iff_iff, decide_eq_true_iff, ib_has]), hw.symm⟩
end Go.Proofs.YtojpkbonioglbaaGreatDoor
