/-
  The walks of what path asks of strings: Cut at one sign, CutPrefix of one, Clone.
-/
import Derived.Test.YtamjoleknjmpoaaPtBytes
namespace Go.Proofs.Ytamjoleknjmpoaa
open Go.RowKit
/-- Where a sign stands, and what stands ahead of it and behind. -/
theorem ib_cases (l : List UInt8) (c : UInt8) : (Lib.indexByte l c = -1 ∧ hasC c l = false) ∨ ∃ i : Nat, Lib.indexByte l c = i ∧ i < l.length ∧ hasC c l = true ∧ preC c l = l.take i ∧ postC c l = l.drop (i + 1) := by
  induction l with
  | nil => exact .inl ⟨rfl, rfl⟩
  | cons b t ih =>
    by_cases e : b = c
    · subst e
      exact .inr ⟨0, by simp [Lib.indexByte], by simp, by simp [hasC], by simp [preC], by simp [postC]⟩
    · have e1 : preC c (b :: t) = b :: preC c t := by simp [preC, e]
      have e2 : postC c (b :: t) = postC c t := by simp [postC, e]
      have e3 : hasC c (b :: t) = hasC c t := by simp [hasC, Ne.symm e]
      have e4 : Lib.indexByte (b :: t) c = if Lib.indexByte t c == -1 then -1 else Lib.indexByte t c + 1 := by simp [Lib.indexByte, e]
      rcases ih with ⟨h1, h2⟩ | ⟨i, h1, h2, h3, h4, h5⟩
      · exact .inl ⟨by rw [e4, h1]; rfl, by rw [e3, h2]⟩
      · refine .inr ⟨i + 1, ?_, by simp; exact h2, by rw [e3, h3], by rw [e1, h4]; simp, by rw [e2, h5]; simp⟩
        rw [e4, h1, if_neg (by rw [beq_iff_eq]; omega)]
        omega
set_option maxHeartbeats 400000 in
theorem scut_x (c : UInt8) (l : List UInt8) (w : World) (hl : l.length ≤ 1000000000000000) :
    Calls Try.prog 48 #[.string (mkS l), .string ⟨#[c]⟩] w fun e w' => e = .returned (.tuple #[.string (mkS (preC c l)), .string (mkS (postC c l)), .bool (hasC c l)]) ∧ ∃ n, w' = w.drewN n := by
  have hms := mkS_size l
  have hm1 : (⟨#[c]⟩ : ByteArray).size = 1 := rfl
  have HI := Lib.hid (fun w => Try.stringslite_Index_one (mkS l) c w)
  rw [mkS_data] at HI
  rcases ib_cases l c with ⟨h1, h2⟩ | ⟨i, h1, h2, h3, h4, h5⟩
  · obtain ⟨h6, h7⟩ := cut_no h2
    rw [h2, h6, h7]
    rw [h1] at HI
    clear h1 h2 h6 h7
    go_enter Try.func48, Try.ntmps48
    go_wp2_with (go_at_call 58; refine (HI.out _).mono ?_; rintro e w' ⟨rfl, hw⟩; rw [hw])
    go_ret3
    exact ⟨rfl, 0, rfl⟩
  · rw [h1] at HI
    have HV := Lib.hid (show Ending.returned (.tuple #[.string ((mkS l).extract 0 i), .string ((mkS l).extract (i + 1) (mkS l).size), .bool true]) = .returned (.tuple #[.string (mkS (preC c l)), .string (mkS (postC c l)), .bool (hasC c l)]) by
      rw [h3, h4, h5, mkS_extract, mkS_extract, hms, List.take_length, List.drop_zero])
    rw [hms] at HV
    have c1 : (0 : Int) ≤ (i : Int) := by omega
    have c2 : (i : Int) ≤ (l.length : Int) := by omega
    have c3 : (0 : Int) ≤ (i : Int) + 1 := by omega
    have c4 : (i : Int) + 1 ≤ (l.length : Int) := by omega
    have c5 : (i : Int).toNat = i := by omega
    have c6 : ((i : Int) + 1).toNat = i + 1 := by omega
    have c7 : IntKind.i64.wrap ((i : Int) + 1) = (i : Int) + 1 := IntWalk.i64_in _ (by omega)
    clear h1 h3 h4 h5
    go_enter Try.func48, Try.ntmps48
    go_wp2_with (go_at_call 58; refine (HI.out _).mono ?_; rintro e w' ⟨rfl, hw⟩; rw [hw])
    go_quiet (fail)
    go_wp2_with fail
    go_ret3
    exact ⟨HV.out, _, rfl⟩
theorem cut_x (c : UInt8) (l : List UInt8) (w : World) (hl : l.length ≤ 1000000000000000) :
    Calls Try.prog 28 #[.string (mkS l), .string ⟨#[c]⟩] w fun e w' => e = .returned (.tuple #[.string (mkS (preC c l)), .string (mkS (postC c l)), .bool (hasC c l)]) ∧ ∃ n, w' = w.drewN n := by
  have HI := Lib.hid (fun w => scut_x c l w hl)
  generalize preC c l = a at HI ⊢
  generalize postC c l = b at HI ⊢
  generalize hasC c l = q at HI ⊢
  go_enter Try.func28, Try.ntmps28
  go_wp2_with (go_at_call 48; refine (HI.out _).mono ?_; rintro e w' ⟨rfl, n, rfl⟩)
  go_ret3
  exact ⟨rfl, n, rfl⟩
theorem prefix_one (c : UInt8) (l : List UInt8) : Lib.hasPrefix l [c] = (cutP c l).2 ∧ Lib.trimPrefix l [c] = (cutP c l).1 := by
  cases l with
  | nil => exact ⟨rfl, rfl⟩
  | cons b t =>
    by_cases e : c = b
    · subst e; simp [Lib.trimPrefix, Lib.hasPrefix, cutP, List.isPrefixOf]
    · simp [Lib.trimPrefix, Lib.hasPrefix, cutP, List.isPrefixOf, e, Ne.symm e]
theorem cutp_x (c : UInt8) (l : List UInt8) (w : World) :
    Calls Try.prog 24 #[.string (mkS l), .string ⟨#[c]⟩] w fun e w' => e = .returned (.tuple #[.string (mkS (cutP c l).1), .bool (cutP c l).2]) ∧ w = w' :=
  (Try.strings_CutPrefix (mkS l) ⟨#[c]⟩ w).mono fun e w' ⟨he, hw⟩ => ⟨by rw [he, mkS_data, (prefix_one c l).1, (prefix_one c l).2]; rfl, hw.symm⟩
theorem clone_x (l : List UInt8) (w : World) (hl : l.length ≤ 1000000000000) :
    Calls Try.prog 26 #[.string (mkS l)] w fun e w' => e = .returned (.string (mkS l)) ∧ Below w.heap.size w w' := by
  have hms := mkS_size l
  have HI := Lib.hid (fun w => Try.stringslite_Clone (mkS l) w (by omega))
  go_enter Try.func26, Try.ntmps26
  go_wp2_with fail
  refine (HI.out _).mono ?_
  rintro e w' ⟨rfl, hb⟩
  go_wp2_with fail
  go_ret
  exact ⟨rfl, hb⟩
end Go.Proofs.Ytamjoleknjmpoaa
