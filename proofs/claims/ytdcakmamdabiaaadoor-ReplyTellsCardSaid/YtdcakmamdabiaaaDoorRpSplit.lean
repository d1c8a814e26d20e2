/-
  The walks of Cut at one sign, SplitN of three at one sign, and numbers.
-/
import Derived.Test.YtdcakmamdabiaaaDoorRpStrs
import Derived.Lib.SplitLaws
namespace Go.Proofs.YtdcakmamdabiaaaDoor
set_option maxRecDepth 100000
open Go.RowKit
/-- Where a sign stands, and what stands ahead of it and behind. -/
theorem ib_cases (l : List UInt8) (c : UInt8) : (Lib.indexByte l c = -1 ∧ hasC c l = false) ∨ ∃ i : Nat, Lib.indexByte l c = i ∧ i < l.length ∧ hasC c l = true ∧ preC c l = l.take i ∧ postC c l = l.drop (i + 1) := by
  induction l with
  | nil => exact .inl ⟨rfl, rfl⟩
  | cons b t ih =>
    by_cases e : b = c
    · subst e
      exact .inr ⟨0, by simp [Lib.indexByte], by simp, by simp [hasC], by simp [preC], by simp [postC]⟩
    · have e1 : preC c (b :: t) = b :: preC c t := by simp [preC, e]
      have e2 : postC c (b :: t) = postC c t := by simp [postC, e]
      have e3 : hasC c (b :: t) = hasC c t := by simp [hasC, Ne.symm e]
      have e4 : Lib.indexByte (b :: t) c = if Lib.indexByte t c == -1 then -1 else Lib.indexByte t c + 1 := by simp [Lib.indexByte, e]
      rcases ih with ⟨h1, h2⟩ | ⟨i, h1, h2, h3, h4, h5⟩
      · exact .inl ⟨by rw [e4, h1]; rfl, by rw [e3, h2]⟩
      · refine .inr ⟨i + 1, ?_, by simp; exact h2, by rw [e3, h3], by rw [e1, h4]; simp, by rw [e2, h5]; simp⟩
        rw [e4, h1, if_neg (by rw [beq_iff_eq]; omega)]
        omega
set_option maxRecDepth 100000 in
set_option maxHeartbeats 400000 in
theorem scut_x (c : UInt8) (l : List UInt8) (w : World) (hl : l.length ≤ 1000000000000000) :
    Calls Tryd.prog 53 #[.string (mkS l), .string ⟨#[c]⟩] w fun e w' => e = .returned (.tuple #[.string (mkS (preC c l)), .string (mkS (postC c l)), .bool (hasC c l)]) ∧ ∃ n, w' = w.drewN n := by
  have hms := mkS_size l
  have hm1 : (⟨#[c]⟩ : ByteArray).size = 1 := rfl
  have HI := Lib.hid (fun w => Tryd.stringslite_Index_one (mkS l) c w)
  rw [mkS_data] at HI
  rcases ib_cases l c with ⟨h1, h2⟩ | ⟨i, h1, h2, h3, h4, h5⟩
  · obtain ⟨h6, h7⟩ := cut_no h2
    rw [h2, h6, h7]
    rw [h1] at HI
    clear h1 h2 h6 h7
    go_enter Tryd.func53, Tryd.ntmps53
    go_wp2_with (go_at_call 58; refine (HI.out _).mono ?_; rintro e w' ⟨rfl, hw⟩; rw [hw])
    go_ret3
    exact ⟨rfl, 0, rfl⟩
  · rw [h1] at HI
    have HV := Lib.hid (show Ending.returned (.tuple #[.string ((mkS l).extract 0 i), .string ((mkS l).extract (i + 1) (mkS l).size), .bool true]) = .returned (.tuple #[.string (mkS (preC c l)), .string (mkS (postC c l)), .bool (hasC c l)]) by
      rw [h3, h4, h5, mkS_extract, mkS_extract, hms, List.take_length, List.drop_zero])
    rw [hms] at HV
    have c1 : (0 : Int) ≤ (i : Int) := by omega
    have c2 : (i : Int) ≤ (l.length : Int) := by omega
    have c3 : (0 : Int) ≤ (i : Int) + 1 := by omega
    have c4 : (i : Int) + 1 ≤ (l.length : Int) := by omega
    have c5 : (i : Int).toNat = i := by omega
    have c6 : ((i : Int) + 1).toNat = i + 1 := by omega
    have c7 : IntKind.i64.wrap ((i : Int) + 1) = (i : Int) + 1 := IntWalk.i64_in _ (by omega)
    clear h1 h3 h4 h5
    go_enter Tryd.func53, Tryd.ntmps53
    go_wp2_with (go_at_call 58; refine (HI.out _).mono ?_; rintro e w' ⟨rfl, hw⟩; rw [hw])
    go_quiet (fail)
    go_wp2_with fail
    go_ret3
    exact ⟨HV.out, _, rfl⟩
theorem cut_x (c : UInt8) (l : List UInt8) (w : World) (hl : l.length ≤ 1000000000000000) :
    Calls Tryd.prog 49 #[.string (mkS l), .string ⟨#[c]⟩] w fun e w' => e = .returned (.tuple #[.string (mkS (preC c l)), .string (mkS (postC c l)), .bool (hasC c l)]) ∧ ∃ n, w' = w.drewN n := by
  have HI := Lib.hid (fun w => scut_x c l w hl)
  generalize preC c l = a at HI ⊢
  generalize postC c l = b at HI ⊢
  generalize hasC c l = q at HI ⊢
  go_enter Tryd.func49, Tryd.ntmps49
  go_wp2_with (go_at_call 53; refine (HI.out _).mono ?_; rintro e w' ⟨rfl, n, rfl⟩)
  go_ret3
  exact ⟨rfl, n, rfl⟩
/-- What stands between points, three pieces at most. -/
def split3 (s : Txt) : List Txt :=
  if hasC 46 s then (if hasC 46 (postC 46 s) then [preC 46 s, preC 46 (postC 46 s), postC 46 (postC 46 s)] else [preC 46 s, postC 46 s]) else [s]
theorem split3_step (s : Txt) (k : Nat) : Lib.splitB ⟨#[46]⟩ 0 (k + 1) (mkS s) = if hasC 46 s then mkS (preC 46 s) :: Lib.splitB ⟨#[46]⟩ 0 k (mkS (postC 46 s)) else [mkS s] := by
  have e : Lib.indexB (mkS s) ⟨#[46]⟩ = Lib.indexByte s 46 := by
    show Lib.index (mkS s).data.toList [46] = _
    rw [Lib.index_one, mkS_data]
  rcases ib_cases s 46 with ⟨h1, h2⟩ | ⟨i, h1, h2, h3, h4, h5⟩
  · rw [h2, Lib.splitB_miss _ _ _ _ (by rw [e, h1])]; rfl
  · rw [h3, if_pos rfl, Lib.splitB_hit _ _ _ _ i (by rw [e, h1]), h4, h5, mkS_extract, mkS_extract]
    rw [Nat.add_zero, List.drop_zero, mkS_size, List.take_length]
    rfl
theorem has_len {c : UInt8} {s : Txt} (h : hasC c s = true) : 1 ≤ s.length ∧ (postC c s).length + 1 ≤ s.length := by
  have := congrArg List.length (cut_of h).2
  simp at this
  omega
theorem split3_is (s : Txt) : Lib.splitB ⟨#[46]⟩ 0 (min 3 ((mkS s).size + 1) - 1) (mkS s) = (split3 s).map mkS := by
  rw [mkS_size, split3]
  cases h : hasC 46 s
  · rw [if_neg (by decide)]
    have e : Lib.indexB (mkS s) ⟨#[46]⟩ = -1 := by
      show Lib.index (mkS s).data.toList [46] = _
      rw [Lib.index_one, mkS_data]
      rcases ib_cases s 46 with ⟨h1, h2⟩ | ⟨i, h1, h2, h3, h4, h5⟩
      · exact h1
      · rw [h] at h3; cases h3
    rw [Lib.splitB_miss _ _ _ _ e]; rfl
  · obtain ⟨h1, h2⟩ := has_len h
    rw [if_pos rfl]
    cases h' : hasC 46 (postC 46 s)
    · rw [if_neg (by decide)]
      rcases Nat.lt_or_ge s.length 2 with h3 | h3
      · rw [show min 3 (s.length + 1) - 1 = 0 + 1 by omega, split3_step, h, if_pos rfl]; rfl
      · rw [show min 3 (s.length + 1) - 1 = 1 + 1 by omega, split3_step, h, if_pos rfl, split3_step, h']; rfl
    · obtain ⟨h3, _⟩ := has_len h'
      rw [if_pos rfl, show min 3 (s.length + 1) - 1 = 1 + 1 by omega, split3_step, h, if_pos rfl, split3_step, h']; rfl
theorem splitn_x (s : Txt) (w : World) (hs : s.length ≤ 1000000) :
    Calls Tryd.prog 47 #[.string (mkS s), .string ⟨#[46]⟩, .int .i64 3] w fun e w' => ∃ N cs, e = .returned (.slice (some ⟨w.heap.size, 0, none⟩) (split3 s).length N) ∧ (split3 s).length ≤ N ∧ w' = w.alloc (.cells cs 9) ∧ ∀ (i : Nat) (t : Txt), (split3 s)[i]? = some t → cs[i]? = some (.string (mkS t)) := by
  have hz := mkS_size s
  have HG := Lib.hid (Any.strings_genSplit_core (P := Tryd.prog) Tryd.lays221 (by kernel_rfl) (mkS s) ⟨#[46]⟩ 0 3 (min 3 ((mkS s).size + 1)) w (by omega) (by decide) (by decide)
    (fun x c hx => (Tryd.strings_Index_one x 46 _).mono fun e w' ⟨he, hw⟩ => ⟨by rw [he]; show _ = Ending.returned (Value.int .i64 (Lib.index x.data.toList [46])); rw [Lib.index_one], hw⟩)
    ((Tryd.strings_Count_one (mkS s) 46 w).mono fun e w' ⟨he, hw⟩ => ⟨by rw [he]; show _ = Ending.returned (Value.int .i64 ((Lib.count (mkS s).data.toList [46] : Nat) : Int)); rw [Lib.count_one]; rfl, hw⟩)
    (by decide) (by decide) (by rw [if_neg (by decide)]; omega))
  rw [split3_is] at HG
  have hlen : (split3 s).length ≤ min 3 ((mkS s).size + 1) := by
    rw [hz, split3]
    cases h : hasC 46 s
    · simp; omega
    · obtain ⟨h1, h2⟩ := has_len h
      cases h' : hasC 46 (postC 46 s)
      · simp; omega
      · obtain ⟨h3, _⟩ := has_len h'
        simp; omega
  generalize min 3 ((mkS s).size + 1) = N at HG hlen
  generalize split3 s = l at HG hlen ⊢
  have HL := Lib.hid hlen
  clear hlen
  go_enter Tryd.func47, Tryd.ntmps47
  go_wp2_with (go_at_call 51; refine HG.out.mono ?_; rintro e w' ⟨rfl, hw⟩; rw [hw])
  go_ret
  refine ⟨N, _, rfl, HL.out, rfl, fun i t hi => ?_⟩
  have hil := (List.getElem?_eq_some_iff.1 hi).1
  rw [Lib.cellsOf]
  simp [List.getElem?_append, hil]
  obtain ⟨_, e⟩ := List.getElem?_eq_some_iff.1 hi
  rw [e]
end Go.Proofs.YtdcakmamdabiaaaDoor
