/-
  The walks of what NOTIFY and ORCPT do to what is told of a recipient.
-/
import Derived.Test.YtbecdncnidcmdaaGreatDoorPaBy
import Derived.LoopN
namespace Go.Proofs.YtbecdncnidcmdaaGreatDoor
set_option maxRecDepth 100000
open Go.RowKit Go.Shelf
/-- The table of notices reads as the program's text lays it. -/
structure NotR (w : World) : Prop where
  n0 : w.cell? ⟨6, 0, none⟩ = some (.string { data := #[83, 85, 67, 67, 69, 83, 83] })
  n1 : w.cell? ⟨6, 1, none⟩ = some (.string { data := #[70, 65, 73, 76, 85, 82, 69] })
  n2 : w.cell? ⟨6, 2, none⟩ = some (.string { data := #[68, 69, 76, 65, 89] })
theorem NotR.below {w w' : World} (h : NotR w) (hb : Below w.heap.size w w') : NotR w' :=
  ⟨(hb.cell (p := ⟨_, 0, none⟩) (cell_lt h.n0)).trans h.n0, (hb.cell (p := ⟨_, 1, none⟩) (cell_lt h.n0)).trans h.n1, (hb.cell (p := ⟨_, 2, none⟩) (cell_lt h.n0)).trans h.n2⟩
theorem Tryz.idx3 (a b c : ByteArray) : (∀ w, (Instr.index 320 (.agg #[.string a, .string b, .string c]) (.int .i64 0)).run Tryz.prog w = .ok (.string a) w) ∧ (∀ w, (Instr.index 320 (.agg #[.string a, .string b, .string c]) (.int .i64 1)).run Tryz.prog w = .ok (.string b) w) ∧ (∀ w, (Instr.index 320 (.agg #[.string a, .string b, .string c]) (.int .i64 2)).run Tryz.prog w = .ok (.string c) w) := by
  have u9 := Tryz.underlying9
  have a9 := Tryz.isAgg9
  have z9 := Tryz.sizeOf9
  have hu := Tryz.underlying320
  refine ⟨fun w => ?_, fun w => ?_, fun w => ?_⟩ <;> unfold Instr.index <;> go_simp
/-- The notices by their places. -/
def IdxR : Prop := (∀ w, (Instr.index 320 (.agg #[.string { data := #[83, 85, 67, 67, 69, 83, 83] }, .string { data := #[70, 65, 73, 76, 85, 82, 69] }, .string { data := #[68, 69, 76, 65, 89] }]) (.int .i64 0)).run Tryz.prog w = .ok (.string { data := #[83, 85, 67, 67, 69, 83, 83] }) w) ∧
  (∀ w, (Instr.index 320 (.agg #[.string { data := #[83, 85, 67, 67, 69, 83, 83] }, .string { data := #[70, 65, 73, 76, 85, 82, 69] }, .string { data := #[68, 69, 76, 65, 89] }]) (.int .i64 1)).run Tryz.prog w = .ok (.string { data := #[70, 65, 73, 76, 85, 82, 69] }) w) ∧
  (∀ w, (Instr.index 320 (.agg #[.string { data := #[83, 85, 67, 67, 69, 83, 83] }, .string { data := #[70, 65, 73, 76, 85, 82, 69] }, .string { data := #[68, 69, 76, 65, 89] }]) (.int .i64 2)).run Tryz.prog w = .ok (.string { data := #[68, 69, 76, 65, 89] }) w)
theorem idxR : IdxR := Tryz.idx3 _ _ _
set_option maxHeartbeats 1000000 in
theorem initial_x (n : Txt) (w : World) (hN : NotR w) : Calls Tryz.prog 357 #[.string (mkS n)] w fun e w' => e = .returned (.string (mkS (initV n))) ∧ w = w' := by
  have hT := mkS_toList n
  obtain ⟨c0, c1, c2⟩ := hN
  obtain ⟨x0, x1, x2⟩ := idxR
  have HV := Lib.hid (show initV n = if n = tSU then [83] else if n = tFA then [70] else if n = tDE then [68] else [] from rfl)
  by_cases h0 : n = tSU
  · have d0 : (([83, 85, 67, 67, 69, 83, 83] : Txt) == n) = true := by rw [h0]; rfl
    have hv := HV.out
    rw [if_pos h0] at hv
    have HR := Lib.hid hv
    clear HV hv h0
    go_enter Tryz.func357, Tryz.ntmps357
    go_wp2_with fail
    refine wp_loop_rounds 1 ?_
    rw [rounds_succ]
    go_wp2_with fail
    go_ret
    exact ⟨by rw [HR.out]; rfl, rfl⟩
  · have d0 : (([83, 85, 67, 67, 69, 83, 83] : Txt) == n) = false := beq_eq_false_iff_ne.2 (Ne.symm h0)
    by_cases h1 : n = tFA
    · have d1 : (([70, 65, 73, 76, 85, 82, 69] : Txt) == n) = true := by rw [h1]; rfl
      have hv := HV.out
      rw [if_neg h0, if_pos h1] at hv
      have HR := Lib.hid hv
      clear HV hv h0 h1
      go_enter Tryz.func357, Tryz.ntmps357
      go_wp2_with fail
      refine wp_loop_rounds 2 ?_
      rw [rounds_succ]
      go_wp2_with fail
      rw [rounds_succ]
      go_wp2_with fail
      go_ret
      exact ⟨by rw [HR.out]; rfl, rfl⟩
    · have d1 : (([70, 65, 73, 76, 85, 82, 69] : Txt) == n) = false := beq_eq_false_iff_ne.2 (Ne.symm h1)
      by_cases h2 : n = tDE
      · have d2 : (([68, 69, 76, 65, 89] : Txt) == n) = true := by rw [h2]; rfl
        have hv := HV.out
        rw [if_neg h0, if_neg h1, if_pos h2] at hv
        have HR := Lib.hid hv
        clear HV hv h0 h1 h2
        go_enter Tryz.func357, Tryz.ntmps357
        go_wp2_with fail
        refine wp_loop_rounds 3 ?_
        rw [rounds_succ]
        go_wp2_with fail
        rw [rounds_succ]
        go_wp2_with fail
        rw [rounds_succ]
        go_wp2_with fail
        go_ret
        exact ⟨by rw [HR.out]; rfl, rfl⟩
      · have d2 : (([68, 69, 76, 65, 89] : Txt) == n) = false := beq_eq_false_iff_ne.2 (Ne.symm h2)
        have hv := HV.out
        rw [if_neg h0, if_neg h1, if_neg h2] at hv
        have HR := Lib.hid hv
        clear HV hv h0 h1 h2
        go_enter Tryz.func357, Tryz.ntmps357
        go_wp2_with fail
        refine wp_loop_rounds 4 ?_
        rw [rounds_succ]
        go_wp2_with fail
        rw [rounds_succ]
        go_wp2_with fail
        rw [rounds_succ]
        go_wp2_with fail
        rw [rounds_succ]
        go_wp2_with fail
        go_ret
        exact ⟨by rw [HR.out]; rfl, rfl⟩
set_option maxHeartbeats 2000000 in
theorem ordered_x (l : Txt) (w : World) (hN : NotR w) : Calls Tryz.prog 297 #[.string (mkS l)] w fun e w' => e = .returned (.string (mkS (ordV l))) ∧ w = w' := by
  obtain ⟨c0, c1, c2⟩ := hN
  obtain ⟨x0, x1, x2⟩ := idxR
  have HV := Lib.hid (show ordV l = (if l.contains 83 = true then [83] else []) ++ (if l.contains 70 = true then [70] else []) ++ (if l.contains 68 = true then [68] else []) from rfl)
  have HS := Lib.hid (fun w => contains_x l 83 w)
  have HF := Lib.hid (fun w => contains_x l 70 w)
  have HD := Lib.hid (fun w => contains_x l 68 w)
  cases h0 : l.contains 83 <;> cases h1 : l.contains 70 <;> cases h2 : l.contains 68 <;> rw [h0, h1, h2] at HV <;> rw [h0] at HS <;> rw [h1] at HF <;> rw [h2] at HD <;> clear h0 h1 h2
  all_goals
    go_enter Tryz.func297, Tryz.ntmps297
    go_wp2_with fail
    refine wp_loop_rounds 4 ?_
    rw [rounds_succ]
    go_wp2_with fail
    refine (HS.out _).mono ?_
    rintro e w' ⟨rfl, rfl⟩
    go_wp2_with fail
    rw [rounds_succ]
    go_wp2_with fail
    refine (HF.out _).mono ?_
    rintro e w' ⟨rfl, rfl⟩
    go_wp2_with fail
    rw [rounds_succ]
    go_wp2_with fail
    refine (HD.out _).mono ?_
    rintro e w' ⟨rfl, rfl⟩
    go_wp2_with fail
    rw [rounds_succ]
    go_wp2_with fail
    go_ret
    exact ⟨by rw [HV.out]; rfl, rfl⟩
end Go.Proofs.YtbecdncnidcmdaaGreatDoor
