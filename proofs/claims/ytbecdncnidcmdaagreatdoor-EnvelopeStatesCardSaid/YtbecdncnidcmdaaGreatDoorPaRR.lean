/-
  The walk of param's RightRcpt.
-/
import Derived.Test.YtbecdncnidcmdaaGreatDoorPaNote
import Derived.Test.YtbecdncnidcmdaaGreatDoorPaSmall
import Derived.Test.YtbecdncnidcmdaaGreatDoorMaPure
import Derived.Deep.QuietTactic
import Derived.BigQuiet
namespace Go.Proofs.YtbecdncnidcmdaaGreatDoor
set_option maxRecDepth 100000
open Go.RowKit
/-- A recipient in its box, block g; nothing that lay ahead has turned. -/
structure RBox (W : World) (g : Nat) (r : RL) (w : World) : Prop where
  box : w.heap[g]? = some (.cells #[.string (mkS r.no), .string (mkS r.kind), .string (mkS r.oc)] 77 (0, 0))
  below : Below W.heap.size W w
theorem RBox.next {W w w' : World} {g : Nat} {r : RL} (h : RBox W g r w) (hb : Below w.heap.size w w') : RBox W g r w' := ⟨(hb.block _ (ltOf h.box)).trans h.box, below_next h.below hb⟩
theorem RBox.drewN {W w : World} {g : Nat} {r : RL} (h : RBox W g r w) (n : Nat) : RBox W g r (w.drewN n) := ⟨h.box, below_drewN h.below n⟩
theorem RBox.drew {W w : World} {g : Nat} {r : RL} (h : RBox W g r w) : RBox W g r w.drew := ⟨h.box, ⟨h.below.os, h.below.tape, h.below.output, h.below.size, h.below.block⟩⟩
theorem RBox.c0 {W w : World} {g : Nat} {r : RL} (h : RBox W g r w) : w.cell? ⟨g, 0, none⟩ = some (.string (mkS r.no)) := cellOf h.box 0
theorem RBox.c1 {W w : World} {g : Nat} {r : RL} (h : RBox W g r w) : w.cell? ⟨g, 1, none⟩ = some (.string (mkS r.kind)) := cellOf h.box 1
theorem RBox.c2 {W w : World} {g : Nat} {r : RL} (h : RBox W g r w) : w.cell? ⟨g, 2, none⟩ = some (.string (mkS r.oc)) := cellOf h.box 2
theorem ordered_s (l : Txt) (w : World) (hN : NotR w) : Calls Tryz.prog 297 #[.string (mkS l)] w fun e w' => e = .returned (.string (mkS (ordV l))) ∧ w' = w := (ordered_x l w hN).mono fun _ _ h => ⟨h.1, h.2.symm⟩
/-- A region that draws its order, walked once, where all its operations and calls leave a world of a class. -/
theorem region_in {P : Program} {id : Nat} {Q : Exit → Act → World → Prop} {a : Act} {w : World} {l : List Oper} (hm : P.follows .mixedOrders = true) (hB : Region.lexB .any l.toArray = true) {Y : Type} (F : Y → World) (y0 : Y) (hy : F y0 = w.drew)
    (h : wpQuiet P l.toArray (fun w' => ∃ y, w' = F y) (fun a' => ∀ w', (∃ y, w' = F y) → Q .normal a' w') l a) : (Code.region id l.toArray true).wp P Q a w :=
  wp_region_quiet (C := fun w' => ∃ y, w' = F y) hm hB ⟨y0, hy.symm⟩ (by simpa using h)
theorem RBox.quiet {W : World} {g : Nat} {r : RL} {Y : Type} {F : Y → World} {y : Y} (h : (∀ y, RBox W g r (F y)) ∧ (∀ w', RBox W g r w' → ∃ y, w' = F y)) {f : FuncId} {args : Array Value} {v : Value} (H : Calls Tryz.prog f args (F y) fun e w' => e = .returned v ∧ Below (F y).heap.size (F y) w') :
    Calls Tryz.prog f args (F y) fun e w' => e = .returned v ∧ ∃ y, w' = F y := H.mono fun _ _ ⟨he, hb⟩ => ⟨he, h.2 _ ((h.1 y).next hb)⟩
theorem RBox.qsame {W : World} {g : Nat} {r : RL} {Y : Type} {F : Y → World} {y : Y} (h : (∀ y, RBox W g r (F y)) ∧ (∀ w', RBox W g r w' → ∃ y, w' = F y)) {f : FuncId} {args : Array Value} {v : Value} (H : Calls Tryz.prog f args (F y) fun e w' => e = .returned v ∧ F y = w') :
    Calls Tryz.prog f args (F y) fun e w' => e = .returned v ∧ ∃ y, w' = F y := H.mono fun _ _ ⟨he, hb⟩ => ⟨he, h.2 _ (by rw [← hb]; exact h.1 y)⟩
theorem isKind_s (l : Txt) (w : World) (hl : l.length ≤ 1000000000000) : Calls Tryz.prog 298 #[.string (mkS l)] w fun e w' => e = .returned (.bool (isKind l)) ∧ w' = w := (isKind_x l w hl).mono fun _ _ h => ⟨h.1, h.2.symm⟩
set_option maxHeartbeats 8000000 in
theorem rightR_x (r : RL) (w : World) (hN : NotR w) (hk : r.kind.length ≤ 1000000000000) : Calls Tryz.prog 267 #[.agg #[.string (mkS r.no), .string (mkS r.kind), .string (mkS r.oc)]] w fun e w' => e = .returned (.int .i64 (rightR r)) ∧ Below w.heap.size w w' := by
  have k0 := newOf w (.cells #[.string (mkS r.no), .string (mkS r.kind), .string (mkS r.oc)] 77)
  have kB : Below w.heap.size w (w.alloc (.cells #[.string (mkS r.no), .string (mkS r.kind), .string (mkS r.oc)] 77)) := (Below.refl _ w).alloc (Nat.le_refl _) _
  have H0 := Lib.hid (RBox.mk (W := w) k0 kB)
  have HO := Lib.hid (fun w' (h : RBox w w.heap.size r w') => ordered_s r.no w' (hN.below h.below))
  have HK := Lib.hid (fun w' => isKind_x r.kind w' hk)
  have HC := Lib.hid (fun w' => cap_x r.kind w' hk)
  have hT0 := mkS_toList r.no
  have hTo := mkS_toList (ordV r.no)
  have hT1 := mkS_toList r.kind
  have hT2 := mkS_toList r.oc
  have hTu := mkS_toList (upL r.kind)
  have hsz := mkS_size r.oc
  have HV := Lib.hid (show rightR r = if (r.no == [78] || r.no == ordV r.no) = false then 2 else if (((r.kind == []) == (r.oc == [])) && (r.kind == [] || (isKind r.kind && r.kind == upL r.kind))) = false then 2 else if 256 < r.oc.length then 3 else 0 from rfl)
  clear k0 kB hN
  generalize hq1 : (r.no == [78]) = q1 at HV
  generalize hq2 : (r.no == ordV r.no) = q2 at HV
  have hk1 : r.kind.isEmpty = (r.kind == []) := by cases r.kind <;> rfl
  have hk2 : decide (r.kind = []) = (r.kind == []) := by cases r.kind <;> rfl
  have ho1 : r.oc.isEmpty = (r.oc == []) := by cases r.oc <;> rfl
  have ho2 : decide (r.oc = []) = (r.oc == []) := by cases r.oc <;> rfl
  generalize hqa : (r.kind == []) = qa at HV hk1 hk2
  generalize hqb : (r.oc == []) = qb at HV ho1 ho2
  generalize isKind r.kind = q3 at HV HK
  generalize hq4 : (r.kind == upL r.kind) = q4 at HV
  go_enter Tryz.func267, Tryz.ntmps267
  go_wp2_with fail
  generalize w.alloc (.cells #[.string (mkS r.no), .string (mkS r.kind), .string (mkS r.oc)] 77) = W0 at H0 ⊢
  have c0 := H0.out.c0
  cases q1
  · cases q2
    · go_quiet ((go_at_call 297; exact Calls.quiet_of_same (HO.out _ (H0.out.drewN _))))
      have HB := Lib.hid (below_drewN H0.out.below nq)
      go_wp2_with fail
      go_ret
      exact ⟨ret_int (by rw [HV.out]; simp), HB.out⟩
    · go_quiet ((go_at_call 297; exact Calls.quiet_of_same (HO.out _ (H0.out.drewN _))))
      have H1 := Lib.hid (H0.out.drewN nq)
      clear c0
      generalize W0.drewN nq = w1 at H1 ⊢
      clear H0
      have d1 := H1.out.c1
      have d2 := H1.out.c2
      rcases qa with _ | _ <;> rcases qb with _ | _
      · rcases q3 with _ | _
        · go_wp2_with fail
          go_quiet ((go_at_call 298; exact Calls.quiet_of_same ((HK.out _).mono fun _ _ h => ⟨h.1, h.2.symm⟩)))
          have HB := Lib.hid (below_drewN H1.out.below nq)
          go_wp2_with fail
          go_ret
          exact ⟨ret_int (by rw [HV.out]; simp), HB.out⟩
        · obtain ⟨Y, F, y0, hy0, hF, hS⟩ : ∃ (Y : Type) (F : Y → World) (y0 : Y), F y0 = w1.drew ∧ (∀ y, RBox w w.heap.size r (F y)) ∧ (∀ w', RBox w w.heap.size r w' → ∃ y, w' = F y) :=
            ⟨{ w' // RBox w w.heap.size r w' }, Subtype.val, ⟨_, H1.out.drew⟩, rfl, fun y => y.2, fun w' h => ⟨⟨w', h⟩, rfl⟩⟩
          have hne : Nonempty Y := ⟨y0⟩
          have hF1 := fun y => cellOf (hF y).box 1
          have hF2 := fun y => cellOf (hF y).box 2
          have HFS := Lib.hid (And.intro hF hS)
          clear hF hS d1 d2
          go_wp2_with fail
          refine region_in (by kernel_rfl) (by kernel_rfl) F y0 hy0 ?_
          repeat (go_big_quiet_step (first
            | (go_at_call 298; exact RBox.qsame HFS.out (HK.out _))
            | (go_at_call 299; exact RBox.quiet HFS.out (HC.out _))))
          refine wpQuiet_nil ?_
          rintro _ ⟨y, rfl⟩
          have H2 := Lib.hid (HFS.out.1 y)
          clear hF1 hF2 hy0
          cases q4
          · have HB := Lib.hid H2.out.below
            go_wp2_with fail
            go_ret
            exact ⟨ret_int (by rw [HV.out]; simp), HB.out⟩
          · have _u := trivial
            by_cases hl : 256 < r.oc.length
            · have hlI : (256 : Int) < (r.oc.length : Int) := by omega
              have c2 := H2.out.c2
              have HB := Lib.hid H2.out.below
              go_wp2_with fail
              go_ret
              exact ⟨ret_int (by rw [HV.out]; simp [hl]), HB.out⟩
            · have hlI : ¬ (256 : Int) < (r.oc.length : Int) := by omega
              have c2 := H2.out.c2
              have HB := Lib.hid H2.out.below
              go_wp2_with fail
              go_ret
              exact ⟨ret_int (by rw [HV.out]; simp [hl]), HB.out⟩
      · go_wp2_with fail
        go_quiet (fail)
        have HB := Lib.hid (below_drewN H1.out.below nq)
        go_wp2_with fail
        go_ret
        exact ⟨ret_int (by rw [HV.out]; simp), HB.out⟩
      · go_wp2_with fail
        go_quiet (fail)
        have HB := Lib.hid (below_drewN H1.out.below nq)
        go_wp2_with fail
        go_ret
        exact ⟨ret_int (by rw [HV.out]; simp), HB.out⟩
      · go_wp2_with fail
        go_quiet (fail)
        have H2 := Lib.hid (H1.out.drewN nq)
        clear d1 d2
        by_cases hl : 256 < r.oc.length
        · have hlI : (256 : Int) < (r.oc.length : Int) := by omega
          have c2 := H2.out.c2
          have HB := Lib.hid H2.out.below
          go_wp2_with fail
          go_ret
          exact ⟨ret_int (by rw [HV.out]; simp [hl]), HB.out⟩
        · have hlI : ¬ (256 : Int) < (r.oc.length : Int) := by omega
          have c2 := H2.out.c2
          have HB := Lib.hid H2.out.below
          go_wp2_with fail
          go_ret
          exact ⟨ret_int (by rw [HV.out]; simp [hl]), HB.out⟩
  · go_quiet (fail)
    have H1 := Lib.hid (H0.out.drewN nq)
    clear c0
    generalize W0.drewN nq = w1 at H1 ⊢
    clear H0
    have d1 := H1.out.c1
    have d2 := H1.out.c2
    rcases qa with _ | _ <;> rcases qb with _ | _
    · rcases q3 with _ | _
      · go_wp2_with fail
        go_quiet ((go_at_call 298; exact Calls.quiet_of_same ((HK.out _).mono fun _ _ h => ⟨h.1, h.2.symm⟩)))
        have HB := Lib.hid (below_drewN H1.out.below nq)
        go_wp2_with fail
        go_ret
        exact ⟨ret_int (by rw [HV.out]; simp), HB.out⟩
      · obtain ⟨Y, F, y0, hy0, hF, hS⟩ : ∃ (Y : Type) (F : Y → World) (y0 : Y), F y0 = w1.drew ∧ (∀ y, RBox w w.heap.size r (F y)) ∧ (∀ w', RBox w w.heap.size r w' → ∃ y, w' = F y) :=
          ⟨{ w' // RBox w w.heap.size r w' }, Subtype.val, ⟨_, H1.out.drew⟩, rfl, fun y => y.2, fun w' h => ⟨⟨w', h⟩, rfl⟩⟩
        have hne : Nonempty Y := ⟨y0⟩
        have hF1 := fun y => cellOf (hF y).box 1
        have hF2 := fun y => cellOf (hF y).box 2
        have HFS := Lib.hid (And.intro hF hS)
        clear hF hS d1 d2
        go_wp2_with fail
        refine region_in (by kernel_rfl) (by kernel_rfl) F y0 hy0 ?_
        repeat (go_big_quiet_step (first
          | (go_at_call 298; exact RBox.qsame HFS.out (HK.out _))
          | (go_at_call 299; exact RBox.quiet HFS.out (HC.out _))))
        refine wpQuiet_nil ?_
        rintro _ ⟨y, rfl⟩
        have H2 := Lib.hid (HFS.out.1 y)
        clear hF1 hF2 hy0
        cases q4
        · have HB := Lib.hid H2.out.below
          go_wp2_with fail
          go_ret
          exact ⟨ret_int (by rw [HV.out]; simp), HB.out⟩
        · have _u := trivial
          by_cases hl : 256 < r.oc.length
          · have hlI : (256 : Int) < (r.oc.length : Int) := by omega
            have c2 := H2.out.c2
            have HB := Lib.hid H2.out.below
            go_wp2_with fail
            go_ret
            exact ⟨ret_int (by rw [HV.out]; simp [hl]), HB.out⟩
          · have hlI : ¬ (256 : Int) < (r.oc.length : Int) := by omega
            have c2 := H2.out.c2
            have HB := Lib.hid H2.out.below
            go_wp2_with fail
            go_ret
            exact ⟨ret_int (by rw [HV.out]; simp [hl]), HB.out⟩
    · go_wp2_with fail
      go_quiet (fail)
      have HB := Lib.hid (below_drewN H1.out.below nq)
      go_wp2_with fail
      go_ret
      exact ⟨ret_int (by rw [HV.out]; simp), HB.out⟩
    · go_wp2_with fail
      go_quiet (fail)
      have HB := Lib.hid (below_drewN H1.out.below nq)
      go_wp2_with fail
      go_ret
      exact ⟨ret_int (by rw [HV.out]; simp), HB.out⟩
    · go_wp2_with fail
      go_quiet (fail)
      have H2 := Lib.hid (H1.out.drewN nq)
      clear d1 d2
      by_cases hl : 256 < r.oc.length
      · have hlI : (256 : Int) < (r.oc.length : Int) := by omega
        have c2 := H2.out.c2
        have HB := Lib.hid H2.out.below
        go_wp2_with fail
        go_ret
        exact ⟨ret_int (by rw [HV.out]; simp [hl]), HB.out⟩
      · have hlI : ¬ (256 : Int) < (r.oc.length : Int) := by omega
        have c2 := H2.out.c2
        have HB := Lib.hid H2.out.below
        go_wp2_with fail
        go_ret
        exact ⟨ret_int (by rw [HV.out]; simp [hl]), HB.out⟩
end Go.Proofs.YtbecdncnidcmdaaGreatDoor
