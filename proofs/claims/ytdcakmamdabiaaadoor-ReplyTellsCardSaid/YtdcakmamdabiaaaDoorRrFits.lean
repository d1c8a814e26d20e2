/-
  The walk of the reference's fits.
-/
import Derived.Test.YtdcakmamdabiaaaDoorRrSmall
namespace Go.Proofs.YtdcakmamdabiaaaDoor
set_option maxRecDepth 100000
open Go.RowKit
/-- An enhanced code in its box, the first block. -/
structure EX (W : World) (e : E3) (w : World) : Prop where
  box : w.heap[W.heap.size]? = some (.cells #[.int .i64 e.1, .int .i64 e.2.1, .int .i64 e.2.2] 23 (0, 0))
  below : Below W.heap.size W w
theorem EX.new (W : World) (e : E3) : EX W e (W.alloc (.cells #[.int .i64 e.1, .int .i64 e.2.1, .int .i64 e.2.2] 23)) := ⟨newOf W _, below_box W _⟩
theorem EX.next {W w w' : World} {e : E3} (h : EX W e w) (hb : Below w.heap.size w w') : EX W e w' := ⟨(hb.block _ (ltOf h.box)).trans h.box, below_next h.below hb⟩
theorem EX.drew {W w : World} {e : E3} (h : EX W e w) : EX W e w.drew := h.next (below_drewN (Below.refl _ _) 1)
theorem EX.cells {W w : World} {e : E3} (h : EX W e w) : w.cell? ⟨W.heap.size, 0, none⟩ = some (.int .i64 e.1) ∧ w.cell? ⟨W.heap.size, 1, none⟩ = some (.int .i64 e.2.1) ∧ w.cell? ⟨W.heap.size, 2, none⟩ = some (.int .i64 e.2.2) ∧ Hid (EX W e w) := ⟨cellOf h.box 0, cellOf h.box 1, cellOf h.box 2, h⟩
set_option maxHeartbeats 8000000 in
theorem fits_x (c : Int) (e : E3) (w : World) : Calls Tryd.prog 36 #[.int .i64 c, EV e] w fun x w' => x = .returned (.bool (rpFit c e)) ∧ Below w.heap.size w w' := by
  have HP := Lib.hid (fit_parts c e)
  have HNo := Lib.hid (fun w => rnone_x e w)
  have HC := Lib.hid (fun w => rclass_x c w)
  have HX := Lib.hid (EX.new w e)
  cases hh : rpHas e
  case false =>
    rw [hh] at HNo
    have HV := Lib.hid (show rpFit c e = true by rw [rpFit, hh]; rfl)
    go_enter Tryd.func36, Tryd.ntmps36
    go_wp2_with fail
    refine (HNo.out _).mono ?_
    rintro x w2 ⟨rfl, hb2⟩
    have HX2 := Lib.hid (HX.out.next hb2)
    clear hb2
    go_wp2_with fail
    go_ret
    exact ⟨ret_bool HV.out.symm, HX2.out.below⟩
  case true =>
    rw [hh] at HNo
    have HV := Lib.hid (HP.out hh)
    clear HP hh
    generalize rpFit c e = r at HV
    obtain ⟨a, b, d⟩ := e
    simp only at HV
    generalize rpCls c = k at HV HC
    generalize d0 : (a == 2) = q0 at HV
    generalize d1 : (a == 4) = q1 at HV
    generalize d2 : (a == 5) = q2 at HV
    generalize d3 : (a == k) = q3 at HV
    generalize d4 : decide (0 ≤ b) = q4 at HV
    generalize d5 : decide (b < 1000) = q5 at HV
    generalize d6 : decide (0 ≤ d) = q6 at HV
    generalize d7 : decide (d < 1000) = q7 at HV
    go_enter Tryd.func36, Tryd.ntmps36
    go_wp2_with fail
    refine (HNo.out _).mono ?_
    rintro x w2 ⟨rfl, hb2⟩
    have HX2 := Lib.hid (HX.out.next hb2)
    clear hb2 HX HNo
    obtain ⟨F, hF⟩ : ∃ F : Nat → World, F = fun n => w2.drewN (n + 1) := ⟨_, rfl⟩
    have HX5 := Lib.hid (show ∀ n, EX w (a, b, d) (F n) from fun n => by rw [hF]; exact HX2.out.next (below_drewN (Below.refl _ _) (n + 1)))
    have hy0 : F 0 = w2.drew := by rw [hF]; rfl
    have j0 := fun y => cellOf (HX5.out y).box 0
    have j1 := fun y => cellOf (HX5.out y).box 1
    have j2 := fun y => cellOf (HX5.out y).box 2
    have HC5 := Lib.hid (show ∀ y, Calls Tryd.prog 16 #[.int .i64 c] (F y) (fun e w' => e = .returned (.int .i64 k) ∧ ∃ y, w' = F y) from fun y => (HC.out (F y)).mono fun e w' h => ⟨h.1, y, h.2.symm⟩)
    clear hF HX2
    cases q0
    case true =>
      cases q3
      case false =>
        go_wp2_with fail
        refine region_inr (by kernel_rfl) (by kernel_rfl) F 0 hy0 ?_
        repeat (go_big_quiet_step ((go_at_call 16; exact HC5.out _)))
        refine wpQuiet_nil ?_
        rintro _ ⟨y, rfl⟩
        have HF := Lib.hid (HX5.out y).below
        clear j0 j1 j2 hy0
        go_wp2_with fail
        go_ret
        exact ⟨ret_bool HV.out.symm, HF.out⟩
      case true =>
        cases q4
        case false =>
          go_wp2_with fail
          refine region_inr (by kernel_rfl) (by kernel_rfl) F 0 hy0 ?_
          repeat (go_big_quiet_step ((go_at_call 16; exact HC5.out _)))
          refine wpQuiet_nil ?_
          rintro _ ⟨y, rfl⟩
          have HF := Lib.hid (HX5.out y).below
          clear j0 j1 j2 hy0
          go_wp2_with fail
          go_ret
          exact ⟨ret_bool HV.out.symm, HF.out⟩
        case true =>
          cases q5
          case false =>
            go_wp2_with fail
            refine region_inr (by kernel_rfl) (by kernel_rfl) F 0 hy0 ?_
            repeat (go_big_quiet_step ((go_at_call 16; exact HC5.out _)))
            refine wpQuiet_nil ?_
            rintro _ ⟨y, rfl⟩
            have HF := Lib.hid (HX5.out y).below
            clear j0 j1 j2 hy0
            go_wp2_with fail
            go_ret
            exact ⟨ret_bool HV.out.symm, HF.out⟩
          case true =>
            cases q6
            case false =>
              go_wp2_with fail
              refine region_inr (by kernel_rfl) (by kernel_rfl) F 0 hy0 ?_
              repeat (go_big_quiet_step ((go_at_call 16; exact HC5.out _)))
              refine wpQuiet_nil ?_
              rintro _ ⟨y, rfl⟩
              have HF := Lib.hid (HX5.out y).below
              clear j0 j1 j2 hy0
              go_wp2_with fail
              go_ret
              exact ⟨ret_bool HV.out.symm, HF.out⟩
            case true =>
              cases q7
              case false =>
                go_wp2_with fail
                refine region_inr (by kernel_rfl) (by kernel_rfl) F 0 hy0 ?_
                repeat (go_big_quiet_step ((go_at_call 16; exact HC5.out _)))
                refine wpQuiet_nil ?_
                rintro _ ⟨y, rfl⟩
                have HF := Lib.hid (HX5.out y).below
                clear j0 j1 j2 hy0
                go_wp2_with fail
                go_ret
                exact ⟨ret_bool HV.out.symm, HF.out⟩
              case true =>
                go_wp2_with fail
                refine region_inr (by kernel_rfl) (by kernel_rfl) F 0 hy0 ?_
                repeat (go_big_quiet_step ((go_at_call 16; exact HC5.out _)))
                refine wpQuiet_nil ?_
                rintro _ ⟨y, rfl⟩
                have HF := Lib.hid (HX5.out y).below
                clear j0 j1 j2 hy0
                go_wp2_with fail
                go_ret
                exact ⟨ret_bool HV.out.symm, HF.out⟩
    case false =>
      cases q1
      case true =>
        cases q3
        case false =>
          go_wp2_with fail
          refine region_inr (by kernel_rfl) (by kernel_rfl) F 0 hy0 ?_
          repeat (go_big_quiet_step ((go_at_call 16; exact HC5.out _)))
          refine wpQuiet_nil ?_
          rintro _ ⟨y, rfl⟩
          have HF := Lib.hid (HX5.out y).below
          clear j0 j1 j2 hy0
          go_wp2_with fail
          go_ret
          exact ⟨ret_bool HV.out.symm, HF.out⟩
        case true =>
          cases q4
          case false =>
            go_wp2_with fail
            refine region_inr (by kernel_rfl) (by kernel_rfl) F 0 hy0 ?_
            repeat (go_big_quiet_step ((go_at_call 16; exact HC5.out _)))
            refine wpQuiet_nil ?_
            rintro _ ⟨y, rfl⟩
            have HF := Lib.hid (HX5.out y).below
            clear j0 j1 j2 hy0
            go_wp2_with fail
            go_ret
            exact ⟨ret_bool HV.out.symm, HF.out⟩
          case true =>
            cases q5
            case false =>
              go_wp2_with fail
              refine region_inr (by kernel_rfl) (by kernel_rfl) F 0 hy0 ?_
              repeat (go_big_quiet_step ((go_at_call 16; exact HC5.out _)))
              refine wpQuiet_nil ?_
              rintro _ ⟨y, rfl⟩
              have HF := Lib.hid (HX5.out y).below
              clear j0 j1 j2 hy0
              go_wp2_with fail
              go_ret
              exact ⟨ret_bool HV.out.symm, HF.out⟩
            case true =>
              cases q6
              case false =>
                go_wp2_with fail
                refine region_inr (by kernel_rfl) (by kernel_rfl) F 0 hy0 ?_
                repeat (go_big_quiet_step ((go_at_call 16; exact HC5.out _)))
                refine wpQuiet_nil ?_
                rintro _ ⟨y, rfl⟩
                have HF := Lib.hid (HX5.out y).below
                clear j0 j1 j2 hy0
                go_wp2_with fail
                go_ret
                exact ⟨ret_bool HV.out.symm, HF.out⟩
              case true =>
                cases q7
                case false =>
                  go_wp2_with fail
                  refine region_inr (by kernel_rfl) (by kernel_rfl) F 0 hy0 ?_
                  repeat (go_big_quiet_step ((go_at_call 16; exact HC5.out _)))
                  refine wpQuiet_nil ?_
                  rintro _ ⟨y, rfl⟩
                  have HF := Lib.hid (HX5.out y).below
                  clear j0 j1 j2 hy0
                  go_wp2_with fail
                  go_ret
                  exact ⟨ret_bool HV.out.symm, HF.out⟩
                case true =>
                  go_wp2_with fail
                  refine region_inr (by kernel_rfl) (by kernel_rfl) F 0 hy0 ?_
                  repeat (go_big_quiet_step ((go_at_call 16; exact HC5.out _)))
                  refine wpQuiet_nil ?_
                  rintro _ ⟨y, rfl⟩
                  have HF := Lib.hid (HX5.out y).below
                  clear j0 j1 j2 hy0
                  go_wp2_with fail
                  go_ret
                  exact ⟨ret_bool HV.out.symm, HF.out⟩
      case false =>
        cases q2
        case true =>
          cases q3
          case false =>
            go_wp2_with fail
            refine region_inr (by kernel_rfl) (by kernel_rfl) F 0 hy0 ?_
            repeat (go_big_quiet_step ((go_at_call 16; exact HC5.out _)))
            refine wpQuiet_nil ?_
            rintro _ ⟨y, rfl⟩
            have HF := Lib.hid (HX5.out y).below
            clear j0 j1 j2 hy0
            go_wp2_with fail
            go_ret
            exact ⟨ret_bool HV.out.symm, HF.out⟩
          case true =>
            cases q4
            case false =>
              go_wp2_with fail
              refine region_inr (by kernel_rfl) (by kernel_rfl) F 0 hy0 ?_
              repeat (go_big_quiet_step ((go_at_call 16; exact HC5.out _)))
              refine wpQuiet_nil ?_
              rintro _ ⟨y, rfl⟩
              have HF := Lib.hid (HX5.out y).below
              clear j0 j1 j2 hy0
              go_wp2_with fail
              go_ret
              exact ⟨ret_bool HV.out.symm, HF.out⟩
            case true =>
              cases q5
              case false =>
                go_wp2_with fail
                refine region_inr (by kernel_rfl) (by kernel_rfl) F 0 hy0 ?_
                repeat (go_big_quiet_step ((go_at_call 16; exact HC5.out _)))
                refine wpQuiet_nil ?_
                rintro _ ⟨y, rfl⟩
                have HF := Lib.hid (HX5.out y).below
                clear j0 j1 j2 hy0
                go_wp2_with fail
                go_ret
                exact ⟨ret_bool HV.out.symm, HF.out⟩
              case true =>
                cases q6
                case false =>
                  go_wp2_with fail
                  refine region_inr (by kernel_rfl) (by kernel_rfl) F 0 hy0 ?_
                  repeat (go_big_quiet_step ((go_at_call 16; exact HC5.out _)))
                  refine wpQuiet_nil ?_
                  rintro _ ⟨y, rfl⟩
                  have HF := Lib.hid (HX5.out y).below
                  clear j0 j1 j2 hy0
                  go_wp2_with fail
                  go_ret
                  exact ⟨ret_bool HV.out.symm, HF.out⟩
                case true =>
                  cases q7
                  case false =>
                    go_wp2_with fail
                    refine region_inr (by kernel_rfl) (by kernel_rfl) F 0 hy0 ?_
                    repeat (go_big_quiet_step ((go_at_call 16; exact HC5.out _)))
                    refine wpQuiet_nil ?_
                    rintro _ ⟨y, rfl⟩
                    have HF := Lib.hid (HX5.out y).below
                    clear j0 j1 j2 hy0
                    go_wp2_with fail
                    go_ret
                    exact ⟨ret_bool HV.out.symm, HF.out⟩
                  case true =>
                    go_wp2_with fail
                    refine region_inr (by kernel_rfl) (by kernel_rfl) F 0 hy0 ?_
                    repeat (go_big_quiet_step ((go_at_call 16; exact HC5.out _)))
                    refine wpQuiet_nil ?_
                    rintro _ ⟨y, rfl⟩
                    have HF := Lib.hid (HX5.out y).below
                    clear j0 j1 j2 hy0
                    go_wp2_with fail
                    go_ret
                    exact ⟨ret_bool HV.out.symm, HF.out⟩
        case false =>
          go_wp2_with fail
          refine region_inr (by kernel_rfl) (by kernel_rfl) F 0 hy0 ?_
          repeat (go_big_quiet_step ((go_at_call 16; exact HC5.out _)))
          refine wpQuiet_nil ?_
          rintro _ ⟨y, rfl⟩
          have HF := Lib.hid (HX5.out y).below
          clear j0 j1 j2 hy0
          go_wp2_with fail
          go_ret
          exact ⟨ret_bool HV.out.symm, HF.out⟩
end Go.Proofs.YtdcakmamdabiaaaDoor
