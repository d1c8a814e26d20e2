/-
  The walk of package date's Days.
-/
import Derived.Test.YtafbapmbhjkheaaDoorDtSmall
namespace Go.Proofs.YtafbapmbhjkheaaDoor
open Go.RowKit
theorem vldB_no {y m d : Int} (h : ¬ (1970 ≤ y ∧ y ≤ 9999 ∧ 1 ≤ d ∧ d ≤ dimD y m)) : vldB y m d = false :=
  Bool.eq_false_iff.2 fun e => h (by obtain ⟨a, b, c, f⟩ := vldB_iff.1 e; exact ⟨a, b, c, f⟩)
def DaysPost (y m d : Int) (w : World) (e : Ending) (w' : World) : Prop := e = .returned (.tuple #[.int .i64 (daysV y m d), .int .i64 (daysE y m d)]) ∧ Below w.heap.size w w'
theorem days_no {y m d : Int} {w w' : World} (h : vldB y m d = false) (hb : Below w.heap.size w w') : DaysPost y m d w (.returned (.tuple #[.int .i64 0, .int .i64 1])) w' :=
  ⟨by rw [daysV, daysE, h]; rfl, hb⟩
theorem days_yes {y m d : Int} {w w' : World} (h : vldB y m d = true) (hb : Below w.heap.size w w') : DaysPost y m d w (.returned (.tuple #[.int .i64 (numD y m d), .int .i64 0])) w' :=
  ⟨by rw [daysV, daysE, h]; rfl, hb⟩
theorem days_at {y m d r : Int} {w w' : World} (h : vldB y m d = true) (hr : numD y m d = r) (hb : Below w.heap.size w w') : DaysPost y m d w (.returned (.tuple #[.int .i64 r, .int .i64 0])) w' := hr ▸ days_yes h hb
theorem below_box (w : World) (o : Obj) (n : Nat) : Below w.heap.size w ((w.alloc o).drewN n) := below_drewN ((Below.refl _ _).alloc (Nat.le_refl _) _) n
theorem still0 {P : Program} {f : FuncId} {args : Array Value} {w : World} {v : Value} (h : Calls P f args w fun e w' => e = .returned v ∧ w = w') :
    Calls P f args w fun e w' => e = .returned v ∧ w' = w := h.mono fun _ _ ⟨he, hw⟩ => ⟨he, hw.symm⟩
set_option maxHeartbeats 2000000 in
theorem days_x (y m d : Int) (w : World) (hR : Ready w) : Calls Tryd.prog 9 #[.agg #[.int .i64 y, .int .i64 m, .int .i64 d]] w (DaysPost y m d w) := by
  by_cases h1 : y < 1970
  · have d1 : decide (y < 1970) = true := decide_eq_true h1
    have HN := Lib.hid (vldB_no (y := y) (m := m) (d := d) (by omega))
    go_enter Tryd.func9, Tryd.ntmps9
    go_wp2_with fail
    go_quiet (fail)
    go_wp2_with fail
    go_ret2
    exact days_no HN.out (below_box _ _ _)
  · have d1 : decide (y < 1970) = false := decide_eq_false h1
    by_cases h2 : 9999 < y
    · have d2 : decide (9999 < y) = true := decide_eq_true h2
      have HN := Lib.hid (vldB_no (y := y) (m := m) (d := d) (by omega))
      go_enter Tryd.func9, Tryd.ntmps9
      go_wp2_with fail
      go_quiet (fail)
      go_wp2_with fail
      go_ret2
      exact days_no HN.out (below_box _ _ _)
    · have d2 : decide (9999 < y) = false := decide_eq_false h2
      by_cases h3 : d < 1
      · have d3 : decide (d < 1) = true := decide_eq_true h3
        have HN := Lib.hid (vldB_no (y := y) (m := m) (d := d) (by omega))
        go_enter Tryd.func9, Tryd.ntmps9
        go_wp2_with fail
        go_quiet (fail)
        go_wp2_with fail
        go_ret2
        exact days_no HN.out (below_box _ _ _)
      · have d3 : decide (d < 1) = false := decide_eq_false h3
        have HL := Lib.hid (fun (n : Nat) => still0 (len_x y m ((w.alloc (.cells #[.int .i64 y, .int .i64 m, .int .i64 d] 23)).drewN n) (hR.below (below_box w _ n))))
        by_cases h4 : dimD y m < d
        · have d4 : decide (dimD y m < d) = true := decide_eq_true h4
          have HN := Lib.hid (vldB_no (y := y) (m := m) (d := d) (by omega))
          generalize dimD y m = q at HL d4 h4
          go_enter Tryd.func9, Tryd.ntmps9
          go_wp2_with fail
          go_quiet ((go_at_call 19; exact Calls.quiet_of_same (HL.out _)))
          go_wp2_with fail
          go_ret2
          exact days_no HN.out (below_box _ _ _)
        · have d4 : decide (dimD y m < d) = false := decide_eq_false h4
          have hv := vldB_iff.2 (⟨by omega, by omega, by omega, by omega⟩ : Vld y m d)
          have hm := (vldB_iff.1 hv).m
          have hd31 := (vldB_iff.1 hv).d31
          have HV := Lib.hid hv
          clear hv
          have HK := Lib.hid (fun (j : Int) (w' : World) (hb : Below w.heap.size w w') => len_x y j w' (hR.below hb))
          have HB := Lib.hid (fun (n : Nat) => still0 (begins_x y ((w.alloc (.cells #[.int .i64 y, .int .i64 m, .int .i64 d] 23)).drewN n) (by omega) (by omega)))
          have HBN := Lib.hid (show numD y m d = begD y + d - 1 + cumD y m by unfold numD; omega)
          have HC1 := Lib.hid (cum_1 y)
          have hbb := beg_bd (y := y) (by omega) (by omega)
          generalize dimD y m = q at HL d4 h4
          generalize begD y = bg at HB HBN hbb
          have e1 : IntKind.i64.wrap (bg + d) = bg + d := IntWalk.i64_in _ (by omega)
          have e2 : IntKind.i64.wrap (bg + d - 1) = bg + d - 1 := IntWalk.i64_in _ (by omega)
          go_enter Tryd.func9, Tryd.ntmps9
          go_wp2_with fail
          go_quiet ((go_at_call 19; exact Calls.quiet_of_same (HL.out _)))
          go_wp2_with fail
          go_quiet ((go_at_call 22; exact quiet_more (HB.out _)))
          clear e1 e2
          go_wp2_with fail
          rw [World.drewN_drewN]
          go_loop [4, 5] (fun a k => ∃ j : Int, 1 ≤ j ∧ j ≤ m ∧ k = .int .i64 j ∧ a = .int .i64 (bg + d - 1 + cumD y j)) (fun _ k => (m - intOf k).toNat)
          case atStart => exact ⟨1, by omega, by omega, rfl, by rw [HC1.out, Int.add_zero]⟩
          case round =>
            obtain ⟨j, hj1, hj2, rfl, rfl⟩ := hrel
            have cb := cum_bd y (m := j) (by omega) (by omega)
            have hlp := lp_01 y
            have hdl := dim_le y j
            by_cases hjm : j < m
            · have CS := Lib.hid (cum_succ y j (by omega) (by omega))
              have HJ := Lib.hid (HK.out j)
              generalize dimD y j = dj at CS HJ hdl
              generalize hcj : cumD y j = cj at CS cb
              clear hcj
              go_wp2_with fail
              refine (HJ.out _ (by first | exact below_drewN (below_box _ _ _) _ | exact below_box _ _ _)).mono ?_
              rintro e w' ⟨rfl, rfl⟩
              go_wp2_with fail
              go_round
              case rel => exact ⟨j + 1, by omega, by omega, rfl, by rw [CS.out]; go_num⟩
              case measure => simp [intOf]; omega
            · obtain rfl : j = m := by omega
              go_wp2_with fail
              go_ret2
              exact days_at HV.out HBN.out (below_box _ _ _)
end Go.Proofs.YtafbapmbhjkheaaDoor
