/-
  The walk of the law DateTells.
-/
import Derived.Test.YtafbapmbhjkheaaDoorDtAwake
import Derived.Test.YtafbapmbhjkheaaDoorDrPrint
import Derived.Test.YtafbapmbhjkheaaDoorDrParseP
import Derived.Test.YtafbapmbhjkheaaDoorDrParseM
namespace Go.Proofs.YtafbapmbhjkheaaDoor
open Go.RowKit
set_option maxRecDepth 100000 in
set_option maxHeartbeats 4000000 in
theorem rparse_no (l : List UInt8) (w : World) (hl : l.length ≤ 1000000000000) (hz : likeX l formZ = false) (hp : likeX l formP = false) (hm : likeX l formM = false) : Calls Tryd.prog 14 #[.string (mkS l)] w (ParsePost l w) := by
  have H1 := Lib.hid (fun w => shapeZ_x l w hl)
  have H2 := Lib.hid (fun w => shapeP_x l w hl)
  have H3 := Lib.hid (fun w => shapeM_x l w hl)
  have HV := Lib.hid (show parseV l = 0 ∧ parseE l = 2 by unfold parseV parseE formedX; rw [hz, hp, hm]; exact ⟨rfl, rfl⟩)
  rw [hz] at H1
  rw [hp] at H2
  rw [hm] at H3
  clear hz hp hm
  go_enter Tryd.func14, Tryd.ntmps14
  go_wp2_with fail
  refine (H1.out _).mono ?_
  rintro e w' ⟨rfl, k1, rfl⟩
  go_wp2_with fail
  refine (H2.out _).mono ?_
  rintro e w' ⟨rfl, k2, rfl⟩
  go_wp2_with fail
  refine (H3.out _).mono ?_
  rintro e w' ⟨rfl, k3, rfl⟩
  go_wp2_with fail
  go_ret2
  exact parse_end HV.out.1 HV.out.2 (below_drewN (Below.refl _ _) _)
theorem rparse_x (l : List UInt8) (w : World) (hl : l.length ≤ 1000000000000) : Calls Tryd.prog 14 #[.string (mkS l)] w (ParsePost l w) := by
  cases hz : likeX l formZ
  · cases hp : likeX l formP
    · cases hm : likeX l formM
      · exact rparse_no l w hl hz hp hm
      · exact rparse_M l w hl hm
    · exact rparse_P l w hl hp
  · exact rparse_Z l w hl hz
set_option maxRecDepth 100000 in
set_option maxHeartbeats 8000000 in
theorem dateTells_x (y m d n t : Int) (l : List UInt8) (w : World) (hR0 : Ready w) (_ : IntKind.i64.min ≤ n) (hn : n ≤ IntKind.i64.max) (_ : IntKind.i64.min ≤ t) (_ : t ≤ IntKind.i64.max) (_ : l.length ≤ 140737488355328) :
    Calls Tryd.prog 3 #[.agg #[.int .i64 y, .int .i64 m, .int .i64 d], .int .i64 n, .int .i64 t, .string (mkS l)] w fun e w' => e = .returned (.bool true) ∧ Below w.heap.size w w' := by
  have HR := Lib.hid hR0
  have HA := Lib.hid (fun w hR => awake_x w hR)
  have hms := mkS_size l
  have HNM := Lib.hid (show n ≤ 9223372036854775807 from hn)
  clear hR0 hn
  by_cases h200 : 200 < l.length
  · have dl : decide ((200 : Int) < (l.length : Int)) = true := decide_eq_true (by omega)
    go_enter Tryd.func3, Tryd.ntmps3
    go_wp2_with fail
    refine (HA.out _ (HR.out.below (below_box _ _ 0))).mono ?_
    rintro e w1 ⟨rfl, hb1⟩
    have HB1 := Lib.hid (below_next (below_box _ _ 0) hb1)
    clear hb1
    go_wp2_with fail
    go_ret
    exact ⟨rfl, HB1.out⟩
  · have dl : decide ((200 : Int) < (l.length : Int)) = false := decide_eq_false (by omega)
    have D1 := Lib.hid (fun w hR => days_x y m d w hR)
    have D2 := Lib.hid (fun w => rdays_x y m d w)
    have O1 := Lib.hid (fun w hR => of_x n w hR)
    have O2 := Lib.hid (fun w => rof_x n w HNM.out)
    have P1 := Lib.hid (fun w hR => parse_x l w (by omega) hR)
    have P2 := Lib.hid (fun w => rparse_x l w (by omega))
    have Q1 := Lib.hid (fun w hR => print_x t w hR)
    have Q2 := Lib.hid (fun w => rprint_x t w)
    have L1 := Lib.hid (fun w => still0 (leap_x y w))
    have L2 := Lib.hid (fun w => still0 (rleap_x y w))
    have M1 := Lib.hid (fun w hR => still0 (len_x y m w hR))
    have M2 := Lib.hid (fun w => still0 (rlen_x y m w))
    unfold DaysPost at D1 D2
    unfold OfPost ofV at O1 O2
    unfold ParsePost at P1 P2
    unfold PrintPost at Q1
    unfold RPrintPost at Q2
    generalize daysV y m d = dv at D1 D2
    generalize daysE y m d = de at D1 D2
    generalize (ofD n).1 = oy at O1 O2
    generalize (ofD n).2.1 = om at O1 O2
    generalize (ofD n).2.2 = od at O1 O2
    generalize ofE n = oe at O1 O2
    generalize parseV l = pv at P1 P2
    generalize parseE l = pe at P1 P2
    generalize printS t = qs at Q1 Q2
    generalize printE t = qe at Q1 Q2
    generalize leapD y = lp at L1 L2
    generalize dimD y m = dq at M1 M2
    go_enter Tryd.func3, Tryd.ntmps3
    go_wp2_with fail
    refine (HA.out _ (HR.out.below (below_box _ _ 0))).mono ?_
    rintro e w1 ⟨rfl, hb⟩
    have A1 := Lib.hid ((aw_new (Below.refl w.heap.size w) y m d).next hb)
    clear hb
    have hc0 := cellOf A1.out.box 0
    have hc1 := cellOf A1.out.box 1
    have hc2 := cellOf A1.out.box 2
    go_wp2_with fail
    refine (D1.out _ (HR.out.below A1.out.below)).mono ?_
    rintro e w2 ⟨rfl, hb⟩
    have A2 := Lib.hid (A1.out.next hb)
    clear hb hc0 hc1 hc2
    have hc0 := cellOf A2.out.box 0
    have hc1 := cellOf A2.out.box 1
    have hc2 := cellOf A2.out.box 2
    go_wp2_with fail
    refine (D2.out _).mono ?_
    rintro e w3 ⟨rfl, hb⟩
    have A3 := Lib.hid (A2.out.next hb)
    clear hb hc0 hc1 hc2
    go_wp2_with fail
    refine (O1.out _ (HR.out.below A3.out.below)).mono ?_
    rintro e w4 ⟨rfl, hb⟩
    have A4 := Lib.hid (A3.out.next hb)
    clear hb
    have A4a := Lib.hid (A4.out.next ((Below.refl _ _).alloc (Nat.le_refl _) (.cells #[.int .i64 oy, .int .i64 om, .int .i64 od] 23)))
    have B4a := Lib.hid (aw_new A4.out.below oy om od)
    go_wp2_with fail
    refine (O2.out _).mono ?_
    rintro e w5 ⟨rfl, hb⟩
    have A5 := Lib.hid (A4a.out.next hb)
    have B5 := Lib.hid (B4a.out.next hb)
    clear hb
    have A5a := Lib.hid (A5.out.next ((Below.refl _ _).alloc (Nat.le_refl _) (.cells #[.int .i64 oy, .int .i64 om, .int .i64 od] 30)))
    have B5a := Lib.hid (B5.out.next ((Below.refl _ _).alloc (Nat.le_refl _) (.cells #[.int .i64 oy, .int .i64 om, .int .i64 od] 30)))
    have C5a := Lib.hid (rp_new A5.out.below oy om od)
    go_wp2_with fail
    refine (P1.out _ (HR.out.below A5a.out.below)).mono ?_
    rintro e w6 ⟨rfl, hb⟩
    have A6 := Lib.hid (A5a.out.next hb)
    have B6 := Lib.hid (B5a.out.next hb)
    have C6 := Lib.hid (C5a.out.next hb)
    clear hb
    go_wp2_with fail
    refine (P2.out _).mono ?_
    rintro e w7 ⟨rfl, hb⟩
    have A7 := Lib.hid (A6.out.next hb)
    have B7 := Lib.hid (B6.out.next hb)
    have C7 := Lib.hid (C6.out.next hb)
    clear hb
    go_wp2_with fail
    refine (Q1.out _ (HR.out.below A7.out.below)).mono ?_
    rintro e w8 ⟨rfl, hb⟩
    have A8 := Lib.hid (A7.out.next hb)
    have B8 := Lib.hid (B7.out.next hb)
    have C8 := Lib.hid (C7.out.next hb)
    clear hb
    go_wp2_with fail
    refine (Q2.out _).mono ?_
    rintro e w9 ⟨rfl, hb⟩
    have A9 := Lib.hid (A8.out.next hb)
    have B9 := Lib.hid (B8.out.next hb)
    have C9 := Lib.hid (C8.out.next hb)
    clear hb
    have M1' := Lib.hid (fun (j : Nat) => M1.out (w9.drewN j) (HR.out.below (below_drewN A9.out.below j)))
    have a0 := cellOf A9.out.box 0
    have a1 := cellOf A9.out.box 1
    have a2 := cellOf A9.out.box 2
    have b0 := cellOf B9.out.box 0
    have b1 := cellOf B9.out.box 1
    have b2 := cellOf B9.out.box 2
    have c0 := cellOf C9.out.box 0
    have c1 := cellOf C9.out.box 1
    have c2 := cellOf C9.out.box 2
    go_wp2_with fail
    go_quiet ((first
      | (go_at_call 17; exact Calls.quiet_of_same (L1.out _))
      | (go_at_call 18; exact Calls.quiet_of_same (L2.out _))
      | (go_at_call 19; exact Calls.quiet_of_same (M1'.out _))
      | (go_at_call 20; exact Calls.quiet_of_same (M2.out _))))
    go_wp2_with fail
    go_ret
    exact ⟨rfl, below_drewN A9.out.below _⟩
end Go.Proofs.YtafbapmbhjkheaaDoor
