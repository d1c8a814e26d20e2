/-
  The walk of awake (stage 3).
-/
import Derived.Test.YtafbapmbhjkheaaDoorDtPrint
namespace Go.Proofs.YtafbapmbhjkheaaDoor
open Go.RowKit
theorem vld_a : Vld 2000 3 1 := vldB_iff.1 (by decide +kernel)
theorem vld_b : Vld 2000 2 29 := vldB_iff.1 (by decide +kernel)
def litA : List UInt8 := [50, 48, 48, 48, 45, 48, 51, 45, 48, 49, 84, 48, 48, 58, 48, 48, 58, 48, 48, 43, 48, 49, 58, 48, 48]
def litB : List UInt8 := [50, 48, 48, 49, 45, 48, 50, 45, 50, 57, 84, 48, 48, 58, 48, 48, 58, 48, 48, 90]
theorem print_lit : printS 951865200 = [50, 48, 48, 48, 45, 48, 50, 45, 50, 57, 84, 50, 51, 58, 48, 48, 58, 48, 48, 90] ∧ printE 951865200 = 0 := by
  have e : (951865200 : Int) / 86400 = numD 2000 2 29 := by decide +kernel
  unfold printS printX
  rw [e, ofD_num vld_b]
  decide +kernel
theorem days1_x (w : World) (hR : Ready w) : Calls Tryd.prog 9 #[.agg #[.int .i64 2000, .int .i64 3, .int .i64 1]] w fun e w' => e = .returned (.tuple #[.int .i64 11017, .int .i64 0]) ∧ Below w.heap.size w w' :=
  (days_x 2000 3 1 w hR).mono fun e w' ⟨he, hb⟩ => ⟨by rw [he, show daysV 2000 3 1 = 11017 by decide +kernel, show daysE 2000 3 1 = 0 by decide +kernel], hb⟩
theorem of2_x (w : World) (hR : Ready w) : Calls Tryd.prog 11 #[.int .i64 11017] w fun e w' => e = .returned (.tuple #[.agg #[.int .i64 2000, .int .i64 3, .int .i64 1], .int .i64 0]) ∧ Below w.heap.size w w' :=
  (of_x 11017 w hR).mono fun e w' ⟨he, hb⟩ => ⟨by rw [he, ofV_yes vld_a (by decide +kernel)], hb⟩
theorem parse3_x (w : World) (hR : Ready w) : Calls Tryd.prog 13 #[.string { data := #[50, 48, 48, 48, 45, 48, 51, 45, 48, 49, 84, 48, 48, 58, 48, 48, 58, 48, 48, 43, 48, 49, 58, 48, 48] }] w fun e w' => e = .returned (.tuple #[.int .i64 951865200, .int .i64 0]) ∧ Below w.heap.size w w' :=
  (parse_x litA w (by decide) hR).mono fun e w' ⟨he, hb⟩ => ⟨by rw [he, show parseV litA = 951865200 by decide +kernel, show parseE litA = 0 by decide +kernel], hb⟩
theorem print4_x (w : World) (hR : Ready w) : Calls Tryd.prog 15 #[.int .i64 951865200] w fun e w' => e = .returned (.tuple #[.string { data := #[50, 48, 48, 48, 45, 48, 50, 45, 50, 57, 84, 50, 51, 58, 48, 48, 58, 48, 48, 90] }, .int .i64 0]) ∧ Below w.heap.size w w' :=
  (print_x 951865200 w hR).mono fun e w' ⟨he, hb⟩ => ⟨by rw [he, print_lit.1, print_lit.2]; rfl, hb⟩
theorem parse5_x (w : World) (hR : Ready w) : Calls Tryd.prog 13 #[.string { data := #[120] }] w fun e w' => e = .returned (.tuple #[.int .i64 0, .int .i64 2]) ∧ Below w.heap.size w w' :=
  (parse_x [120] w (by decide) hR).mono fun e w' ⟨he, hb⟩ => ⟨by rw [he, show parseV [120] = 0 by decide +kernel, show parseE [120] = 2 by decide +kernel], hb⟩
theorem parse6_x (w : World) (hR : Ready w) : Calls Tryd.prog 13 #[.string { data := #[50, 48, 48, 49, 45, 48, 50, 45, 50, 57, 84, 48, 48, 58, 48, 48, 58, 48, 48, 90] }] w fun e w' => e = .returned (.tuple #[.int .i64 0, .int .i64 1]) ∧ Below w.heap.size w w' :=
  (parse_x litB w (by decide) hR).mono fun e w' ⟨he, hb⟩ => ⟨by rw [he, show parseV litB = 0 by decide +kernel, show parseE litB = 1 by decide +kernel], hb⟩
theorem leap7_x (w : World) : Calls Tryd.prog 17 #[.int .i64 2000] w fun e w' => e = .returned (.bool true) ∧ w = w' := leap_x 2000 w
theorem len8_x (w : World) (hR : Ready w) : Calls Tryd.prog 19 #[.int .i64 1999, .int .i64 2] w fun e w' => e = .returned (.int .i64 28) ∧ w = w' :=
  (len_x 1999 2 w hR).mono fun e w' ⟨he, hb⟩ => ⟨by rw [he, show dimD 1999 2 = 28 by decide +kernel], hb⟩
/-- A date in its box, behind what stood. -/
structure AW (w0 w2 : World) (y m d : Int) (w : World) : Prop where
  box : w.heap[w2.heap.size]? = some (.cells #[.int .i64 y, .int .i64 m, .int .i64 d] 23 (0, 0))
  below : Below w0.heap.size w0 w
theorem aw_new {w0 w2 : World} (h : Below w0.heap.size w0 w2) (y m d : Int) : AW w0 w2 y m d (w2.alloc (.cells #[.int .i64 y, .int .i64 m, .int .i64 d] 23)) :=
  ⟨newOf w2 _, h.alloc h.size _⟩
theorem AW.next {w0 w2 w w' : World} {y m d : Int} (h : AW w0 w2 y m d w) (hb : Below w.heap.size w w') : AW w0 w2 y m d w' :=
  ⟨(hb.block _ (ltOf h.box)).trans h.box, below_next h.below hb⟩
set_option maxHeartbeats 4000000 in
theorem awake_x (w : World) (hR0 : Ready w) : Calls Tryd.prog 8 #[] w fun e w' => e = .returned (.bool true) ∧ Below w.heap.size w w' := by
  have HR := Lib.hid hR0
  clear hR0
  go_enter Tryd.func8, Tryd.ntmps8
  go_wp2_with fail
  refine (days1_x _ HR.out).mono ?_
  rintro e w1 ⟨rfl, hb⟩
  have HB1 := Lib.hid hb
  clear hb
  go_wp2_with fail
  refine (of2_x _ (HR.out.below HB1.out)).mono ?_
  rintro e w2 ⟨rfl, hb⟩
  have HB2 := Lib.hid (below_next HB1.out hb)
  clear hb
  go_wp2_with fail
  have A2 := Lib.hid (aw_new HB2.out 2000 3 1)
  refine (parse3_x _ (HR.out.below A2.out.below)).mono ?_
  rintro e w3 ⟨rfl, hb⟩
  have A3 := Lib.hid (A2.out.next hb)
  clear hb
  go_wp2_with fail
  refine (print4_x _ (HR.out.below A3.out.below)).mono ?_
  rintro e w4 ⟨rfl, hb⟩
  have A4 := Lib.hid (A3.out.next hb)
  clear hb
  go_wp2_with fail
  refine (parse5_x _ (HR.out.below A4.out.below)).mono ?_
  rintro e w5 ⟨rfl, hb⟩
  have A5 := Lib.hid (A4.out.next hb)
  clear hb
  go_wp2_with fail
  refine (parse6_x _ (HR.out.below A5.out.below)).mono ?_
  rintro e w6 ⟨rfl, hb⟩
  have A6 := Lib.hid (A5.out.next hb)
  clear hb
  have hc0 := cellOf A6.out.box 0
  have hc1 := cellOf A6.out.box 1
  have hc2 := cellOf A6.out.box 2
  go_wp2_with fail
  refine (leap7_x _).mono ?_
  rintro e w' ⟨rfl, rfl⟩
  go_wp2_with fail
  refine (len8_x _ (HR.out.below A6.out.below)).mono ?_
  rintro e w' ⟨rfl, rfl⟩
  go_wp2_with fail
  go_ret
  exact ⟨rfl, A6.out.below⟩
end Go.Proofs.YtafbapmbhjkheaaDoor
