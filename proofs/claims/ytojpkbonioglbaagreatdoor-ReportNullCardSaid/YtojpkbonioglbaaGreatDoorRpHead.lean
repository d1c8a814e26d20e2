/-
  The walk of reply's head: what stands ahead of a line's text.
-/
import Derived.Test.YtojpkbonioglbaaGreatDoorRpEnh
import Derived.Test.YtojpkbonioglbaaGreatDoorShelf
import Derived.Test.YtojpkbonioglbaaGreatDoorMaBuild
import Derived.Lib.LaidTab
import Derived.Lib.AppendIntMem
namespace Go.Proofs.YtojpkbonioglbaaGreatDoor.R
set_option maxRecDepth 100000
open Go.RowKit
/-- The table of powers lies as the program's text lays it. -/
def Ready (w : World) : Prop := Lib.TabIs Tryz.prog w "internal/strconv.uint64pow10" .u64 Lib.pow10Tab
theorem gPow10 : Tryz.prog.globalNamed "internal/strconv.uint64pow10" = some 0 := by kernel_rfl
theorem ready_below {w w' : World} (h : Ready w) (hb : Below w.heap.size w w') : Ready w' := Lib.tabBelow_of_tabIs h w' hb
def I64 (n : Int) : Prop := -9223372036854775808 ≤ n ∧ n ≤ 9223372036854775807
/-- A reply's numbers are such as the machine has. -/
structure RI (c : Int) (e : E3) : Prop where
  c : I64 c
  a : I64 e.1
  b : I64 e.2.1
  d : I64 e.2.2
theorem itoa_len {n : Int} (h : I64 n) : (Lib.itoa n).length ≤ 21 := by
  obtain ⟨h1, h2⟩ := h
  by_cases hn : n < 0
  · rw [Lib.itoa, if_pos hn, List.length_cons]
    have := (dd_all 19 n.natAbs (by omega)).2.1
    omega
  · rw [Lib.itoa, if_neg hn]
    have := (dd_all 19 n.toNat (by omega)).2.1
    omega
theorem itoa_x (n : Int) (h : I64 n) (w : World) (hR : Ready w) : Calls Tryz.prog 22 #[.int .i64 n] w fun e w' => e = .returned (.string (mkS (Lib.itoa n))) ∧ Below w.heap.size w w' :=
  (Tryz.strconv_Itoa n h.1 h.2 w hR).mono fun _ _ ⟨he, k, os, hw⟩ => ⟨he, by rw [hw]; exact Lib.below_grow _ _ (Nat.le_refl _) _ _⟩
/-- What stands ahead of a line's text, behind j of the enhanced code's numbers. -/
def hdT (c : Int) (e : E3) (s : Txt) : Nat → Txt
  | 0 => Lib.itoa c ++ s
  | 1 => Lib.itoa c ++ s ++ Lib.itoa e.1
  | 2 => Lib.itoa c ++ s ++ Lib.itoa e.1 ++ [46] ++ Lib.itoa e.2.1
  | _ => Lib.itoa c ++ s ++ Lib.itoa e.1 ++ [46] ++ Lib.itoa e.2.1 ++ [46] ++ Lib.itoa e.2.2
theorem hd_no {c : Int} {e : E3} {s : UInt8} (h : rpHas e = false) : Lib.itoa c ++ [s] = rpHead c e s := by rw [rpHead, rpWord, h]; rfl
theorem hd_yes {c : Int} {e : E3} {s : UInt8} (h : rpHas e = true) : hdT c e [s] 3 ++ [32] = rpHead c e s := by rw [rpHead, rpWord, h]; simp [hdT]
theorem head_len {c : Int} {e : E3} (s : UInt8) (h : RI c e) : (rpHead c e s).length ≤ 100 := by
  have h1 := itoa_len h.c
  have h2 := itoa_len h.a
  have h3 := itoa_len h.b
  have h4 := itoa_len h.d
  rw [rpHead, rpWord]
  split
  · simp; omega
  · simp; omega
theorem hd_len {c : Int} {e : E3} {j : Nat} (h : RI c e) (s : Txt) (hs : s.length ≤ 1) : (hdT c e s j).length ≤ 100 := by
  have h1 := itoa_len h.c
  have h2 := itoa_len h.a
  have h3 := itoa_len h.b
  have h4 := itoa_len h.d
  unfold hdT
  split <;> (simp; omega)
theorem Tryz.idxE (a b c : Int) (w : World) : (Instr.index 35 (.agg #[.int .i64 a, .int .i64 b, .int .i64 c]) (.int .i64 0)).run Tryz.prog w = .ok (.int .i64 a) w ∧
    (Instr.index 35 (.agg #[.int .i64 a, .int .i64 b, .int .i64 c]) (.int .i64 1)).run Tryz.prog w = .ok (.int .i64 b) w ∧
    (Instr.index 35 (.agg #[.int .i64 a, .int .i64 b, .int .i64 c]) (.int .i64 2)).run Tryz.prog w = .ok (.int .i64 c) w := by
  have a3 := Tryz.isAgg3
  have z3 := Tryz.sizeOf3
  refine ⟨?_, ?_, ?_⟩ <;> simp [Instr.index, run_underlying Tryz.underlying35, asIntOf, part, a3, z3, go_sem]
set_option maxHeartbeats 2000000 in
theorem head_x (c : Int) (e : E3) (v : Value) (s : UInt8) (h : RI c e) (w : World) (hR : Ready w) :
    Calls Tryz.prog 62 #[RV c e v, .string (mkS [s])] w fun x w' => x = .returned (.string (mkS (rpHead c e s))) ∧ Below w.heap.size w w' := by
  have HI := Lib.hid (fun (n : Int) (h : I64 n) (w : World) (hR : Ready w) => itoa_x n h w hR)
  have HH := Lib.hid (fun w => has_x c e v w)
  have HRI := Lib.hid h
  have HB := Lib.hid (below_box w (.cells #[.int .i64 c, .int .i64 e.1, .int .i64 e.2.1, .int .i64 e.2.2, v] 37))
  have HR := Lib.hid (ready_below hR HB.out)
  have HX := Lib.hid (newOf w (.cells #[.int .i64 c, .int .i64 e.1, .int .i64 e.2.1, .int .i64 e.2.2, v] 37))
  have hs1 : (mkS [s]).size = 1 := mkS_size [s]
  have hl := itoa_len h.c
  have hcat := mkS_cat (Lib.itoa c) [s]
  have hcz := mkS_size (Lib.itoa c)
  have hcs := mkS_size (Lib.itoa c ++ [s])
  have HLc := Lib.hid (show (Lib.itoa c ++ [s]).length = (Lib.itoa c).length + 1 by simp)
  clear h hR
  go_enter Tryz.func62, Tryz.ntmps62
  go_wp2_with fail
  refine (HI.out _ HRI.out.c _ HR.out).mono ?_
  rintro x w1 ⟨rfl, hb1⟩
  have HB1 := Lib.hid (HB.out.trans (hb1.mono (by simp)))
  have HX1 := Lib.hid ((hb1.block _ (ltOf HX.out)).trans HX.out)
  have HR1 := Lib.hid (ready_below HR.out hb1)
  clear hb1
  have k0 := cellOf HX1.out 0
  have k1 := cellOf HX1.out 1
  have k2 := cellOf HX1.out 2
  have k3 := cellOf HX1.out 3
  have k4 := cellOf HX1.out 4
  go_wp2_with fail
  refine (HH.out _).mono ?_
  rintro x w2 ⟨rfl, hb2⟩
  have HB2 := Lib.hid (below_next HB1.out hb2)
  have HX2 := Lib.hid ((hb2.block _ (ltOf HX1.out)).trans HX1.out)
  have HR2 := Lib.hid (ready_below HR1.out hb2)
  clear hb2 k0 k1 k2 k3 k4
  cases hh : rpHas e
  · have HE := Lib.hid (hd_no (c := c) (s := s) hh)
    clear hh
    go_wp2_with fail
    go_ret
    exact ⟨ret_str (congrArg mkS HE.out), HB2.out⟩
  · have HE := Lib.hid (hd_yes (c := c) (s := s) hh)
    clear hh
    have k1 := cellOf HX2.out 1
    have k2 := cellOf HX2.out 2
    have k3 := cellOf HX2.out 3
    have h0 : (hdT c e [s] 0) = Lib.itoa c ++ [s] := rfl
    go_wp2_with fail
    clear k1 k2 k3
    go_loopw [19, 5] (fun i t wr => ∃ j : Nat, j ≤ 3 ∧ i = .int .i64 j ∧ t = .string (mkS (hdT c e [s] j)) ∧ Hid (Ready wr) ∧ Hid (Below w.heap.size w wr)) (fun i _ _ => 3 - (intOf i).toNat)
    case atStart => exact ⟨0, Nat.zero_le _, rfl, rfl, HR2, HB2⟩
    case round =>
      obtain ⟨j, hj, rfl, rfl, HRr, HBr⟩ := hrel
      rcases (show j = 0 ∨ j = 1 ∨ j = 2 ∨ j = 3 by omega) with rfl | rfl | rfl | rfl
      · have HT := Lib.hid (show hdT c e [s] 1 = hdT c e [s] 0 ++ Lib.itoa e.1 by simp [hdT])
        have HTL := hd_len (j := 0) HRI.out [s] (by simp)
        have hz := mkS_size (Lib.itoa e.1)
        have hzl := itoa_len HRI.out.a
        generalize hdT c e [s] 0 = T at HT HTL
        have hT := mkS_size T
        have p4 := mkS_cat T (Lib.itoa e.1)
        have p5 := mkS_size (T ++ Lib.itoa e.1)
        have p6 : (T ++ Lib.itoa e.1).length = T.length + (Lib.itoa e.1).length := List.length_append
        have hix := (Tryz.idxE e.1 e.2.1 e.2.2 wr).1
        go_wp2_with fail
        refine (HI.out _ HRI.out.a _ HRr.out).mono ?_
        rintro x w3 ⟨rfl, hb3⟩
        have HB3 := Lib.hid (below_next HBr.out hb3)
        have HR3 := Lib.hid (ready_below HRr.out hb3)
        clear hb3
        go_wp2_with fail
        go_roundw
        case rel => exact ⟨1, by omega, by go_num, by rw [HT.out], HR3, HB3⟩
        case measure => simp [intOf]
      · have HT := Lib.hid (show hdT c e [s] 2 = hdT c e [s] 1 ++ [46] ++ Lib.itoa e.2.1 from rfl)
        have HTL := hd_len (j := 1) HRI.out [s] (by simp)
        have hz := mkS_size (Lib.itoa e.2.1)
        have hzl := itoa_len HRI.out.b
        generalize hdT c e [s] 1 = T at HT HTL
        have hT := mkS_size T
        have p1 := mkS_cat (T) [46]
        have p2 := mkS_size (T ++ [46])
        have p3 : (T ++ [46]).length = T.length + 1 := by simp
        have p4 := mkS_cat (T ++ [46]) (Lib.itoa e.2.1)
        have p5 := mkS_size ((T ++ [46]) ++ Lib.itoa e.2.1)
        have p6 : ((T ++ [46]) ++ Lib.itoa e.2.1).length = (T ++ [46]).length + (Lib.itoa e.2.1).length := List.length_append
        have hix := (Tryz.idxE e.1 e.2.1 e.2.2 wr).2.1
        go_wp2_with fail
        refine (HI.out _ HRI.out.b _ HRr.out).mono ?_
        rintro x w3 ⟨rfl, hb3⟩
        have HB3 := Lib.hid (below_next HBr.out hb3)
        have HR3 := Lib.hid (ready_below HRr.out hb3)
        clear hb3
        go_wp2_with fail
        go_roundw
        case rel => exact ⟨2, by omega, by go_num, by rw [HT.out]; exact congrArg Value.string ((congrArg (· ++ mkS (Lib.itoa e.2.1)) p1).trans p4), HR3, HB3⟩
        case measure => simp [intOf]
      · have HT := Lib.hid (show hdT c e [s] 3 = hdT c e [s] 2 ++ [46] ++ Lib.itoa e.2.2 from rfl)
        have HTL := hd_len (j := 2) HRI.out [s] (by simp)
        have hz := mkS_size (Lib.itoa e.2.2)
        have hzl := itoa_len HRI.out.d
        generalize hdT c e [s] 2 = T at HT HTL
        have hT := mkS_size T
        have p1 := mkS_cat (T) [46]
        have p2 := mkS_size (T ++ [46])
        have p3 : (T ++ [46]).length = T.length + 1 := by simp
        have p4 := mkS_cat (T ++ [46]) (Lib.itoa e.2.2)
        have p5 := mkS_size ((T ++ [46]) ++ Lib.itoa e.2.2)
        have p6 : ((T ++ [46]) ++ Lib.itoa e.2.2).length = (T ++ [46]).length + (Lib.itoa e.2.2).length := List.length_append
        have hix := (Tryz.idxE e.1 e.2.1 e.2.2 wr).2.2
        go_wp2_with fail
        refine (HI.out _ HRI.out.d _ HRr.out).mono ?_
        rintro x w3 ⟨rfl, hb3⟩
        have HB3 := Lib.hid (below_next HBr.out hb3)
        have HR3 := Lib.hid (ready_below HRr.out hb3)
        clear hb3
        go_wp2_with fail
        go_roundw
        case rel => exact ⟨3, by omega, by go_num, by rw [HT.out]; exact congrArg Value.string ((congrArg (· ++ mkS (Lib.itoa e.2.2)) p1).trans p4), HR3, HB3⟩
        case measure => simp [intOf]
      · have HT := Lib.hid HE.out
        have HTL := hd_len (j := 3) HRI.out [s] (by simp)
        generalize hdT c e [s] 3 = T at HT HTL
        have hT := mkS_size T
        have p1 := mkS_cat T [32]
        have p2 := mkS_size (T ++ [32])
        have p3 : (T ++ [32]).length = T.length + 1 := by simp
        go_wp2_with fail
        go_ret
        exact ⟨ret_str (congrArg mkS HT.out), HBr.out⟩
end Go.Proofs.YtojpkbonioglbaaGreatDoor.R
