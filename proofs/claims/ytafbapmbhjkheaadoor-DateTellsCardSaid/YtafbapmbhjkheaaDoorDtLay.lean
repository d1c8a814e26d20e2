/-
  The walks of strings.Repeat of no text and of one, and of Print's closure.
-/
import Derived.Test.YtafbapmbhjkheaaDoorDtParse
import Derived.Test.YtafbapmbhjkheaaDoorPrMath
import Derived.Test.YtafbapmbhjkheaaDoorBuildStr
namespace Go.Proofs.YtafbapmbhjkheaaDoor
open Go.RowKit
set_option maxRecDepth 100000 in
set_option maxHeartbeats 1000000 in
theorem rep0_x (w : World) : Calls Tryd.prog 36 #[.string { data := #[48] }, .int .i64 0] w fun e w' => e = .returned (.string { data := #[] }) ∧ w = w' := by
  go_enter Tryd.func36, Tryd.ntmps36
  go_wp2_with fail
  go_ret
  exact ⟨rfl, rfl⟩
set_option maxRecDepth 100000 in
set_option maxHeartbeats 1000000 in
theorem rep1_x (w : World) : Calls Tryd.prog 36 #[.string { data := #[48] }, .int .i64 1] w fun e w' => e = .returned (.string { data := #[48] }) ∧ w = w' := by
  go_enter Tryd.func36, Tryd.ntmps36
  go_wp2_with fail
  go_ret
  exact ⟨rfl, rfl⟩
theorem itoa_small (n : Nat) (h : n < 100) (w : World) : Calls Tryd.prog 34 #[.int .i64 (n : Int)] w fun e w' => e = .returned (.string (mkS (Lib.decDigits n))) ∧ w = w' :=
  (Tryd.strconv_Itoa_small n h w).mono fun _ _ ⟨he, hw⟩ => ⟨he, hw.symm⟩
theorem itoa_big (n : Nat) (h : n < 100000) (w : World) (hR : Ready w) : Calls Tryd.prog 34 #[.int .i64 (n : Int)] w fun e w' => e = .returned (.string (mkS (Lib.decDigits n))) ∧ Below w.heap.size w w' :=
  (Tryd.strconv_Itoa n (by omega) (by omega) w hR.2).mono fun _ _ ⟨he, k, os, hw⟩ => ⟨by rw [he, Lib.itoa, if_neg (by omega)]; rfl, by rw [hw]; exact Lib.below_grow _ _ (Nat.le_refl _) _ _⟩
def LayPost (b : Nat) (l : List UInt8) (w : World) (e : Ending) (w' : World) : Prop := e = .returned (.tuple #[]) ∧ Bld b l w' ∧ Below b w w'
set_option maxHeartbeats 1000000 in
theorem lay2_x (b : Nat) (l behind : List UInt8) (n : Nat) (w : World) (hB : Bld b l w) (hl : l.length ≤ 1000) (hbl : behind.length ≤ 10) (hn : n < 100) :
    Calls Tryd.prog 33 #[.int .i64 (n : Int), .int .i64 2, .string (mkS behind), .pointer (some ⟨b, 0, none⟩)] w (LayPost b (l ++ b2 n ++ behind) w) := by
  have HB := Lib.hid hB
  have HI := Lib.hid (itoa_small n hn w)
  have hmd := mkS_size (Lib.decDigits n)
  by_cases h10 : n < 10
  · have HD := Lib.hid (dec_b2 h10)
    have hdl : (Lib.decDigits n).length = 1 := by rw [dec_1 h10]; rfl
    generalize Lib.decDigits n = d at HI hmd HD hdl
    rw [hdl] at hmd
    have HDL := Lib.hid hdl
    clear hB hdl
    go_enter Tryd.func33, Tryd.ntmps33
    go_wp2_with fail
    refine HI.out.mono ?_
    rintro e w' ⟨rfl, rfl⟩
    go_wp2_with fail
    refine (rep1_x _).mono ?_
    rintro e w' ⟨rfl, rfl⟩
    go_wp2_with fail
    refine (bld_str HB.out [48] (by simp; omega)).mono ?_
    rintro e w1 ⟨rfl, hb1, hw1⟩
    have HB1 := Lib.hid hb1
    have HW1 := Lib.hid hw1
    clear hb1 hw1
    go_wp2_with fail
    refine (bld_str HB1.out d (by rw [HDL.out]; simp; omega)).mono ?_
    rintro e w2 ⟨rfl, hb2, hw2⟩
    have HB2 := Lib.hid hb2
    have HW2 := Lib.hid (HW1.out.trans hw2)
    clear hb2 hw2
    go_wp2_with fail
    refine (bld_str HB2.out behind (by simp [HDL.out]; omega)).mono ?_
    rintro e w3 ⟨rfl, hb3, hw3⟩
    have HB3 := Lib.hid hb3
    have HW3 := Lib.hid (HW2.out.trans hw3)
    clear hb3 hw3
    go_wp2_with fail
    go_end0
    exact ⟨rfl, by have := HB3.out; rw [List.append_assoc l, HD.out] at this; exact this, HW3.out⟩
  · have HD := Lib.hid (dec_2 h10 hn)
    have hdl : (Lib.decDigits n).length = 2 := by rw [dec_2 h10 hn]; rfl
    generalize Lib.decDigits n = d at HI hmd HD hdl
    rw [hdl] at hmd
    have HDL := Lib.hid hdl
    clear hB hdl
    go_enter Tryd.func33, Tryd.ntmps33
    go_wp2_with fail
    refine HI.out.mono ?_
    rintro e w' ⟨rfl, rfl⟩
    go_wp2_with fail
    refine (rep0_x _).mono ?_
    rintro e w' ⟨rfl, rfl⟩
    go_wp2_with fail
    refine (bld_str HB.out [] (by simp; omega)).mono ?_
    rintro e w1 ⟨rfl, hb1, hw1⟩
    have HB1 := Lib.hid hb1
    have HW1 := Lib.hid hw1
    clear hb1 hw1
    go_wp2_with fail
    refine (bld_str HB1.out d (by rw [HDL.out]; simp; omega)).mono ?_
    rintro e w2 ⟨rfl, hb2, hw2⟩
    have HB2 := Lib.hid hb2
    have HW2 := Lib.hid (HW1.out.trans hw2)
    clear hb2 hw2
    go_wp2_with fail
    refine (bld_str HB2.out behind (by simp [HDL.out]; omega)).mono ?_
    rintro e w3 ⟨rfl, hb3, hw3⟩
    have HB3 := Lib.hid hb3
    have HW3 := Lib.hid (HW2.out.trans hw3)
    clear hb3 hw3
    go_wp2_with fail
    go_end0
    exact ⟨rfl, by have := HB3.out; rw [List.append_nil, HD.out] at this; exact this, HW3.out⟩
set_option maxHeartbeats 1000000 in
theorem lay4_x (b : Nat) (l behind : List UInt8) (n : Nat) (w : World) (hR : Ready w) (hB : Bld b l w) (hl : l.length ≤ 1000) (hbl : behind.length ≤ 10) (h1 : 1000 ≤ n) (h2 : n < 10000) :
    Calls Tryd.prog 33 #[.int .i64 (n : Int), .int .i64 4, .string (mkS behind), .pointer (some ⟨b, 0, none⟩)] w (LayPost b (l ++ b4 n ++ behind) w) := by
  have HB := Lib.hid hB
  have HI := Lib.hid (itoa_big n (by omega) w hR)
  have hmd := mkS_size (Lib.decDigits n)
  have HD := Lib.hid (dec_4 h1 h2)
  have hdl : (Lib.decDigits n).length = 4 := by rw [dec_4 h1 h2]; rfl
  generalize Lib.decDigits n = d at HI hmd HD hdl
  rw [hdl] at hmd
  have HDL := Lib.hid hdl
  have HBL := Lib.hid (Nat.le_of_lt hB.lt)
  clear hB hdl hR
  go_enter Tryd.func33, Tryd.ntmps33
  go_wp2_with fail
  refine HI.out.mono ?_
  rintro e w0 ⟨rfl, hw0⟩
  have HB0 := Lib.hid (HB.out.below hw0)
  have HW0 := Lib.hid (hw0.mono HBL.out)
  clear hw0
  go_wp2_with fail
  refine (rep0_x _).mono ?_
  rintro e w' ⟨rfl, rfl⟩
  go_wp2_with fail
  refine (bld_str HB0.out [] (by simp; omega)).mono ?_
  rintro e w1 ⟨rfl, hb1, hw1⟩
  have HB1 := Lib.hid hb1
  have HW1 := Lib.hid (HW0.out.trans hw1)
  clear hb1 hw1
  go_wp2_with fail
  refine (bld_str HB1.out d (by rw [HDL.out]; simp; omega)).mono ?_
  rintro e w2 ⟨rfl, hb2, hw2⟩
  have HB2 := Lib.hid hb2
  have HW2 := Lib.hid (HW1.out.trans hw2)
  clear hb2 hw2
  go_wp2_with fail
  refine (bld_str HB2.out behind (by simp [HDL.out]; omega)).mono ?_
  rintro e w3 ⟨rfl, hb3, hw3⟩
  have HB3 := Lib.hid hb3
  have HW3 := Lib.hid (HW2.out.trans hw3)
  clear hb3 hw3
  go_wp2_with fail
  go_end0
  exact ⟨rfl, by have := HB3.out; rw [List.append_nil, HD.out] at this; exact this, HW3.out⟩
end Go.Proofs.YtafbapmbhjkheaaDoor
