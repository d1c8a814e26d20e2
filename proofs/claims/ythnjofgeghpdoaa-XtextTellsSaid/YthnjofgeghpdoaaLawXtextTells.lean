/-
  The walk of the law XtextTells.
-/
import Derived.Test.YthnjofgeghpdoaaLawXtextJoins
import Derived.Test.YthnjofgeghpdoaaXtRefDec
namespace Go.Proofs.Ythnjofgeghpdoaa
open Go.RowKit
set_option maxRecDepth 100000 in
set_option maxHeartbeats 2000000 in
theorem xtextTells_x (a b : List UInt8) (w : World) (ha : a.length ≤ 140737488355328) (hb : b.length ≤ 140737488355328) :
    Calls Try.prog 3 #[.string (mkS a), .string (mkS b)] w fun e w' => e = .returned (.bool true) ∧ Below w.heap.size w w' := by
  have hma := mkS_size a
  have hmb := mkS_size b
  have HA := Lib.hid (awake_x w)
  go_enter Try.func3, Try.ntmps3
  go_wp2_with fail
  refine HA.out.mono ?_
  rintro e w1 ⟨rfl, hb1⟩
  have HB1 := Lib.hid hb1
  clear hb1
  by_cases h1 : a.length ≤ 5000
  · have d1 : decide ((5000 : Int) < (a.length : Int)) = false := decide_eq_false (by omega)
    by_cases h2 : b.length ≤ 5000
    · have d2 : decide ((5000 : Int) < (b.length : Int)) = false := decide_eq_false (by omega)
      have hsl := decS_len b
      have hms := mkS_size (encX a)
      have hcx : (cntX a : Int) = ((encX a).length : Int) := rfl
      have HCX := Lib.hid hcx
      clear hcx
      go_wp2_with fail
      refine (decode_x b _ (by omega)).mono ?_
      rintro e w2 ⟨rfl, hb2⟩
      have HB2 := Lib.hid (below_next HB1.out hb2)
      clear hb2
      go_wp2_with fail
      refine (rdecode_x b _ (by omega)).mono ?_
      rintro e w3 ⟨rfl, hb3⟩
      have HB3 := Lib.hid (below_next HB2.out hb3)
      clear hb3
      go_wp2_with fail
      refine (canon_x b _ (by omega)).mono ?_
      rintro e w4 ⟨rfl, hb4⟩
      have HB4 := Lib.hid (below_next HB3.out hb4)
      clear hb4
      cases hd : decX b with
      | none =>
        rw [decE_no hd, decS_no hd, show canS b = [] by rw [canS, hd]; rfl]
        simp only [mkS_nil]
        clear hd
        go_wp2_with fail
        refine (encode_x a _ (by omega)).mono ?_
        rintro e w5 ⟨rfl, hb5⟩
        have HB5 := Lib.hid (below_next HB4.out hb5)
        clear hb5
        go_wp2_with fail
        refine (rencode_x a _ (by omega)).mono ?_
        rintro e w6 ⟨rfl, hb6⟩
        have HB6 := Lib.hid (below_next HB5.out hb6)
        clear hb6
        go_wp2_with fail
        refine (count_x a _ (by omega)).mono ?_
        rintro e w7 ⟨rfl, rfl⟩
        rw [HCX.out]
        go_wp2_with fail
        refine (rencode_x a _ (by omega)).mono ?_
        rintro e w7 ⟨rfl, hb7⟩
        have HB7 := Lib.hid (below_next HB6.out hb7)
        clear hb7
        go_wp2_with fail
        go_ret
        exact ⟨rfl, HB7.out⟩
      | some t =>
        rw [decE_yes hd, decS_yes hd, show canS b = encX t by rw [canS, decS, hd]; rfl]
        have htl := decX_len _ b (Nat.le_refl _) hd
        clear hd
        go_wp2_with fail
        refine (rencode_x t _ (by omega)).mono ?_
        rintro e w4b ⟨rfl, hb4⟩
        replace HB4 := Lib.hid (below_next HB4.out hb4)
        clear hb4
        go_wp2_with fail
        refine (encode_x a _ (by omega)).mono ?_
        rintro e w5 ⟨rfl, hb5⟩
        have HB5 := Lib.hid (below_next HB4.out hb5)
        clear hb5
        go_wp2_with fail
        refine (rencode_x a _ (by omega)).mono ?_
        rintro e w6 ⟨rfl, hb6⟩
        have HB6 := Lib.hid (below_next HB5.out hb6)
        clear hb6
        go_wp2_with fail
        refine (count_x a _ (by omega)).mono ?_
        rintro e w7 ⟨rfl, rfl⟩
        rw [HCX.out]
        go_wp2_with fail
        refine (rencode_x a _ (by omega)).mono ?_
        rintro e w7 ⟨rfl, hb7⟩
        have HB7 := Lib.hid (below_next HB6.out hb7)
        clear hb7
        go_wp2_with fail
        go_ret
        exact ⟨rfl, HB7.out⟩
    · have d2 : decide ((5000 : Int) < (b.length : Int)) = true := decide_eq_true (by omega)
      go_wp2_with fail
      go_ret
      exact ⟨rfl, HB1.out⟩
  · have d1 : decide ((5000 : Int) < (a.length : Int)) = true := decide_eq_true (by omega)
    go_wp2_with fail
    go_ret
    exact ⟨rfl, HB1.out⟩
end Go.Proofs.Ythnjofgeghpdoaa
