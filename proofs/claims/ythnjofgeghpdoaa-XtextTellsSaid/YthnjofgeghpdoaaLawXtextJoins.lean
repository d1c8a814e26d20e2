/-
  The walk of the law XtextJoins.
-/
import Derived.Test.YthnjofgeghpdoaaXtAwake
namespace Go.Proofs.Ythnjofgeghpdoaa
open Go.RowKit
theorem encode_cat (a b : List UInt8) (w : World) (h : (a ++ b).length ≤ 1000000000) :
    Calls Try.prog 12 #[.string (mkS a ++ mkS b)] w fun e w' => e = .returned (.string (mkS (encX (a ++ b)))) ∧ Below w.heap.size w w' := by
  rw [mkS_cat]; exact encode_x _ w h
theorem count_cat (a b : List UInt8) (w : World) (h : (a ++ b).length ≤ 1000000000) :
    Calls Try.prog 13 #[.string (mkS a ++ mkS b)] w fun e w' => e = .returned (.int .i64 (cntX (a ++ b) : Int)) ∧ w = w' := by
  rw [mkS_cat]; exact count_x _ w h
theorem decode_cat (a b : List UInt8) (w : World) (h : (a ++ b).length ≤ 1000000000) :
    Calls Try.prog 8 #[.string (mkS a ++ mkS b)] w (DecPost (a ++ b) w) := by
  rw [mkS_cat]; exact decode_x _ w h
theorem cat_ne (a b : List UInt8) : ((mkS (encX (a ++ b))).toList == (mkS (encX a) ++ mkS (encX b)).toList) = true := by
  rw [mkS_cat, encX_append]; simp
theorem cnt_cat (a b : List UInt8) : ((cntX (a ++ b) : Int) != (cntX a : Int) + (cntX b : Int)) = false := by
  unfold cntX
  rw [encX_append, List.length_append]
  simp
theorem decE_yes {l s : List UInt8} (h : decX l = some s) : decE l = 0 := by rw [decE, h]; rfl
theorem decE_no {l : List UInt8} (h : decX l = none) : decE l = 2 := by rw [decE, h]; rfl
theorem decS_yes {l s : List UInt8} (h : decX l = some s) : decS l = s := by rw [decS, h]; rfl
theorem decS_no {l : List UInt8} (h : decX l = none) : decS l = [] := by rw [decS, h]; rfl
theorem cat_eq (s t : List UInt8) : ((mkS (s ++ t)).toList == (mkS s ++ mkS t).toList) = true := by rw [mkS_cat]; simp
set_option maxRecDepth 100000 in
set_option maxHeartbeats 2000000 in
theorem xtextJoins_x (a b : List UInt8) (w : World) (ha : a.length ≤ 140737488355328) (hb : b.length ≤ 140737488355328) :
    Calls Try.prog 5 #[.string (mkS a), .string (mkS b)] w fun e w' => e = .returned (.bool true) ∧ Below w.heap.size w w' := by
  have hma := mkS_size a
  have hmb := mkS_size b
  have HA := Lib.hid (awake_x w)
  go_enter Try.func5, Try.ntmps5
  go_wp2_with fail
  refine HA.out.mono ?_
  rintro e w1 ⟨rfl, hb1⟩
  have HB1 := Lib.hid hb1
  clear hb1
  by_cases h1 : a.length ≤ 5000
  · have d1 : decide ((5000 : Int) < (a.length : Int)) = false := decide_eq_false (by omega)
    by_cases h2 : b.length ≤ 5000
    · have d2 : decide ((5000 : Int) < (b.length : Int)) = false := decide_eq_false (by omega)
      have hab : (a ++ b).length ≤ 10000 := by rw [List.length_append]; omega
      have hea := (encX_len a).2
      have heb := (encX_len b).2
      have hsa := mkS_size (encX a)
      have hsb := mkS_size (encX b)
      go_wp2_with fail
      refine (encode_cat a b _ (by omega)).mono ?_
      rintro e w2 ⟨rfl, hb2⟩
      have HB2 := Lib.hid (HB1.out.trans (hb2.mono HB1.out.size))
      clear hb2
      go_wp2_with fail
      refine (encode_x a _ (by omega)).mono ?_
      rintro e w3 ⟨rfl, hb3⟩
      have HB3 := Lib.hid (HB2.out.trans (hb3.mono HB2.out.size))
      clear hb3
      go_wp2_with fail
      refine (encode_x b _ (by omega)).mono ?_
      rintro e w4 ⟨rfl, hb4⟩
      have HB4 := Lib.hid (HB3.out.trans (hb4.mono HB3.out.size))
      clear hb4
      have hne := cat_ne a b
      have hcc := cnt_cat a b
      have hca : cntX a ≤ 15000 := by unfold cntX; omega
      have hcb : cntX b ≤ 15000 := by unfold cntX; omega
      go_wp2_with fail
      refine (count_cat a b _ (by omega)).mono ?_
      rintro e w5 ⟨rfl, rfl⟩
      go_wp2_with fail
      refine (count_x a _ (by omega)).mono ?_
      rintro e w5 ⟨rfl, rfl⟩
      go_wp2_with fail
      refine (count_x b _ (by omega)).mono ?_
      rintro e w5 ⟨rfl, rfl⟩
      go_wp2_with fail
      refine (decode_x a _ (by omega)).mono ?_
      rintro e w6 ⟨rfl, hb6⟩
      have HB6 := Lib.hid (HB4.out.trans (hb6.mono HB4.out.size))
      clear hb6
      cases hda : decX a with
      | none =>
        rw [decE_no hda]
        clear hda
        go_wp2_with fail
        refine (decode_x b _ (by omega)).mono ?_
        rintro e w7 ⟨rfl, hb7⟩
        have HB7 := Lib.hid (HB6.out.trans (hb7.mono HB6.out.size))
        clear hb7
        go_wp2_with fail
        go_ret
        exact ⟨rfl, HB7.out⟩
      | some s =>
        rw [decE_yes hda, decS_yes hda]
        have hls := decX_len _ a (Nat.le_refl _) hda
        have HDA := Lib.hid hda
        clear hda
        go_wp2_with fail
        refine (decode_x b _ (by omega)).mono ?_
        rintro e w7 ⟨rfl, hb7⟩
        have HB7 := Lib.hid (HB6.out.trans (hb7.mono HB6.out.size))
        clear hb7
        cases hdb : decX b with
        | none =>
          rw [decE_no hdb]
          clear hdb
          go_wp2_with fail
          go_ret
          exact ⟨rfl, HB7.out⟩
        | some t =>
          rw [decE_yes hdb, decS_yes hdb]
          have hlt := decX_len _ b (Nat.le_refl _) hdb
          have HDB := Lib.hid hdb
          clear hdb
          have HD : Hid (decX (a ++ b) = some (s ++ t)) := by
            have := decX_append _ a (Nat.le_refl _) HDA.out b
            rw [HDB.out] at this
            exact this
          have hst := cat_eq s t
          have hss := mkS_size s
          have hsz := mkS_size t
          go_wp2_with fail
          refine (decode_cat a b _ (by omega)).mono ?_
          rintro e w8 ⟨rfl, hb8⟩
          have HB8 := Lib.hid (HB7.out.trans (hb8.mono HB7.out.size))
          clear hb8
          rw [decE_yes HD.out, decS_yes HD.out]
          go_wp2_with fail
          go_ret
          exact ⟨rfl, HB8.out⟩
    · have d2 : decide ((5000 : Int) < (b.length : Int)) = true := decide_eq_true (by omega)
      go_wp2_with fail
      go_ret
      exact ⟨rfl, HB1.out⟩
  · have d1 : decide ((5000 : Int) < (a.length : Int)) = true := decide_eq_true (by omega)
    go_wp2_with fail
    go_ret
    exact ⟨rfl, HB1.out⟩
end Go.Proofs.Ythnjofgeghpdoaa
