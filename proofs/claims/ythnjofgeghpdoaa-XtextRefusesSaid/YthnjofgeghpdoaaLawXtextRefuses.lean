/-
  The walk of the law XtextRefuses.
-/
import Derived.Test.YthnjofgeghpdoaaLawXtextJoins
import Derived.Test.YthnjofgeghpdoaaBytes
namespace Go.Proofs.Ythnjofgeghpdoaa
open Go.RowKit
theorem dec_behind (a : List UInt8) {r : List UInt8} (h : decX r = none) : decX (encX a ++ r) = none := by rw [decX_enc, h]; rfl
theorem dec_bad {b : UInt8} (h : b.toNat < 33 ∨ 126 < b.toNat ∨ b = 61) (r : List UInt8) : decX (b :: r) = none := by
  refine decX_bad ?_ ?_ r
  · rcases h with h | h | rfl
    · simp [plainX]; omega
    · simp [plainX]; omega
    · decide
  · rintro rfl
    rcases h with h | h | h <;> revert h <;> decide
theorem decode_no (l : List UInt8) (w : World) (h : decX l = none) (hl : l.length ≤ 1000000000) :
    Calls Try.prog 8 #[.string (mkS l)] w fun e w' => e = .returned (.tuple #[.string { data := #[] }, .int .i64 2]) ∧ Below w.heap.size w w' :=
  (decode_x l w hl).mono fun e w' ⟨he, hb⟩ => ⟨by rw [he, decS, decE, h]; rfl, hb⟩
theorem decode_no2 (x r : List UInt8) (w : World) (h : decX (x ++ r) = none) (hl : (x ++ r).length ≤ 1000000000) :
    Calls Try.prog 8 #[.string (mkS x ++ mkS r)] w fun e w' => e = .returned (.tuple #[.string { data := #[] }, .int .i64 2]) ∧ Below w.heap.size w w' := by
  rw [mkS_cat]; exact decode_no _ w h hl
theorem decode_no3 (x m y : List UInt8) (w : World) (h : decX (x ++ (m ++ y)) = none) (hl : (x ++ (m ++ y)).length ≤ 1000000000) :
    Calls Try.prog 8 #[.string (mkS x ++ mkS m ++ mkS y)] w fun e w' => e = .returned (.tuple #[.string { data := #[] }, .int .i64 2]) ∧ Below w.heap.size w w' := by
  rw [mkS_cat, mkS_cat, List.append_assoc]; exact decode_no _ w h hl
theorem ref_one (a : List UInt8) : decX (encX a ++ [43]) = none := dec_behind a decX_mark0
theorem ref_two (a : List UInt8) : decX (encX a ++ [43, 52]) = none := dec_behind a (decX_mark1 52)
theorem ref_small (a y : List UInt8) : decX (encX a ++ ([43, 52, 97] ++ y)) = none := dec_behind a (by
  show decX (43 :: 52 :: 97 :: y) = none
  rw [decX_mark, if_neg (by decide)])
theorem ref_G (a y : List UInt8) : decX (encX a ++ ([43, 71, 48] ++ y)) = none := dec_behind a (by
  show decX (43 :: 71 :: 48 :: y) = none
  rw [decX_mark, if_neg (by decide)])
set_option maxRecDepth 100000 in
set_option maxHeartbeats 2000000 in
/-- What stands behind the one byte. -/
theorem xtextRefuses_x (a b : List UInt8) (bad : UInt8) (w : World) (ha : a.length ≤ 140737488355328) (hb : b.length ≤ 140737488355328) :
    Calls Try.prog 6 #[.string (mkS a), .string (mkS b), .int .u8 (bad.toNat : Int)] w fun e w' => e = .returned (.bool true) ∧ Below w.heap.size w w' := by
  have hma := mkS_size a
  have hmb := mkS_size b
  have HA := Lib.hid (awake_x w)
  go_enter Try.func6, Try.ntmps6
  go_wp2_with fail
  refine HA.out.mono ?_
  rintro e w1 ⟨rfl, hb1⟩
  have HB1 := Lib.hid hb1
  clear hb1
  by_cases h1 : a.length ≤ 5000
  · have d1 : decide ((5000 : Int) < (a.length : Int)) = false := decide_eq_false (by omega)
    by_cases h2 : b.length ≤ 5000
    · have d2 : decide ((5000 : Int) < (b.length : Int)) = false := decide_eq_false (by omega)
      have hea := (encX_len a).2
      have heb := (encX_len b).2
      have hsa := mkS_size (encX a)
      have hsb := mkS_size (encX b)
      go_wp2_with fail
      refine (encode_x a _ (by omega)).mono ?_
      rintro e w2 ⟨rfl, hb2⟩
      have HB2 := Lib.hid (HB1.out.trans (hb2.mono HB1.out.size))
      clear hb2
      go_wp2_with fail
      refine (encode_x b _ (by omega)).mono ?_
      rintro e w3 ⟨rfl, hb3⟩
      have HB3 := Lib.hid (HB2.out.trans (hb3.mono HB2.out.size))
      clear hb3
      have R1 := Lib.hid (ref_one a)
      have R2 := Lib.hid (ref_two a)
      have R3 := Lib.hid (ref_small a (encX b))
      have R4 := Lib.hid (ref_G a (encX b))
      have RB := Lib.hid (fun (h : bad.toNat < 33 ∨ 126 < bad.toNat ∨ bad = 61) => dec_behind a (dec_bad h (encX b)))
      generalize encX a = x at R1 R2 R3 R4 RB hsa hea
      generalize encX b = y at R3 R4 RB hsb heb
      have hb256 := bad.toNat_lt
      have H2 := Lib.hid (fun W => decode_no2 x [43] W R1.out (by rw [List.length_append]; simp; omega))
      have H3 := Lib.hid (fun W => decode_no2 x [43, 52] W R2.out (by rw [List.length_append]; simp; omega))
      have H4 := Lib.hid (fun W => decode_no3 x [43, 52, 97] y W R3.out (by rw [List.length_append, List.length_append]; simp; omega))
      have H5 := Lib.hid (fun W => decode_no3 x [43, 71, 48] y W R4.out (by rw [List.length_append, List.length_append]; simp; omega))
      have HB := Lib.hid (fun (h : bad.toNat < 33 ∨ 126 < bad.toNat ∨ bad = 61) W => decode_no3 x [bad] y W (RB.out h) (by rw [List.length_append, List.length_append]; simp; omega))
      clear R1 R2 R3 R4 RB
      by_cases hbad : bad.toNat < 33 ∨ 126 < bad.toNat ∨ bad = 61
      · have hcv := conv_new w3 bad _ rfl
        have hm1 := mkS_size [bad]
        by_cases b1 : bad.toNat < 33
        · have c1 : decide ((bad.toNat : Int) < 33) = true := decide_eq_true (by omega)
          have HB' := Lib.hid (HB.out hbad)
          clear HB hbad
          go_wp2_with fail
          refine (HB'.out _).mono ?_
          rintro e w3b ⟨rfl, hb3⟩
          replace HB3 := Lib.hid (below_fresh HB3.out hb3)
          clear hb3 hcv
          go_wp2_with fail
          refine (H2.out _).mono ?_
          rintro e w4 ⟨rfl, hb4⟩
          have HB4 := Lib.hid (HB3.out.trans (hb4.mono HB3.out.size))
          clear hb4
          go_wp2_with fail
          refine (H3.out _).mono ?_
          rintro e w5 ⟨rfl, hb5⟩
          have HB5 := Lib.hid (HB4.out.trans (hb5.mono HB4.out.size))
          clear hb5
          go_wp2_with fail
          refine (H4.out _).mono ?_
          rintro e w6 ⟨rfl, hb6⟩
          have HB6 := Lib.hid (HB5.out.trans (hb6.mono HB5.out.size))
          clear hb6
          go_wp2_with fail
          refine (H5.out _).mono ?_
          rintro e w7 ⟨rfl, hb7⟩
          have HB7 := Lib.hid (HB6.out.trans (hb7.mono HB6.out.size))
          clear hb7
          go_wp2_with fail
          go_ret
          exact ⟨rfl, HB7.out⟩
        · by_cases b2 : 126 < bad.toNat
          · have c1 : decide ((bad.toNat : Int) < 33) = false := decide_eq_false (by omega)
            have c2 : decide ((126 : Int) < (bad.toNat : Int)) = true := decide_eq_true (by omega)
            have HB' := Lib.hid (HB.out hbad)
            clear HB hbad
            go_wp2_with fail
            refine (HB'.out _).mono ?_
            rintro e w3b ⟨rfl, hb3⟩
            replace HB3 := Lib.hid (below_fresh HB3.out hb3)
            clear hb3 hcv
            go_wp2_with fail
            refine (H2.out _).mono ?_
            rintro e w4 ⟨rfl, hb4⟩
            have HB4 := Lib.hid (HB3.out.trans (hb4.mono HB3.out.size))
            clear hb4
            go_wp2_with fail
            refine (H3.out _).mono ?_
            rintro e w5 ⟨rfl, hb5⟩
            have HB5 := Lib.hid (HB4.out.trans (hb5.mono HB4.out.size))
            clear hb5
            go_wp2_with fail
            refine (H4.out _).mono ?_
            rintro e w6 ⟨rfl, hb6⟩
            have HB6 := Lib.hid (HB5.out.trans (hb6.mono HB5.out.size))
            clear hb6
            go_wp2_with fail
            refine (H5.out _).mono ?_
            rintro e w7 ⟨rfl, hb7⟩
            have HB7 := Lib.hid (HB6.out.trans (hb7.mono HB6.out.size))
            clear hb7
            go_wp2_with fail
            go_ret
            exact ⟨rfl, HB7.out⟩
          · have b3 : bad = 61 := by
              rcases hbad with h | h | h
              · exact absurd h b1
              · exact absurd h b2
              · exact h
            have c1 : decide ((bad.toNat : Int) < 33) = false := decide_eq_false (by omega)
            have c2 : decide ((126 : Int) < (bad.toNat : Int)) = false := decide_eq_false (by omega)
            have c3 : ((bad.toNat : Int) == 61) = true := by rw [b3]; rfl
            have HB' := Lib.hid (HB.out hbad)
            clear HB hbad b3
            go_wp2_with fail
            refine (HB'.out _).mono ?_
            rintro e w3b ⟨rfl, hb3⟩
            replace HB3 := Lib.hid (below_fresh HB3.out hb3)
            clear hb3 hcv
            go_wp2_with fail
            refine (H2.out _).mono ?_
            rintro e w4 ⟨rfl, hb4⟩
            have HB4 := Lib.hid (HB3.out.trans (hb4.mono HB3.out.size))
            clear hb4
            go_wp2_with fail
            refine (H3.out _).mono ?_
            rintro e w5 ⟨rfl, hb5⟩
            have HB5 := Lib.hid (HB4.out.trans (hb5.mono HB4.out.size))
            clear hb5
            go_wp2_with fail
            refine (H4.out _).mono ?_
            rintro e w6 ⟨rfl, hb6⟩
            have HB6 := Lib.hid (HB5.out.trans (hb6.mono HB5.out.size))
            clear hb6
            go_wp2_with fail
            refine (H5.out _).mono ?_
            rintro e w7 ⟨rfl, hb7⟩
            have HB7 := Lib.hid (HB6.out.trans (hb7.mono HB6.out.size))
            clear hb7
            go_wp2_with fail
            go_ret
            exact ⟨rfl, HB7.out⟩
      · obtain ⟨b1, b2, b3⟩ : ¬ bad.toNat < 33 ∧ ¬ 126 < bad.toNat ∧ bad ≠ 61 := ⟨fun h => hbad (.inl h), fun h => hbad (.inr (.inl h)), fun h => hbad (.inr (.inr h))⟩
        have c1 : decide ((bad.toNat : Int) < 33) = false := decide_eq_false (by omega)
        have c2 : decide ((126 : Int) < (bad.toNat : Int)) = false := decide_eq_false (by omega)
        have c3 : ((bad.toNat : Int) == 61) = false := Bool.eq_false_iff.2 fun e => b3 ((byte_eq (n := 61) (by decide)).1 e)
        clear hbad b3 HB
        go_wp2_with fail
        refine (H2.out _).mono ?_
        rintro e w4 ⟨rfl, hb4⟩
        have HB4 := Lib.hid (HB3.out.trans (hb4.mono HB3.out.size))
        clear hb4
        go_wp2_with fail
        refine (H3.out _).mono ?_
        rintro e w5 ⟨rfl, hb5⟩
        have HB5 := Lib.hid (HB4.out.trans (hb5.mono HB4.out.size))
        clear hb5
        go_wp2_with fail
        refine (H4.out _).mono ?_
        rintro e w6 ⟨rfl, hb6⟩
        have HB6 := Lib.hid (HB5.out.trans (hb6.mono HB5.out.size))
        clear hb6
        go_wp2_with fail
        refine (H5.out _).mono ?_
        rintro e w7 ⟨rfl, hb7⟩
        have HB7 := Lib.hid (HB6.out.trans (hb7.mono HB6.out.size))
        clear hb7
        go_wp2_with fail
        go_ret
        exact ⟨rfl, HB7.out⟩
    · have d2 : decide ((5000 : Int) < (b.length : Int)) = true := decide_eq_true (by omega)
      go_wp2_with fail
      go_ret
      exact ⟨rfl, HB1.out⟩
  · have d1 : decide ((5000 : Int) < (a.length : Int)) = true := decide_eq_true (by omega)
    go_wp2_with fail
    go_ret
    exact ⟨rfl, HB1.out⟩
end Go.Proofs.Ythnjofgeghpdoaa
