/-
  The walk of param's PrintMail.
-/
import Derived.Test.YtbecdncnidcmdaaGreatDoorPaRM
import Derived.Test.YtbecdncnidcmdaaGreatDoorPaSay
import Derived.Test.YtbecdncnidcmdaaGreatDoorMaPure
import Derived.Test.YtbecdncnidcmdaaGreatDoorMaXt
import Derived.Lib.AppendIntMem
namespace Go.Proofs.YtbecdncnidcmdaaGreatDoor
set_option maxRecDepth 100000
open Go.RowKit Go.Shelf
theorem itoa_x (n : Int) (w : World) (h0 : -999999999 ≤ n) (h1 : n ≤ 999999999) (hR : Ready w) : Calls Tryz.prog 39 #[.int .i64 n] w fun e w' => e = .returned (.string (mkS (Lib.itoa n))) ∧ Below w.heap.size w w' :=
  (Tryz.strconv_Itoa n (by omega) (by omega) w hR.2).mono fun _ _ ⟨he, k, os, hw⟩ => ⟨he, by rw [hw]; exact Lib.below_grow _ w (Nat.le_refl _) k os⟩
theorem itoa_len {n : Int} (h1 : -999999999 ≤ n) (h2 : n ≤ 999999999) : (Lib.itoa n).length ≤ 20 := by
  by_cases h : n < 0
  · rw [Lib.itoa, if_pos h]
    have := (dd_all 8 n.natAbs (by omega)).2.1
    simp
    omega
  · rw [Lib.itoa, if_neg h]
    have := (dd_all 8 n.toNat (by omega)).2.1
    omega
theorem printS_le (t : Int) : (printS t).length ≤ 20 := by
  cases h : timB t
  · unfold printS
    rw [h]
    simp
  · exact Nat.le_of_eq (back_x h).2.2.2
/-- What a message that may be told holds. -/
structure Fits (m : ML) : Prop where
  sz : -999999999 ≤ m.sz ∧ m.sz ≤ 999999999
  fo : -999999999 ≤ m.fo ∧ m.fo ≤ 999999999
  by_ : -999999999 ≤ m.by_ ∧ m.by_ ≤ 999999999
  pr : -999999999 ≤ m.pr ∧ m.pr ≤ 999999999
  body : m.body.length ≤ 100
  ret : m.ret.length ≤ 100
  env : m.env.length ≤ 100
  mode : m.mode.length ≤ 100
theorem in_num {b : Bool} {n x y : Int} (hx : -999999999 ≤ x) (hy : y ≤ 999999999) (h : inB b n x y = true) (h0 : (b || n == 0) = true) : -999999999 ≤ n ∧ n ≤ 999999999 := by
  cases b
  · have : n = 0 := by simpa using h0
    omega
  · unfold inB at h
    simp at h
    omega
theorem fits {m : ML} (h : rightM m = 0) : Fits m := by
  obtain ⟨⟨hn, hu, hr, he⟩, _⟩ := rightM_iff.1 h
  unfold rangB at hr
  unfold unB at hu
  unfold namedB isBody isRet isMode at hn
  simp only [Bool.and_eq_true] at hr hu
  have hlv : -999999999 ≤ leastV m.mode := by unfold leastV; split <;> omega
  refine ⟨in_num (by omega) (by omega) hr.1.1.1.1 hu.1.1.1.1, in_num (by omega) (by omega) hr.1.1.1.2 hu.1.1.1.2, in_num hlv (by omega) hr.1.2 hu.1.2, in_num (by omega) (by omega) hr.2 hu.2, ?_, ?_, he, ?_⟩
  all_goals
    simp only [Bool.and_eq_true, Bool.or_eq_true, beq_iff_eq] at hn
  · rcases hn.1.1 with h0 | h0 | h0 <;> rw [h0] <;> decide
  · rcases hn.1.2 with h0 | h0 | h0 <;> rw [h0] <;> decide
  · rcases hn.2 with h0 | h0
    · rcases h0.2 with ((h1 | h1) | h1) | h1 <;> rw [h1] <;> decide
    · rw [h0.2]; decide
set_option maxHeartbeats 16000000 in
theorem printM_x (m : ML) (w : World) (hR : Ready w) : Calls Tryz.prog 240 #[.agg #[.bool m.hs, .bool m.hf, .bool m.hu, .bool m.hb, .bool m.hp, .int .i64 m.sz, .int .i64 m.fo, .int .i64 m.un, .int .i64 m.by_, .int .i64 m.pr, .string (mkS m.body), .string (mkS m.ret), .string (mkS m.env), .string (mkS m.mode)]] w fun e w' => e = .returned (.tuple #[.string (mkS (printM m)), .int .i64 (rightM m)]) ∧ Below w.heap.size w w' := by
  have k0 := newOf w (.cells #[.bool m.hs, .bool m.hf, .bool m.hu, .bool m.hb, .bool m.hp, .int .i64 m.sz, .int .i64 m.fo, .int .i64 m.un, .int .i64 m.by_, .int .i64 m.pr, .string (mkS m.body), .string (mkS m.ret), .string (mkS m.env), .string (mkS m.mode)] 49)
  have kB : Below w.heap.size w (w.alloc (.cells #[.bool m.hs, .bool m.hf, .bool m.hu, .bool m.hb, .bool m.hp, .int .i64 m.sz, .int .i64 m.fo, .int .i64 m.un, .int .i64 m.by_, .int .i64 m.pr, .string (mkS m.body), .string (mkS m.ret), .string (mkS m.env), .string (mkS m.mode)] 49)) := (Below.refl _ w).alloc (Nat.le_refl _) _
  have H0 := Lib.hid (MBox.mk (W := w) k0 kB)
  have HRb := Lib.hid (fun w' (h : MBox w w.heap.size m w') => hR.below h.below)
  have HR := Lib.hid (fun w' h => rightM_x m w' h)
  have HP0 := Lib.hid (show rightM m ≠ 0 → printM m = [] from fun h => if_neg h)
  have HP1 := Lib.hid (show rightM m = 0 → printM m = joinC 32 (wordsL (wdM m)) from fun h => if_pos h)
  have HFt := Lib.hid (fun h => fits (m := m) h)
  generalize rightM m = E at HR HP0 HP1 HFt ⊢
  clear k0 kB hR
  go_enter Tryz.func240, Tryz.ntmps240
  have c0 := H0.out.c0
  have c1 := H0.out.c1
  have c2 := H0.out.c2
  have c3 := H0.out.c3
  have c4 := H0.out.c4
  have c5 := H0.out.c5
  have c6 := H0.out.c6
  have c7 := H0.out.c7
  have c8 := H0.out.c8
  have c9 := H0.out.c9
  have c10 := H0.out.c10
  have c11 := H0.out.c11
  have c12 := H0.out.c12
  have c13 := H0.out.c13
  go_wp2_with fail
  generalize w.alloc (.cells #[.bool m.hs, .bool m.hf, .bool m.hu, .bool m.hb, .bool m.hp, .int .i64 m.sz, .int .i64 m.fo, .int .i64 m.un, .int .i64 m.by_, .int .i64 m.pr, .string (mkS m.body), .string (mkS m.ret), .string (mkS m.env), .string (mkS m.mode)] 49) = W0 at H0 c0 c1 c2 c3 c4 c5 c6 c7 c8 c9 c10 c11 c12 c13 ⊢
  clear c0 c1 c2 c3 c4 c5 c6 c7 c8 c9 c10 c11 c12 c13
  refine (HR.out _ (HRb.out _ H0.out)).mono ?_
  rintro e w1 ⟨rfl, hb⟩
  have H1 := Lib.hid (H0.out.next hb)
  clear hb H0 HR
  by_cases hE : E = 0
  · subst hE
    have hF := HFt.out rfl
    have HPV := Lib.hid (HP1.out rfl)
    clear HP0 HP1 HFt
    have HI1 := Lib.hid (fun w h => itoa_x m.sz w hF.sz.1 hF.sz.2 h)
    have HI2 := Lib.hid (fun w h => itoa_x m.fo w hF.fo.1 hF.fo.2 h)
    have HI3 := Lib.hid (fun w h => itoa_x m.by_ w hF.by_.1 hF.by_.2 h)
    have HI4 := Lib.hid (fun w h => itoa_x m.pr w hF.pr.1 hF.pr.2 h)
    have HEn := Lib.hid (fun w => X.encode_x m.env w (by have := hF.env; omega))
    have HDp := Lib.hid (fun w h => print_x m.un w h)
    have hl1 := itoa_len hF.sz.1 hF.sz.2
    have hl2 := itoa_len hF.fo.1 hF.fo.2
    have hl3 := itoa_len hF.by_.1 hF.by_.2
    have hl4 := itoa_len hF.pr.1 hF.pr.2
    have hl5 : (X.encX m.env).length ≤ 300 := by have := (X.encX_len m.env).2; have := hF.env; omega
    have hl6 := printS_le m.un
    have hl7 := hF.body
    have hl8 := hF.ret
    have hl9 := hF.mode
    have hwf := wordsL_fold (wdM m) []
    rw [List.nil_append] at hwf
    have hpv := HPV.out
    clear HPV
    generalize wordsL (wdM m) = ww at hwf hpv
    have HPV := Lib.hid hpv
    have HWF := Lib.hid hwf
    clear hwf hpv
    unfold wdM at HWF
    simp only [List.foldl_cons, List.foldl_nil, bne] at HWF
    unfold PrintPost at HDp
    have hT1 := mkS_toList m.body
    have hT2 := mkS_toList m.ret
    have hT3 := mkS_toList m.env
    have hcat : mkS (Lib.itoa m.by_) ++ { data := #[59] } ++ mkS m.mode = mkS (Lib.itoa m.by_ ++ [59] ++ m.mode) := by rw [show ({ data := #[59] } : ByteArray) = mkS [59] from rfl, mkS_cat, mkS_cat]
    have hz1 : (mkS (Lib.itoa m.by_)).size ≤ 100 := by rw [mkS_size]; omega
    have hz2 : (mkS m.mode).size ≤ 100 := by rw [mkS_size]; omega
    have hla : (Lib.itoa m.by_ ++ [59] ++ m.mode).length ≤ 200 := by simp; omega
    generalize Lib.itoa m.by_ ++ [59] ++ m.mode = tby at hcat HWF hla
    generalize Lib.itoa m.sz = i1 at HI1 HWF hl1
    generalize Lib.itoa m.fo = i2 at HI2 HWF hl2
    generalize Lib.itoa m.by_ = i3 at HI3 hcat hl3 hz1
    generalize Lib.itoa m.pr = i4 at HI4 HWF hl4
    generalize X.encX m.env = ev at HEn HWF hl5
    generalize printS m.un = ps at HDp HWF hl6
    generalize printE m.un = pe at HDp
    have hy1 : ¬ 9223372036854775807 < (mkS i3).size + 1 := by omega
    have hy2 : ¬ 9223372036854775807 < (mkS i3).size + 1 + (mkS m.mode).size := by omega
    clear hF hz1 hz2 hl3 hl9
    have hb1 : m.body.isEmpty = (m.body == []) := by cases m.body <;> rfl
    have hb2 : decide (m.body = []) = (m.body == []) := by cases m.body <;> rfl
    have hr1 : m.ret.isEmpty = (m.ret == []) := by cases m.ret <;> rfl
    have hr2 : decide (m.ret = []) = (m.ret == []) := by cases m.ret <;> rfl
    have he1 : m.env.isEmpty = (m.env == []) := by cases m.env <;> rfl
    have he2 : decide (m.env = []) = (m.env == []) := by cases m.env <;> rfl
    generalize hb3 : (m.body == []) = qb at HWF hb1 hb2
    generalize hr3 : (m.ret == []) = qr at HWF hr1 hr2
    generalize he3 : (m.env == []) = qe at HWF he1 he2
    obtain ⟨c, hc⟩ : ∃ c, w1.heap.size = c := ⟨_, rfl⟩
    have HS := Lib.hid (show MS w w.heap.size c m (.slice none 0 0) (.slice none 0 0) [] (w1.alloc (.cells #[.slice none 0 0] 51)) from
      ⟨H1.out.next ((Below.refl _ w1).alloc (Nat.le_refl _) _), by rw [← hc]; exact newOf w1 _, strs_nil _ _, Nat.le_refl _, by rw [← hc]; exact ltOf H1.out.box⟩)
    have HRm := Lib.hid (fun u v L w' (h : MS w w.heap.size c m u v L w') => HRb.out w' h.mb)
    have d7 := HS.out.mb.c7
    go_wp2_with fail
    clear d7 H1 HRb
    generalize w1.alloc (.cells #[.slice none 0 0] 51) = w2 at HS ⊢
    clear hc
    refine (HDp.out _ (HRm.out _ _ _ _ HS.out)).mono ?_
    rintro e w3 ⟨rfl, hb⟩
    have HS0 := Lib.hid (HS.out.next hb)
    clear hb HS HDp
    have hc0 : ([] : List Txt).length ≤ 0 ∧ Lib.lens ([] : List Txt) ≤ 0 := ⟨Nat.le_refl _, Nat.le_refl _⟩
    generalize hL0 : ([] : List Txt) = L0 at HS0 hc0
    have HL0 := Lib.hid hL0
    clear hL0
    have hd0 : L0.length ≤ 0 ∧ Lib.lens L0 ≤ 0 := hc0
    clear hc0
    have hk0 : (kSIZE).length ≤ 1000 := by decide
    go_wp2_with fail
    go_region_held3 (fun wr => wr.cell? ⟨w.heap.size, 0, none⟩ = some (.bool m.hs) ∧ wr.cell? ⟨w.heap.size, 5, none⟩ = some (.int .i64 m.sz))
      (first | exact ⟨HS0.out.drew.mb.c0, HS0.out.drew.mb.c5⟩ | exact ⟨HS0.out.mb.c0, HS0.out.mb.c5⟩ | exact ⟨by assumption, by assumption⟩)
      (first
        | (go_at_call 39; (with_reducible refine (HI1.out _ (HRm.out _ _ _ _ HS0.out.drew)).mono ?_); rintro e w4 ⟨rfl, hb4⟩; have g0 := Lib.hid (HS0.out.drew.next hb4); have p0 := g0.out.mb.c0; have p5 := g0.out.mb.c5)
        | (go_at_call 263; refine (say_x g0.out (m.hs) kSIZE i1 hk0 (by omega) (by omega)).mono ?_; rintro e w5 ⟨rfl, v5, h5⟩; have HN := Lib.hid h5; clear h5; have q0 := HN.out.mb.c0; have q5 := HN.out.mb.c5))
    clear hb4 g0 hk0 p0 q0 p5 q5
    have HS1 := HN
    clear HN HS0
    have hc1 := sayL_len (m.hs) kSIZE i1 L0
    generalize hL1 : sayL (m.hs) kSIZE i1 L0 = L1 at HS1 hc1
    have HL1 := Lib.hid hL1
    have hkl : (kSIZE).length ≤ 100 := by decide
    have hd1 : L1.length ≤ 1 ∧ Lib.lens L1 ≤ 1 * 1000 := ⟨by omega, by omega⟩
    clear hkl
    clear hL1 hc1 hd0
    have d10 := HS1.out.mb.c10
    have hk1 : (kBODY).length ≤ 1000 := by decide
    go_wp2_with fail
    refine (say_x HS1.out (!qb) kBODY m.body hk1 (by omega) (by omega)).mono ?_
    rintro e w5 ⟨rfl, v5, h5⟩
    have HN := Lib.hid h5
    clear h5 hk1 d10
    have HS2 := HN
    clear HN HS1
    have hc2 := sayL_len (!qb) kBODY m.body L1
    generalize hL2 : sayL (!qb) kBODY m.body L1 = L2 at HS2 hc2
    have HL2 := Lib.hid hL2
    have hkl : (kBODY).length ≤ 100 := by decide
    have hd2 : L2.length ≤ 2 ∧ Lib.lens L2 ≤ 2 * 1000 := ⟨by omega, by omega⟩
    clear hkl
    clear hL2 hc2 hd1
    have d11 := HS2.out.mb.c11
    have hk2 : (kRET).length ≤ 1000 := by decide
    go_wp2_with fail
    refine (say_x HS2.out (!qr) kRET m.ret hk2 (by omega) (by omega)).mono ?_
    rintro e w5 ⟨rfl, v5, h5⟩
    have HN := Lib.hid h5
    clear h5 hk2 d11
    have HS3 := HN
    clear HN HS2
    have hc3 := sayL_len (!qr) kRET m.ret L2
    generalize hL3 : sayL (!qr) kRET m.ret L2 = L3 at HS3 hc3
    have HL3 := Lib.hid hL3
    have hkl : (kRET).length ≤ 100 := by decide
    have hd3 : L3.length ≤ 3 ∧ Lib.lens L3 ≤ 3 * 1000 := ⟨by omega, by omega⟩
    clear hkl
    clear hL3 hc3 hd2
    have hk3 : (kENV).length ≤ 1000 := by decide
    go_wp2_with fail
    go_region_held3 (fun wr => wr.cell? ⟨w.heap.size, 12, none⟩ = some (.string (mkS m.env)))
      (first | exact HS3.out.drew.mb.c12 | exact HS3.out.mb.c12 | exact by assumption)
      (first
        | (go_at_call 265; (with_reducible refine (HEn.out _).mono ?_); rintro e w4 ⟨rfl, hb4⟩; have g0 := Lib.hid (HS3.out.drew.next hb4); have p12 := g0.out.mb.c12)
        | (go_at_call 263; refine (say_x g0.out (!qe) kENV ev hk3 (by omega) (by omega)).mono ?_; rintro e w5 ⟨rfl, v5, h5⟩; have HN := Lib.hid h5; clear h5; have q12 := HN.out.mb.c12))
    clear hb4 g0 hk3 p12 q12
    have HS4 := HN
    clear HN HS3
    have hc4 := sayL_len (!qe) kENV ev L3
    generalize hL4 : sayL (!qe) kENV ev L3 = L4 at HS4 hc4
    have HL4 := Lib.hid hL4
    have hkl : (kENV).length ≤ 100 := by decide
    have hd4 : L4.length ≤ 4 ∧ Lib.lens L4 ≤ 4 * 1000 := ⟨by omega, by omega⟩
    clear hkl
    clear hL4 hc4 hd3
    have hk4 : (kHF).length ≤ 1000 := by decide
    go_wp2_with fail
    go_region_held3 (fun wr => wr.cell? ⟨w.heap.size, 1, none⟩ = some (.bool m.hf) ∧ wr.cell? ⟨w.heap.size, 6, none⟩ = some (.int .i64 m.fo))
      (first | exact ⟨HS4.out.drew.mb.c1, HS4.out.drew.mb.c6⟩ | exact ⟨HS4.out.mb.c1, HS4.out.mb.c6⟩ | exact ⟨by assumption, by assumption⟩)
      (first
        | (go_at_call 39; (with_reducible refine (HI2.out _ (HRm.out _ _ _ _ HS4.out.drew)).mono ?_); rintro e w4 ⟨rfl, hb4⟩; have g0 := Lib.hid (HS4.out.drew.next hb4); have p1 := g0.out.mb.c1; have p6 := g0.out.mb.c6)
        | (go_at_call 263; refine (say_x g0.out (m.hf) kHF i2 hk4 (by omega) (by omega)).mono ?_; rintro e w5 ⟨rfl, v5, h5⟩; have HN := Lib.hid h5; clear h5; have q1 := HN.out.mb.c1; have q6 := HN.out.mb.c6))
    clear hb4 g0 hk4 p1 q1 p6 q6
    have HS5 := HN
    clear HN HS4
    have hc5 := sayL_len (m.hf) kHF i2 L4
    generalize hL5 : sayL (m.hf) kHF i2 L4 = L5 at HS5 hc5
    have HL5 := Lib.hid hL5
    have hkl : (kHF).length ≤ 100 := by decide
    have hd5 : L5.length ≤ 5 ∧ Lib.lens L5 ≤ 5 * 1000 := ⟨by omega, by omega⟩
    clear hkl
    clear hL5 hc5 hd4
    have d2 := HS5.out.mb.c2
    have hk5 : (kHU).length ≤ 1000 := by decide
    go_wp2_with fail
    refine (say_x HS5.out (m.hu) kHU ps hk5 (by omega) (by omega)).mono ?_
    rintro e w5 ⟨rfl, v5, h5⟩
    have HN := Lib.hid h5
    clear h5 hk5 d2
    have HS6 := HN
    clear HN HS5
    have hc6 := sayL_len (m.hu) kHU ps L5
    generalize hL6 : sayL (m.hu) kHU ps L5 = L6 at HS6 hc6
    have HL6 := Lib.hid hL6
    have hkl : (kHU).length ≤ 100 := by decide
    have hd6 : L6.length ≤ 6 ∧ Lib.lens L6 ≤ 6 * 1000 := ⟨by omega, by omega⟩
    clear hkl
    clear hL6 hc6 hd5
    have hk6 : (kBY).length ≤ 1000 := by decide
    go_wp2_with fail
    go_region_held3 (fun wr => wr.cell? ⟨w.heap.size, 3, none⟩ = some (.bool m.hb) ∧ wr.cell? ⟨w.heap.size, 8, none⟩ = some (.int .i64 m.by_) ∧ wr.cell? ⟨w.heap.size, 13, none⟩ = some (.string (mkS m.mode)))
      (first | exact ⟨HS6.out.drew.mb.c3, HS6.out.drew.mb.c8, HS6.out.drew.mb.c13⟩ | exact ⟨HS6.out.mb.c3, HS6.out.mb.c8, HS6.out.mb.c13⟩ | exact ⟨by assumption, by assumption, by assumption⟩)
      (first
        | (go_at_call 39; (with_reducible refine (HI3.out _ (HRm.out _ _ _ _ HS6.out.drew)).mono ?_); rintro e w4 ⟨rfl, hb4⟩; have g0 := Lib.hid (HS6.out.drew.next hb4); have p3 := g0.out.mb.c3; have p8 := g0.out.mb.c8; have p13 := g0.out.mb.c13)
        | (go_at_call 263; refine (say_x g0.out (m.hb) kBY tby hk6 (by omega) (by omega)).mono ?_; rintro e w5 ⟨rfl, v5, h5⟩; have HN := Lib.hid h5; clear h5; have q3 := HN.out.mb.c3; have q8 := HN.out.mb.c8; have q13 := HN.out.mb.c13))
    clear hb4 g0 hk6 p3 q3 p8 q8 p13 q13
    have HS7 := HN
    clear HN HS6
    have hc7 := sayL_len (m.hb) kBY tby L6
    generalize hL7 : sayL (m.hb) kBY tby L6 = L7 at HS7 hc7
    have HL7 := Lib.hid hL7
    have hkl : (kBY).length ≤ 100 := by decide
    have hd7 : L7.length ≤ 7 ∧ Lib.lens L7 ≤ 7 * 1000 := ⟨by omega, by omega⟩
    clear hkl
    clear hL7 hc7 hd6
    have hk7 : (kPR).length ≤ 1000 := by decide
    go_wp2_with fail
    go_region_held3 (fun wr => wr.cell? ⟨w.heap.size, 4, none⟩ = some (.bool m.hp) ∧ wr.cell? ⟨w.heap.size, 9, none⟩ = some (.int .i64 m.pr))
      (first | exact ⟨HS7.out.drew.mb.c4, HS7.out.drew.mb.c9⟩ | exact ⟨HS7.out.mb.c4, HS7.out.mb.c9⟩ | exact ⟨by assumption, by assumption⟩)
      (first
        | (go_at_call 39; (with_reducible refine (HI4.out _ (HRm.out _ _ _ _ HS7.out.drew)).mono ?_); rintro e w4 ⟨rfl, hb4⟩; have g0 := Lib.hid (HS7.out.drew.next hb4); have p4 := g0.out.mb.c4; have p9 := g0.out.mb.c9)
        | (go_at_call 263; refine (say_x g0.out (m.hp) kPR i4 hk7 (by omega) (by omega)).mono ?_; rintro e w5 ⟨rfl, v5, h5⟩; have HN := Lib.hid h5; clear h5; have q4 := HN.out.mb.c4; have q9 := HN.out.mb.c9))
    clear hb4 g0 hk7 p4 q4 p9 q9
    have HS8 := HN
    clear HN HS7
    have hc8 := sayL_len (m.hp) kPR i4 L7
    generalize hL8 : sayL (m.hp) kPR i4 L7 = L8 at HS8 hc8
    have HL8 := Lib.hid hL8
    have hkl : (kPR).length ≤ 100 := by decide
    have hd8 : L8.length ≤ 8 ∧ Lib.lens L8 ≤ 8 * 1000 := ⟨by omega, by omega⟩
    clear hkl
    clear hL8 hc8 hd7
    have hWL : ww = L8 := by
      rw [← HL8.out, ← HL7.out, ← HL6.out, ← HL5.out, ← HL4.out, ← HL3.out, ← HL2.out, ← HL1.out, ← HL0.out]
      exact HWF.out.symm
    have HW := Lib.hid hWL
    clear hWL HWF HL0 HL1 HL2 HL3 HL4 HL5 HL6 HL7 HL8
    have HJ := Lib.hid (join_x 32 (c + 1) _ L8 _ HS8.out.row (by omega) (by omega))
    have HX := Lib.hid HS8.out.mb
    have c5 := HS8.out.cc
    clear HS8
    go_wp2_with fail
    refine HJ.out.mono ?_
    rintro e w9 ⟨rfl, hb⟩
    have HB := Lib.hid (HX.out.next hb).below
    clear hb
    go_wp2_with fail
    go_ret2
    exact ⟨by rw [HPV.out, HW.out]; rfl, HB.out⟩
  · have HV := Lib.hid (HP0.out hE)
    clear HP0 HP1 HFt
    go_wp2_with fail
    go_ret2
    exact ⟨by rw [HV.out]; rfl, H1.out.below⟩
end Go.Proofs.YtbecdncnidcmdaaGreatDoor
