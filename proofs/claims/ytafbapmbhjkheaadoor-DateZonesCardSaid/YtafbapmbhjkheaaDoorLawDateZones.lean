/-
  The walk of the law DateZones.
-/
import Derived.Test.YtafbapmbhjkheaaDoorLawDateBack
import Derived.Test.YtafbapmbhjkheaaDoorBytes
namespace Go.Proofs.YtafbapmbhjkheaaDoor
open Go.RowKit
theorem conv_two (w : World) (n : Nat) (hn : n < 100) : (convert 46 9 (.slice (some ⟨w.heap.size, 0, none⟩) 2 2)).run Tryd.prog (w.alloc (.cells #[.int .u8 (48 + (n : Int) / 10), .int .u8 (48 + (n : Int) % 10)] 5)) =
    .ok (.string (mkS (b2 n))) (w.alloc (.cells #[.int .u8 (48 + (n : Int) / 10), .int .u8 (48 + (n : Int) % 10)] 5)) := by
  have e1 : (48 : Int) + (n : Int) / 10 = ((dg (n / 10)).toNat : Int) := by rw [dg_nat (by omega)]; omega
  have e2 : (48 : Int) + (n : Int) % 10 = ((dg (n % 10)).toNat : Int) := by rw [dg_nat (by omega)]; omega
  rw [e1, e2]
  exact conv_bytes _ _ (b2 n) 2 2 rfl (cells_new w (b2 n) #[.int .u8 ((dg (n / 10)).toNat : Int), .int .u8 ((dg (n % 10)).toNat : Int)] rfl w.heap.size rfl)
set_option maxHeartbeats 1000000 in
theorem two_x (n : Nat) (w : World) (hn : n < 100) : Calls Tryd.prog 21 #[.int .i64 (n : Int)] w fun e w' => e = .returned (.string (mkS (b2 n))) ∧ Below w.heap.size w w' := by
  have hcv := conv_two w n hn
  go_enter Tryd.func21, Tryd.ntmps21
  go_wp2_with fail
  go_ret
  exact ⟨rfl, (Below.refl _ _).alloc (Nat.le_refl _) _⟩
/-- A printed text with another zone in Z's place, parsed. -/
theorem zoneP_x {t : Int} (ht : timB t = true) (zh zm : Nat) (h1 : zh ≤ 23) (h2 : zm ≤ 59) (a : UInt8) (ha : a = 43 ∨ a = 45) (q : ByteArray) (hq : q = mkS ((printS t).take 19 ++ ([a] ++ (b2 zh ++ [58] ++ b2 zm)))) (T : Int) (hT : t - (if a = 45 then -1 else 1) * ((zh : Int) * 3600 + zm * 60) = T) (w : World) (hR : Ready w) :
    Calls Tryd.prog 13 #[.string q] w fun e w' => e = .returned (.tuple #[.int .i64 (if timB T then T else 0), .int .i64 (if timB T then 0 else 1)]) ∧ Below w.heap.size w w' := by
  obtain ⟨k, hk⟩ := clk_of ht
  have hs : printS t = printX t := by unfold printS; rw [ht]; rfl
  rw [hs, printX, text_take] at hq
  obtain ⟨p1, p2⟩ := parse_zone k h1 h2 a ha (t := T) (by rw [hk]; exact hT)
  subst hq
  refine (parse_x _ w ?_ hR).mono fun e w' ⟨he, hb⟩ => ⟨by rw [he, p1, p2], hb⟩
  have h6 : ([a] ++ (b2 zh ++ [58] ++ b2 zm)).length = 6 := by simp [b2]
  rw [List.length_append, coreX_len, h6]
  omega
theorem cut_eq (u : List UInt8) (a : UInt8) (x y : List UInt8) : (mkS u).extract 0 19 ++ { data := #[a] } ++ (mkS x ++ { data := #[58] } ++ mkS y) = mkS (u.take 19 ++ ([a] ++ (x ++ [58] ++ y))) := by
  rw [mkS_extract, List.drop_zero, show ({ data := #[a] } : ByteArray) = mkS [a] from rfl, show ({ data := #[58] } : ByteArray) = mkS [58] from rfl, mkS_cat, mkS_cat, mkS_cat, mkS_cat, List.append_assoc]
theorem cut_eq0 (u z : List UInt8) : (mkS u).extract 0 19 ++ mkS z = mkS (u.take 19 ++ z) := by rw [mkS_extract, List.drop_zero, mkS_cat]
theorem zoneY_x {t : Int} (ht : timB t = true) (zh zm : Nat) (h1 : zh ≤ 23) (h2 : zm ≤ 59) (a : UInt8) (ha : a = 43 ∨ a = 45) (T : Int) (hT : t - (if a = 45 then -1 else 1) * ((zh : Int) * 3600 + zm * 60) = T) (hb : timB T = true) (w : World) (hR : Ready w) :
    Calls Tryd.prog 13 #[.string ((mkS (printS t)).extract 0 19 ++ { data := #[a] } ++ (mkS (b2 zh) ++ { data := #[58] } ++ mkS (b2 zm)))] w fun e w' => e = .returned (.tuple #[.int .i64 T, .int .i64 0]) ∧ Below w.heap.size w w' :=
  (zoneP_x ht zh zm h1 h2 a ha _ (cut_eq _ a _ _) T hT w hR).mono fun e w' ⟨he, hw⟩ => ⟨by rw [he, hb]; rfl, hw⟩
theorem zoneN_x {t : Int} (ht : timB t = true) (zh zm : Nat) (h1 : zh ≤ 23) (h2 : zm ≤ 59) (a : UInt8) (ha : a = 43 ∨ a = 45) (T : Int) (hT : t - (if a = 45 then -1 else 1) * ((zh : Int) * 3600 + zm * 60) = T) (hb : timB T = false) (w : World) (hR : Ready w) :
    Calls Tryd.prog 13 #[.string ((mkS (printS t)).extract 0 19 ++ { data := #[a] } ++ (mkS (b2 zh) ++ { data := #[58] } ++ mkS (b2 zm)))] w fun e w' => e = .returned (.tuple #[.int .i64 0, .int .i64 1]) ∧ Below w.heap.size w w' :=
  (zoneP_x ht zh zm h1 h2 a ha _ (cut_eq _ a _ _) T hT w hR).mono fun e w' ⟨he, hw⟩ => ⟨by rw [he, hb]; rfl, hw⟩
theorem zone0_x {t : Int} (ht : timB t = true) (a : UInt8) (ha : a = 43 ∨ a = 45) (w : World) (hR : Ready w) :
    Calls Tryd.prog 13 #[.string ((mkS (printS t)).extract 0 19 ++ { data := #[a, 48, 48, 58, 48, 48] })] w fun e w' => e = .returned (.tuple #[.int .i64 t, .int .i64 0]) ∧ Below w.heap.size w w' :=
  (zoneP_x ht 0 0 (by omega) (by omega) a ha _ (cut_eq0 _ [a, 48, 48, 58, 48, 48]) t (by simp) w hR).mono fun e w' ⟨he, hw⟩ => ⟨by rw [he, ht]; rfl, hw⟩
theorem tim_f {t : Int} (h : t < 0 ∨ 253402300799 < t) : timB t = false := Bool.eq_false_iff.2 fun e => by have := timB_iff.1 e; omega
set_option maxRecDepth 100000 in
set_option maxHeartbeats 8000000 in
/-- A guard of the law closes it. -/
theorem zones_no (t h m : Int) (w : World) (hR0 : Ready w) (hn : ¬ (0 ≤ t ∧ t ≤ 253402300799 ∧ 0 ≤ h ∧ h ≤ 23 ∧ 0 ≤ m ∧ m ≤ 59)) :
    Calls Tryd.prog 6 #[.int .i64 t, .int .i64 h, .int .i64 m] w fun e w' => e = .returned (.bool true) ∧ Below w.heap.size w w' := by
  have HA := Lib.hid (awake_x w hR0)
  clear hR0
  by_cases h0 : t < 0
  · have d0 : decide (t < 0) = true := decide_eq_true h0
    go_enter Tryd.func6, Tryd.ntmps6
    go_wp2_with fail
    refine HA.out.mono ?_
    rintro e w1 ⟨rfl, hb⟩
    have HB1 := Lib.hid hb
    clear hb
    go_wp2_with fail
    go_ret
    exact ⟨rfl, HB1.out⟩
  · have d0 : decide (t < 0) = false := decide_eq_false h0
    by_cases h1 : 253402300799 < t
    · have d1 : decide (253402300799 < t) = true := decide_eq_true h1
      go_enter Tryd.func6, Tryd.ntmps6
      go_wp2_with fail
      refine HA.out.mono ?_
      rintro e w1 ⟨rfl, hb⟩
      have HB1 := Lib.hid hb
      clear hb
      go_wp2_with fail
      go_ret
      exact ⟨rfl, HB1.out⟩
    · have d1 : decide (253402300799 < t) = false := decide_eq_false h1
      by_cases h2 : h < 0
      · have d2 : decide (h < 0) = true := decide_eq_true h2
        go_enter Tryd.func6, Tryd.ntmps6
        go_wp2_with fail
        refine HA.out.mono ?_
        rintro e w1 ⟨rfl, hb⟩
        have HB1 := Lib.hid hb
        clear hb
        go_wp2_with fail
        go_ret
        exact ⟨rfl, HB1.out⟩
      · have d2 : decide (h < 0) = false := decide_eq_false h2
        by_cases h3 : 23 < h
        · have d3 : decide (23 < h) = true := decide_eq_true h3
          go_enter Tryd.func6, Tryd.ntmps6
          go_wp2_with fail
          refine HA.out.mono ?_
          rintro e w1 ⟨rfl, hb⟩
          have HB1 := Lib.hid hb
          clear hb
          go_wp2_with fail
          go_ret
          exact ⟨rfl, HB1.out⟩
        · have d3 : decide (23 < h) = false := decide_eq_false h3
          by_cases h4 : m < 0
          · have d4 : decide (m < 0) = true := decide_eq_true h4
            go_enter Tryd.func6, Tryd.ntmps6
            go_wp2_with fail
            refine HA.out.mono ?_
            rintro e w1 ⟨rfl, hb⟩
            have HB1 := Lib.hid hb
            clear hb
            go_wp2_with fail
            go_ret
            exact ⟨rfl, HB1.out⟩
          · have d4 : decide (m < 0) = false := decide_eq_false h4
            by_cases h5 : 59 < m
            · have d5 : decide (59 < m) = true := decide_eq_true h5
              go_enter Tryd.func6, Tryd.ntmps6
              go_wp2_with fail
              refine HA.out.mono ?_
              rintro e w1 ⟨rfl, hb⟩
              have HB1 := Lib.hid hb
              clear hb
              go_wp2_with fail
              go_ret
              exact ⟨rfl, HB1.out⟩
            · omega
set_option maxRecDepth 100000 in
set_option maxHeartbeats 8000000 in
theorem zones_yes (t : Int) (h m : Nat) (w : World) (hR0 : Ready w) (h1 : 0 ≤ t) (h2 : t ≤ 253402300799) (hh : h ≤ 23) (hm : m ≤ 59) :
    Calls Tryd.prog 6 #[.int .i64 t, .int .i64 (h : Int), .int .i64 (m : Int)] w fun e w' => e = .returned (.bool true) ∧ Below w.heap.size w w' := by
  have HR := Lib.hid hR0
  have HA := Lib.hid (awake_x w hR0)
  have d1 : decide (t < 0) = false := decide_eq_false (by omega)
  have d2 : decide (253402300799 < t) = false := decide_eq_false (by omega)
  have d3 : decide ((h : Int) < 0) = false := decide_eq_false (by omega)
  have d4 : decide (23 < (h : Int)) = false := decide_eq_false (by omega)
  have d5 : decide ((m : Int) < 0) = false := decide_eq_false (by omega)
  have d6 : decide (59 < (m : Int)) = false := decide_eq_false (by omega)
  have ht : timB t = true := timB_iff.2 ⟨h1, h2⟩
  have HP := Lib.hid (fun w hR => printT_x ht w hR)
  have Z1 := Lib.hid (fun w hR => zone0_x ht 43 (.inl rfl) w hR)
  have Z2 := Lib.hid (fun w hR => zone0_x ht 45 (.inr rfl) w hR)
  have A1 := Lib.hid (fun hb w hR => zoneY_x ht h m hh hm 43 (.inl rfl) (t - ((h : Int) * 3600 + (m : Int) * 60)) (by rw [if_neg (by decide)]; omega) hb w hR)
  have A0 := Lib.hid (fun hb w hR => zoneN_x ht h m hh hm 43 (.inl rfl) (t - ((h : Int) * 3600 + (m : Int) * 60)) (by rw [if_neg (by decide)]; omega) hb w hR)
  have B1 := Lib.hid (fun hb w hR => zoneY_x ht h m hh hm 45 (.inr rfl) (t + ((h : Int) * 3600 + (m : Int) * 60)) (by rw [if_pos rfl]; omega) hb w hR)
  have B0 := Lib.hid (fun hb w hR => zoneN_x ht h m hh hm 45 (.inr rfl) (t + ((h : Int) * 3600 + (m : Int) * 60)) (by rw [if_pos rfl]; omega) hb w hR)
  have hus : (mkS (printS t)).size = 20 := by rw [mkS_size, (back_x ht).2.2.2]
  have H1 := Lib.hid (fun w => two_x h w (by omega))
  have H2 := Lib.hid (fun w => two_x m w (by omega))
  generalize printS t = u at HP hus Z1 Z2 A1 A0 B1 B0
  have hz1 : (mkS (b2 h)).size = 2 := rfl
  have hz2 : (mkS (b2 m)).size = 2 := rfl
  generalize b2 h = zh at H1 hz1 A1 A0 B1 B0
  generalize b2 m = zm at H2 hz2 A1 A0 B1 B0
  clear ht hR0
  go_enter Tryd.func6, Tryd.ntmps6
  go_wp2_with fail
  refine HA.out.mono ?_
  rintro e w1 ⟨rfl, hb⟩
  have HB1 := Lib.hid hb
  clear hb
  go_wp2_with fail
  refine (HP.out _ (HR.out.below HB1.out)).mono ?_
  rintro e w2 ⟨rfl, hb⟩
  have HB2 := Lib.hid (below_next HB1.out hb)
  clear hb
  go_wp2_with fail
  refine (H1.out _).mono ?_
  rintro e w3 ⟨rfl, hb⟩
  have HB3 := Lib.hid (below_next HB2.out hb)
  clear hb
  go_wp2_with fail
  refine (H2.out _).mono ?_
  rintro e w4 ⟨rfl, hb⟩
  have HB4 := Lib.hid (below_next HB3.out hb)
  clear hb
  go_wp2_with fail
  by_cases hf : t < ((h : Int) * 3600 + (m : Int) * 60)
  · have f1 : decide (t < ((h : Int) * 3600 + (m : Int) * 60)) = true := decide_eq_true hf
    have f2 : decide (((h : Int) * 3600 + (m : Int) * 60) ≤ t) = false := decide_eq_false (by omega)
    refine (A0.out (tim_f (.inl (by omega))) _ (HR.out.below HB4.out)).mono ?_
    rintro e w5 ⟨rfl, hb⟩
    have HB5 := Lib.hid (below_next HB4.out hb)
    clear hb
    go_wp2_with fail
    by_cases hg : 253402300799 < t + ((h : Int) * 3600 + (m : Int) * 60)
    · have g1 : decide (253402300799 < t + ((h : Int) * 3600 + (m : Int) * 60)) = true := decide_eq_true hg
      have g2 : decide (t + ((h : Int) * 3600 + (m : Int) * 60) ≤ 253402300799) = false := decide_eq_false (by omega)
      refine (B0.out (tim_f (.inr hg)) _ (HR.out.below HB5.out)).mono ?_
      rintro e w6 ⟨rfl, hb⟩
      have HB6 := Lib.hid (below_next HB5.out hb)
      clear hb hg
      go_wp2_with fail
      refine (Z1.out _ (HR.out.below HB6.out)).mono ?_
      rintro e w7 ⟨rfl, hb⟩
      have HB7 := Lib.hid (below_next HB6.out hb)
      clear hb
      go_wp2_with fail
      refine (Z2.out _ (HR.out.below HB7.out)).mono ?_
      rintro e w8 ⟨rfl, hb⟩
      have HB8 := Lib.hid (below_next HB7.out hb)
      clear hb
      go_wp2_with fail
      go_ret
      exact ⟨rfl, HB8.out⟩
    · have g1 : decide (253402300799 < t + ((h : Int) * 3600 + (m : Int) * 60)) = false := decide_eq_false hg
      have g2 : decide (t + ((h : Int) * 3600 + (m : Int) * 60) ≤ 253402300799) = true := decide_eq_true (by omega)
      refine (B1.out (timB_iff.2 ⟨by omega, by omega⟩) _ (HR.out.below HB5.out)).mono ?_
      rintro e w6 ⟨rfl, hb⟩
      have HB6 := Lib.hid (below_next HB5.out hb)
      clear hb
      go_wp2_with fail
      refine (Z1.out _ (HR.out.below HB6.out)).mono ?_
      rintro e w7 ⟨rfl, hb⟩
      have HB7 := Lib.hid (below_next HB6.out hb)
      clear hb
      go_wp2_with fail
      refine (Z2.out _ (HR.out.below HB7.out)).mono ?_
      rintro e w8 ⟨rfl, hb⟩
      have HB8 := Lib.hid (below_next HB7.out hb)
      clear hb
      go_wp2_with fail
      go_ret
      exact ⟨rfl, HB8.out⟩
  · have f1 : decide (t < ((h : Int) * 3600 + (m : Int) * 60)) = false := decide_eq_false hf
    have f2 : decide (((h : Int) * 3600 + (m : Int) * 60) ≤ t) = true := decide_eq_true (by omega)
    refine (A1.out (timB_iff.2 ⟨by omega, by omega⟩) _ (HR.out.below HB4.out)).mono ?_
    rintro e w5 ⟨rfl, hb⟩
    have HB5 := Lib.hid (below_next HB4.out hb)
    clear hb
    go_wp2_with fail
    by_cases hg : 253402300799 < t + ((h : Int) * 3600 + (m : Int) * 60)
    · have g1 : decide (253402300799 < t + ((h : Int) * 3600 + (m : Int) * 60)) = true := decide_eq_true hg
      have g2 : decide (t + ((h : Int) * 3600 + (m : Int) * 60) ≤ 253402300799) = false := decide_eq_false (by omega)
      refine (B0.out (tim_f (.inr hg)) _ (HR.out.below HB5.out)).mono ?_
      rintro e w6 ⟨rfl, hb⟩
      have HB6 := Lib.hid (below_next HB5.out hb)
      clear hb hg
      go_wp2_with fail
      refine (Z1.out _ (HR.out.below HB6.out)).mono ?_
      rintro e w7 ⟨rfl, hb⟩
      have HB7 := Lib.hid (below_next HB6.out hb)
      clear hb
      go_wp2_with fail
      refine (Z2.out _ (HR.out.below HB7.out)).mono ?_
      rintro e w8 ⟨rfl, hb⟩
      have HB8 := Lib.hid (below_next HB7.out hb)
      clear hb
      go_wp2_with fail
      go_ret
      exact ⟨rfl, HB8.out⟩
    · have g1 : decide (253402300799 < t + ((h : Int) * 3600 + (m : Int) * 60)) = false := decide_eq_false hg
      have g2 : decide (t + ((h : Int) * 3600 + (m : Int) * 60) ≤ 253402300799) = true := decide_eq_true (by omega)
      refine (B1.out (timB_iff.2 ⟨by omega, by omega⟩) _ (HR.out.below HB5.out)).mono ?_
      rintro e w6 ⟨rfl, hb⟩
      have HB6 := Lib.hid (below_next HB5.out hb)
      clear hb
      go_wp2_with fail
      refine (Z1.out _ (HR.out.below HB6.out)).mono ?_
      rintro e w7 ⟨rfl, hb⟩
      have HB7 := Lib.hid (below_next HB6.out hb)
      clear hb
      go_wp2_with fail
      refine (Z2.out _ (HR.out.below HB7.out)).mono ?_
      rintro e w8 ⟨rfl, hb⟩
      have HB8 := Lib.hid (below_next HB7.out hb)
      clear hb
      go_wp2_with fail
      go_ret
      exact ⟨rfl, HB8.out⟩
theorem dateZones_x (t h m : Int) (w : World) (hR : Ready w) (_ : IntKind.i64.min ≤ t) (_ : t ≤ IntKind.i64.max) (_ : IntKind.i64.min ≤ h) (_ : h ≤ IntKind.i64.max) (_ : IntKind.i64.min ≤ m) (_ : m ≤ IntKind.i64.max) :
    Calls Tryd.prog 6 #[.int .i64 t, .int .i64 h, .int .i64 m] w fun e w' => e = .returned (.bool true) ∧ Below w.heap.size w w' := by
  by_cases hn : 0 ≤ t ∧ t ≤ 253402300799 ∧ 0 ≤ h ∧ h ≤ 23 ∧ 0 ≤ m ∧ m ≤ 59
  · obtain ⟨h1, h2, h3, h4, h5, h6⟩ := hn
    obtain ⟨h, rfl⟩ : ∃ k : Nat, h = k := ⟨h.toNat, by omega⟩
    obtain ⟨m, rfl⟩ : ∃ k : Nat, m = k := ⟨m.toNat, by omega⟩
    exact zones_yes t h m w hR h1 h2 (by omega) (by omega)
  · exact zones_no t h m w hR hn
end Go.Proofs.YtafbapmbhjkheaaDoor
