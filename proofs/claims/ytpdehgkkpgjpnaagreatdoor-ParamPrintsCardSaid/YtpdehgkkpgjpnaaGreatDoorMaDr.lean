/-
  DrSmallA · DrOf · DrPrintN, in one text.
-/
import Derived.Test.YtpdehgkkpgjpnaaGreatDoorMaDate
import Derived.Test.YtpdehgkkpgjpnaaGreatDoorMaPure
import Derived.Test.YtpdehgkkpgjpnaaGreatDoorMaBuild
/-
  The walks of the reference's Leap, Length, year, shape, number and digits.
-/
namespace Go.Proofs.YtpdehgkkpgjpnaaGreatDoor
set_option maxRecDepth 100000
open Go.RowKit
set_option maxRecDepth 100000 in
set_option maxHeartbeats 400000 in
theorem rleap_x (y : Int) (w : World) : Calls Tryz.prog 124 #[.int .i64 y] w fun e w' => e = .returned (.bool (leapD y)) ∧ w = w' := by
  by_cases h : y.tmod 400 = 0
  · have hb : (y.tmod 400 == 0) = true := beq_iff_eq.2 h
    have HT := Lib.hid (show leapD y = true by rw [leapT, decide_eq_true h]; simp)
    clear h
    go_enter Tryz.func124, Tryz.ntmps124
    go_wp2_with fail
    go_ret
    exact ⟨ret_bool HT.out.symm, rfl⟩
  · have hb : (y.tmod 400 == 0) = false := beq_eq_false_iff_ne.2 h
    have HT := Lib.hid (show leapD y = (decide (y.tmod 4 = 0) && !decide (y.tmod 100 = 0)) by rw [leapT, decide_eq_false h]; simp)
    clear h
    go_enter Tryz.func124, Tryz.ntmps124
    go_wp2_with fail
    all_goals
      go_ret
      exact ⟨ret_bool (by rw [HT.out, Bool.eq_iff_iff]; simp [*]), rfl⟩
set_option maxRecDepth 100000 in
set_option maxHeartbeats 2000000 in
theorem rlen_x (y m : Int) (w : World) : Calls Tryz.prog 99 #[.int .i64 y, .int .i64 m] w fun e w' => e = .returned (.int .i64 (dimD y m)) ∧ w = w' := by
  by_cases h : m < 1 ∨ 12 < m
  · have HD := Lib.hid (dim_no (y := y) h)
    have q1 : (m == 1) = false := beq_eq_false_iff_ne.2 (by omega)
    have q2 : (m == 2) = false := beq_eq_false_iff_ne.2 (by omega)
    have q3 : (m == 3) = false := beq_eq_false_iff_ne.2 (by omega)
    have q4 : (m == 4) = false := beq_eq_false_iff_ne.2 (by omega)
    have q5 : (m == 5) = false := beq_eq_false_iff_ne.2 (by omega)
    have q6 : (m == 6) = false := beq_eq_false_iff_ne.2 (by omega)
    have q7 : (m == 7) = false := beq_eq_false_iff_ne.2 (by omega)
    have q8 : (m == 8) = false := beq_eq_false_iff_ne.2 (by omega)
    have q9 : (m == 9) = false := beq_eq_false_iff_ne.2 (by omega)
    have q10 : (m == 10) = false := beq_eq_false_iff_ne.2 (by omega)
    have q11 : (m == 11) = false := beq_eq_false_iff_ne.2 (by omega)
    have q12 : (m == 12) = false := beq_eq_false_iff_ne.2 (by omega)
    clear h
    go_enter Tryz.func99, Tryz.ntmps99
    go_wp2_with fail
    go_ret
    exact ⟨ret_int HD.out.symm, rfl⟩
  · by_cases h2 : m = 2
    · subst h2
      cases hl : leapD y
      · have HD := Lib.hid (show dimD y 2 = 28 by rw [dimD, lpD, hl]; rfl)
        have HL := Lib.hid (show Calls Tryz.prog 124 #[.int .i64 y] w fun e w' => e = .returned (.bool false) ∧ w = w' by rw [← hl]; exact rleap_x y w)
        clear hl h
        go_enter Tryz.func99, Tryz.ntmps99
        go_wp2_with fail
        refine HL.out.mono ?_
        rintro e w' ⟨rfl, rfl⟩
        go_wp2_with fail
        go_ret
        exact ⟨ret_int HD.out.symm, rfl⟩
      · have HD := Lib.hid (show dimD y 2 = 29 by rw [dimD, lpD, hl]; rfl)
        have HL := Lib.hid (show Calls Tryz.prog 124 #[.int .i64 y] w fun e w' => e = .returned (.bool true) ∧ w = w' by rw [← hl]; exact rleap_x y w)
        clear hl h
        go_enter Tryz.func99, Tryz.ntmps99
        go_wp2_with fail
        refine HL.out.mono ?_
        rintro e w' ⟨rfl, rfl⟩
        go_wp2_with fail
        go_ret
        exact ⟨ret_int HD.out.symm, rfl⟩
    · rcases month_cases (m := m) (by omega) (by omega) with rfl | rfl | rfl | rfl | rfl | rfl | rfl | rfl | rfl | rfl | rfl | rfl
      case inr.inl => exact absurd rfl h2
      all_goals
        clear h h2
        go_enter Tryz.func99, Tryz.ntmps99
        go_wp2_with fail
        go_ret
        exact ⟨rfl, rfl⟩
set_option maxRecDepth 100000 in
set_option maxHeartbeats 400000 in
theorem ryear_x (y : Int) (w : World) : Calls Tryz.prog 98 #[.int .i64 y] w fun e w' => e = .returned (.int .i64 (365 + lpD y)) ∧ w = w' := by
  cases hl : leapD y
  · have HD := Lib.hid (show (365 : Int) = 365 + lpD y by rw [lpD, hl]; rfl)
    have HL := Lib.hid (show Calls Tryz.prog 124 #[.int .i64 y] w fun e w' => e = .returned (.bool false) ∧ w = w' by rw [← hl]; exact rleap_x y w)
    clear hl
    go_enter Tryz.func98, Tryz.ntmps98
    go_wp2_with fail
    refine HL.out.mono ?_
    rintro e w' ⟨rfl, rfl⟩
    go_wp2_with fail
    go_ret
    exact ⟨ret_int HD.out, rfl⟩
  · have HD := Lib.hid (show (366 : Int) = 365 + lpD y by rw [lpD, hl]; rfl)
    have HL := Lib.hid (show Calls Tryz.prog 124 #[.int .i64 y] w fun e w' => e = .returned (.bool true) ∧ w = w' by rw [← hl]; exact rleap_x y w)
    clear hl
    go_enter Tryz.func98, Tryz.ntmps98
    go_wp2_with fail
    refine HL.out.mono ?_
    rintro e w' ⟨rfl, rfl⟩
    go_wp2_with fail
    go_ret
    exact ⟨ret_int HD.out, rfl⟩
end Go.Proofs.YtpdehgkkpgjpnaaGreatDoor
/-
  The walks of the reference's Days and Of.
-/
namespace Go.Proofs.YtpdehgkkpgjpnaaGreatDoor
set_option maxRecDepth 100000
open Go.RowKit
set_option maxRecDepth 100000 in
set_option maxHeartbeats 4000000 in
theorem rof_x (n : Int) (w : World) (hn9 : n ≤ 9223372036854775807) : Calls Tryz.prog 57 #[.int .i64 n] w (OfPost n w) := by
  by_cases h1 : n < 0
  · have HV := Lib.hid (ofV_no (n := n) (by omega))
    have d1 : decide (n < 0) = true := decide_eq_true h1
    go_enter Tryz.func57, Tryz.ntmps57
    go_wp2_with fail
    exact bodyPost_ret (v := .tuple #[.agg #[.int .i64 0, .int .i64 0, .int .i64 0], .int .i64 1]) (by simp [results, Tryz.results57, go_sem]) rfl (of_end HV.out ((Below.refl _ _).alloc (Nat.le_refl _) _))
  · have d1 : decide (n < 0) = false := decide_eq_false h1
    have HB0 := Lib.hid beg_0
    have HY := Lib.hid (fun (j : Int) (w' : World) => ryear_x j w')
    have HL := Lib.hid (fun (y m : Int) (w' : World) => rlen_x y m w')
    go_enter Tryz.func57, Tryz.ntmps57
    go_wp2_with fail
    go_loop [0, 4] (fun a k => ∃ j : Int, 1970 ≤ j ∧ j ≤ 10000 ∧ k = .int .i64 j ∧ a = .int .i64 (n - begD j) ∧ 0 ≤ n - begD j) (fun _ k => (10000 - intOf k).toNat)
    case atStart => exact ⟨1970, by omega, by omega, rfl, by rw [HB0.out, Int.sub_zero], by rw [HB0.out]; omega⟩
    case round =>
      obtain ⟨j, hj1, hj2, rfl, rfl, hge0⟩ := hrel
      have hlp := lp_01 j
      by_cases hj : j ≤ 9999
      · have hbb := beg_bd (y := j) (by omega) (by omega)
        have hbe := beg_mono (a := j + 1) (b := 10000) (by omega)
        have HBS := Lib.hid (beg_succ j)
        have hbs := HBS.out
        have hend := beg_end
        have HJ := Lib.hid (HY.out j)
        have HLj := Lib.hid (HL.out j)
        have HO := Lib.hid (fun (i : Int) => of_at (n := n) (y := j) (m := i) (by omega) (by omega))
        have HC1 := Lib.hid (cum_1 j)
        have HC13 := Lib.hid (cum_13 j)
        have HCS := Lib.hid (cum_succ j)
        have HCB := Lib.hid (fun (i : Int) => cum_bd j (m := i))
        have HDL := Lib.hid (dim_le j)
        by_cases hge : 365 + lpD j ≤ n - begD j
        · clear hbs hend hbe HO HCS HCB HDL HC1 HC13 HLj
          generalize begD j = bg at HBS hbb hge hge0
          generalize lpD j = lj at HBS HJ hlp hge
          go_wp2_with fail
          refine (HJ.out _).mono ?_
          rintro e w' ⟨rfl, rfl⟩
          go_wp2_with fail
          refine (HJ.out _).mono ?_
          rintro e w' ⟨rfl, rfl⟩
          go_wp2_with fail
          go_round
          case rel => exact ⟨j + 1, by omega, by omega, rfl, by rw [HBS.out]; congr 1; omega, by rw [HBS.out]; omega⟩
          case measure => simp [intOf]; omega
        · have hlt : n - begD j < 365 + lpD j := by omega
          clear hge hbs hend hbe
          generalize begD j = bg at HO hbb hlt hge0
          generalize hlv : lpD j = lj at HJ hlp hlt HC13 HCB
          clear hlv
          go_wp2_with fail
          refine (HJ.out _).mono ?_
          rintro e w' ⟨rfl, rfl⟩
          go_wp2_with fail
          go_loop [0, 5] (fun a k => ∃ i : Int, 1 ≤ i ∧ i ≤ 13 ∧ k = .int .i64 i ∧ a = .int .i64 (n - bg - cumD j i) ∧ 0 ≤ n - bg - cumD j i) (fun _ k => (13 - intOf k).toNat)
          case atStart => exact ⟨1, by omega, by omega, rfl, by rw [HC1.out, Int.sub_zero], by rw [HC1.out]; omega⟩
          case round =>
            obtain ⟨i, hi1, hi2, rfl, rfl, hge⟩ := hrel
            have hi12 : i ≤ 12 := by
              rcases Int.lt_or_le 12 i with h | h
              · obtain rfl : i = 13 := by omega
                have := HC13.out
                omega
              · exact h
            have cb := HCB.out i (by omega) (by omega)
            have hdl := HDL.out i
            have CS := Lib.hid (HCS.out i hi1 hi12)
            have HK := Lib.hid (HLj.out i)
            have HOi := Lib.hid (HO.out i)
            generalize dimD j i = dj at CS HK hdl HOi
            generalize cumD j i = cj at CS HOi hge cb
            by_cases hd : n - bg - cj < dj
            · have HV := Lib.hid (HOi.out hge hd)
              go_wp2_with fail
              refine (HK.out _).mono ?_
              rintro e w' ⟨rfl, rfl⟩
              go_wp2_with fail
              exact bodyPost_ret (v := .tuple #[.agg #[.int .i64 j, .int .i64 i, .int .i64 (n - bg - cj + 1)], .int .i64 0]) (by simp [results, Tryz.results57, go_sem]) rfl (of_end HV.out ((Below.refl _ _).alloc (Nat.le_refl _) _))
            · go_wp2_with fail
              refine (HK.out _).mono ?_
              rintro e w' ⟨rfl, rfl⟩
              go_wp2_with fail
              refine (HK.out _).mono ?_
              rintro e w' ⟨rfl, rfl⟩
              go_wp2_with fail
              go_round
              case rel => exact ⟨i + 1, by omega, by omega, rfl, by rw [CS.out]; congr 1; omega, by rw [CS.out]; omega⟩
              case measure => simp [intOf]; omega
      · obtain rfl : j = 10000 := by omega
        have hend := beg_end
        have HV := Lib.hid (ofV_no (n := n) (by omega))
        clear hend
        generalize begD 10000 = bg at hge0
        go_wp2_with fail
        exact bodyPost_ret (v := .tuple #[.agg #[.int .i64 0, .int .i64 0, .int .i64 0], .int .i64 1]) (by simp [results, Tryz.results57, go_sem]) rfl (of_end HV.out ((Below.refl _ _).alloc (Nat.le_refl _) _))
end Go.Proofs.YtpdehgkkpgjpnaaGreatDoor
/-
  The walks of the reference's digits and Print.
-/
namespace Go.Proofs.YtpdehgkkpgjpnaaGreatDoor
set_option maxRecDepth 100000
open Go.RowKit
/-- The last k digits of a number. -/
def lastX (n : Nat) : Nat → List UInt8
  | 0 => []
  | k + 1 => dg (n / 10 ^ k % 10) :: lastX n k
theorem lastX_len (n : Nat) : ∀ k, (lastX n k).length = k
  | 0 => rfl
  | k + 1 => by rw [lastX, List.length_cons, lastX_len n k]
theorem last_2 {n : Nat} (h : n < 100) : lastX n 2 = b2 n := by
  show [dg (n / 10 ^ 1 % 10), dg (n / 10 ^ 0 % 10)] = [dg (n / 10), dg (n % 10)]
  rw [show n / 10 ^ 1 % 10 = n / 10 by omega, show n / 10 ^ 0 % 10 = n % 10 by omega]
theorem last_4 {n : Nat} (h : n < 10000) : lastX n 4 = b4 n := by
  show [dg (n / 10 ^ 3 % 10), dg (n / 10 ^ 2 % 10), dg (n / 10 ^ 1 % 10), dg (n / 10 ^ 0 % 10)] = [dg (n / 1000), dg (n / 100 % 10), dg (n / 10 % 10), dg (n % 10)]
  rw [show n / 10 ^ 3 % 10 = n / 1000 by omega, show n / 10 ^ 2 % 10 = n / 100 % 10 by omega, show n / 10 ^ 1 % 10 = n / 10 % 10 by omega, show n / 10 ^ 0 % 10 = n % 10 by omega]
theorem conv_one (w : World) (x : Int) (n : Nat) (hn : n < 10) (hx : x = n) (c : Nat) (hc : c = w.heap.size) : (convert 71 9 (.slice (some ⟨c, 0, none⟩) 1 1)).run Tryz.prog (w.alloc (.cells #[.int .u8 (48 + x)] 5)) = .ok (.string (mkS [dg n])) (w.alloc (.cells #[.int .u8 (48 + x)] 5)) := by
  have e : (48 : Int) + x = ((dg n).toNat : Int) := by rw [dg_nat hn]; omega
  subst hc
  rw [e]
  exact conv_bytes _ _ [dg n] 1 1 rfl (cells_new w [dg n] #[.int .u8 ((dg n).toNat : Int)] rfl w.heap.size rfl)
theorem cat_one (b : UInt8) (l : List UInt8) : mkS [b] ++ mkS l = mkS (b :: l) := by rw [mkS_cat]; rfl
set_option maxRecDepth 100000 in
set_option maxHeartbeats 2000000 in
theorem rdig_x (n k : Nat) (w : World) (hn : n < 10000) (hk : k ≤ 4) : Calls Tryz.prog 58 #[.int .i64 (n : Int), .int .i64 (k : Int)] w fun e w' => e = .returned (.string (mkS (lastX n k))) ∧ Below w.heap.size w w' := by
  have HW := Lib.hid (Below.refl w.heap.size w)
  go_enter Tryz.func58, Tryz.ntmps58
  go_wp2_with fail
  go_loopw [0, 5, 6] (fun a s i wr => ∃ j q : Nat, j ≤ k ∧ i = .int .i64 j ∧ s = .string (mkS (lastX n j)) ∧ a = .int .i64 (q : Int) ∧ q < 10000 ∧ Hid (q = n / 10 ^ j) ∧ Hid (Below w.heap.size w wr)) (fun _ _ i _ => k - (intOf i).toNat)
  case atStart => exact ⟨0, n, Nat.zero_le _, rfl, rfl, rfl, hn, by show n = n / 10 ^ 0; omega, HW.out⟩
  case round =>
    obtain ⟨j, q, hj, rfl, rfl, rfl, hq, HQ, HB⟩ := hrel
    by_cases hlt : j < k
    · have hcv := conv_one wr ((q : Int) % 10) (q % 10) (by omega) (by omega) _ rfl
      have HL := Lib.hid (show lastX n (j + 1) = dg (q % 10) :: lastX n j by rw [lastX, HQ.out])
      have hz := mkS_size (lastX n j)
      rw [lastX_len] at hz
      have hz1 : (mkS [dg (q % 10)]).size = 1 := rfl
      have hct := cat_one (dg (q % 10)) (lastX n j)
      generalize lastX n j = ls at HL hz hct
      go_wp2_with fail
      go_roundw
      case rel => exact ⟨j + 1, q / 10, by omega, by go_num, by rw [HL.out], by go_num, by omega, by show q / 10 = n / 10 ^ (j + 1); rw [HQ.out, Nat.div_div_eq_div_mul, Nat.pow_succ], HB.out.alloc HB.out.size _⟩
      case measure => simp [intOf]; omega
    · obtain rfl : j = k := by omega
      go_wp2_with fail
      go_ret
      exact ⟨rfl, HB.out⟩
theorem dig2_x (v : Int) (w : World) (h0 : 0 ≤ v) (h1 : v < 100) : Calls Tryz.prog 58 #[.int .i64 v, .int .i64 2] w fun e w' => e = .returned (.string (mkS (b2 v.toNat))) ∧ Below w.heap.size w w' := by
  obtain ⟨n, rfl⟩ : ∃ n : Nat, v = n := ⟨v.toNat, by omega⟩
  rw [Int.toNat_natCast, ← last_2 (by omega)]
  exact rdig_x n 2 w (by omega) (by omega)
theorem dig4_x (v : Int) (w : World) (h0 : 0 ≤ v) (h1 : v < 10000) : Calls Tryz.prog 58 #[.int .i64 v, .int .i64 4] w fun e w' => e = .returned (.string (mkS (b4 v.toNat))) ∧ Below w.heap.size w w' := by
  obtain ⟨n, rfl⟩ : ∃ n : Nat, v = n := ⟨v.toNat, by omega⟩
  rw [Int.toNat_natCast, ← last_4 (by omega)]
  exact rdig_x n 4 w (by omega) (by omega)
/-- What the statement that lays the text keeps: the date in its box. -/
structure RP (w0 : World) (B : Nat) (y m d : Int) (w : World) : Prop where
  box : w.heap[B]? = some (.cells #[.int .i64 y, .int .i64 m, .int .i64 d] 95 (0, 0))
  below : Below w0.heap.size w0 w
theorem rp_new {w0 w1 : World} (h : Below w0.heap.size w0 w1) (y m d : Int) : RP w0 w1.heap.size y m d (w1.alloc (.cells #[.int .i64 y, .int .i64 m, .int .i64 d] 95)) := ⟨newOf w1 _, h.alloc h.size _⟩
theorem RP.next {w0 w w' : World} {B : Nat} {y m d : Int} (h : RP w0 B y m d w) (hb : Below w.heap.size w w') : RP w0 B y m d w' := ⟨(hb.block _ (ltOf h.box)).trans h.box, below_next h.below hb⟩
theorem RP.drew {w0 w : World} {B : Nat} {y m d : Int} (h : RP w0 B y m d w) : RP w0 B y m d w.drew := ⟨h.box, ⟨h.below.os, h.below.tape, h.below.output, h.below.size, h.below.block⟩⟩
theorem RP.cells {w0 w : World} {B : Nat} {y m d : Int} (h : RP w0 B y m d w) : w.cell? ⟨B, 0, none⟩ = some (.int .i64 y) ∧ w.cell? ⟨B, 1, none⟩ = some (.int .i64 m) ∧ w.cell? ⟨B, 2, none⟩ = some (.int .i64 d) ∧ Hid (RP w0 B y m d w) :=
  ⟨cellOf h.box 0, cellOf h.box 1, cellOf h.box 2, h⟩
theorem rp2_x {w0 w : World} {B : Nat} {y m d : Int} (h : Hid (RP w0 B y m d w)) (v : Int) (hv : 0 ≤ v ∧ v < 100) : Calls Tryz.prog 58 #[.int .i64 v, .int .i64 2] w fun e w' => e = .returned (.string (mkS (b2 v.toNat))) ∧ w'.cell? ⟨B, 0, none⟩ = some (.int .i64 y) ∧ w'.cell? ⟨B, 1, none⟩ = some (.int .i64 m) ∧ w'.cell? ⟨B, 2, none⟩ = some (.int .i64 d) ∧ Hid (RP w0 B y m d w') :=
  (dig2_x v w hv.1 hv.2).mono fun _ _ ⟨he, hb⟩ => ⟨he, (h.out.next hb).cells⟩
theorem rp4_x {w0 w : World} {B : Nat} {y m d : Int} (h : Hid (RP w0 B y m d w)) (v : Int) (hv : 0 ≤ v ∧ v < 10000) : Calls Tryz.prog 58 #[.int .i64 v, .int .i64 4] w fun e w' => e = .returned (.string (mkS (b4 v.toNat))) ∧ w'.cell? ⟨B, 0, none⟩ = some (.int .i64 y) ∧ w'.cell? ⟨B, 1, none⟩ = some (.int .i64 m) ∧ w'.cell? ⟨B, 2, none⟩ = some (.int .i64 d) ∧ Hid (RP w0 B y m d w') :=
  (dig4_x v w hv.1 hv.2).mono fun _ _ ⟨he, hb⟩ => ⟨he, (h.out.next hb).cells⟩
theorem cat_text (a b c d e f : List UInt8) : mkS a ++ { data := #[45] } ++ mkS b ++ { data := #[45] } ++ mkS c ++ { data := #[84] } ++ mkS d ++ { data := #[58] } ++ mkS e ++ { data := #[58] } ++ mkS f ++ { data := #[90] } = mkS (a ++ [45] ++ b ++ [45] ++ c ++ [84] ++ d ++ [58] ++ e ++ [58] ++ f ++ [90]) := by
  simp only [show ({ data := #[45] } : ByteArray) = mkS [45] from rfl, show ({ data := #[84] } : ByteArray) = mkS [84] from rfl, show ({ data := #[58] } : ByteArray) = mkS [58] from rfl, show ({ data := #[90] } : ByteArray) = mkS [90] from rfl, mkS_cat]
def RPrintPost (t : Int) (w : World) (e : Ending) (w' : World) : Prop := e = .returned (.tuple #[.string (mkS (printS t)), .int .i64 (printE t)]) ∧ Below w.heap.size w w'
theorem rprint_end {t : Int} {q : ByteArray} {w w' : World} (h1 : mkS (printS t) = q) (h2 : printE t = 0) (hb : Below w.heap.size w w') : RPrintPost t w (.returned (.tuple #[.string q, .int .i64 0])) w' := ⟨by rw [h1, h2], hb⟩
set_option maxRecDepth 100000 in
set_option maxHeartbeats 1000000 in
theorem rprint_no (t : Int) (w : World) (ht : t < 0 ∨ 253402300799 < t) : Calls Tryz.prog 28 #[.int .i64 t] w (RPrintPost t w) := by
  have hf : timB t = false := Bool.eq_false_iff.2 fun e => by have := timB_iff.1 e; omega
  have HS := Lib.hid (print_none hf)
  clear hf
  by_cases h1 : t < 0
  · have d1 : decide (t < 0) = true := decide_eq_true h1
    go_enter Tryz.func28, Tryz.ntmps28
    go_wp2_with fail
    go_ret2
    exact ⟨by rw [HS.out.1, HS.out.2]; rfl, Below.refl _ _⟩
  · have d1 : decide (t < 0) = false := decide_eq_false h1
    have d2 : decide (253402300799 < t) = true := decide_eq_true (by omega)
    go_enter Tryz.func28, Tryz.ntmps28
    go_wp2_with fail
    go_ret2
    exact ⟨by rw [HS.out.1, HS.out.2]; rfl, Below.refl _ _⟩
set_option maxRecDepth 100000 in
set_option maxHeartbeats 8000000 in
theorem rprint_yes (t : Int) (w : World) (h0 : 0 ≤ t) (h1 : t ≤ 253402300799) : Calls Tryz.prog 28 #[.int .i64 t] w (RPrintPost t w) := by
  have ht : timB t = true := timB_iff.2 ⟨h0, h1⟩
  have d1 : decide (t < 0) = false := decide_eq_false (by omega)
  have d2 : decide (253402300799 < t) = false := decide_eq_false (by omega)
  have HO := Lib.hid (rof_x (t / 86400) w (by omega))
  have hsp := ofD_spec (n := t / 86400) (by omega) (by omega)
  have HE := Lib.hid (show ofV (t / 86400) = .tuple #[.agg #[.int .i64 (ofD (t / 86400)).1, .int .i64 (ofD (t / 86400)).2.1, .int .i64 (ofD (t / 86400)).2.2], .int .i64 0] by rw [ofV, ofE, if_pos (by omega)])
  have HS := Lib.hid (show mkS (printS t) = mkS (textX (ofD (t / 86400)).1.toNat (ofD (t / 86400)).2.1.toNat (ofD (t / 86400)).2.2.toNat (t % 86400 / 3600).toNat (t % 86400 % 3600 / 60).toNat (t % 86400 % 60).toNat) ∧ printE t = 0 by
    unfold printS printE printX
    rw [ht, show t % 86400 % 3600 = t % 3600 by omega, show t % 86400 % 60 = t % 60 by omega]
    exact ⟨rfl, rfl⟩)
  unfold OfPost at HO
  rw [HE.out] at HO
  generalize (ofD (t / 86400)).1 = y at *
  generalize (ofD (t / 86400)).2.1 = m at *
  generalize (ofD (t / 86400)).2.2 = d at *
  have hv := hsp.1
  have hm := hv.m
  have hd := hv.d31
  have hd1 := hv.d1
  have hy1 := hv.y1
  have hy2 := hv.y2
  clear hsp ht hv HE
  go_enter Tryz.func28, Tryz.ntmps28
  go_wp2_with fail
  refine HO.out.mono ?_
  rintro e w1 ⟨rfl, hb1⟩
  have HB1 := Lib.hid hb1
  clear hb1
  go_wp2_with fail
  have hT : 0 ≤ t % 86400 ∧ t % 86400 < 86400 := by omega
  generalize t % 86400 = T at HS hT
  have q1 : IntKind.i64.wrap (T.tdiv 3600) = T / 3600 := IntWalk.i64_quo _ _ (by omega)
  have q2 : T.tmod 3600 = T % 3600 := IntWalk.rem_in _ _ (by omega)
  have q3 : IntKind.i64.wrap ((T % 3600).tdiv 60) = T % 3600 / 60 := IntWalk.i64_quo _ _ (by omega)
  have q4 : T.tmod 60 = T % 60 := IntWalk.rem_in _ _ (by omega)
  have z0 : (mkS (b4 y.toNat)).size = 4 := rfl
  have z1 : (mkS (b2 m.toNat)).size = 2 := rfl
  have z2 : (mkS (b2 d.toNat)).size = 2 := rfl
  have z3 : (mkS (b2 (T / 3600).toNat)).size = 2 := rfl
  have z4 : (mkS (b2 (T % 3600 / 60).toNat)).size = 2 := rfl
  have z5 : (mkS (b2 (T % 60).toNat)).size = 2 := rfl
  have b1 : 0 ≤ y ∧ y < 10000 := by omega
  have b2' : 0 ≤ m ∧ m < 100 := by omega
  have b3 : 0 ≤ d ∧ d < 100 := by omega
  have b4' : 0 ≤ T / 3600 ∧ T / 3600 < 100 := by omega
  have b5 : 0 ≤ T % 3600 / 60 ∧ T % 3600 / 60 < 100 := by omega
  have b6 : 0 ≤ T % 60 ∧ T % 60 < 100 := by omega
  have B1 := Lib.hid b1
  have B2 := Lib.hid b2'
  have B3 := Lib.hid b3
  have B4 := Lib.hid b4'
  have B5 := Lib.hid b5
  have B6 := Lib.hid b6
  clear b1 b2' b3 b4' b5 b6 hm hd hd1 hy1 hy2 hT
  have HP := Lib.hid (rp_new HB1.out y m d)
  go_region_held3 (fun wr => wr.cell? ⟨w1.heap.size, 0, none⟩ = some (.int .i64 y) ∧ wr.cell? ⟨w1.heap.size, 1, none⟩ = some (.int .i64 m) ∧ wr.cell? ⟨w1.heap.size, 2, none⟩ = some (.int .i64 d) ∧ Hid (RP w w1.heap.size y m d wr))
    (first | exact HP.out.drew.cells | exact HP.out.cells | exact ⟨by assumption, by assumption, by assumption, by assumption⟩)
    (first
      | (go_at_call 58; (with_reducible refine (rp4_x (w0 := w) (B := w1.heap.size) (y := y) (m := m) (d := d) ?_ y B1.out).mono ?_); (first | exact Lib.hid HP.out.drew | assumption | exact Lib.hid HP.out); rintro e w2 ⟨rfl, g0, g1, g2, g3⟩)
      | (go_at_call 58; (with_reducible refine (rp2_x (w0 := w) (B := w1.heap.size) (y := y) (m := m) (d := d) ?_ m B2.out).mono ?_); (first | exact Lib.hid HP.out.drew | assumption | exact Lib.hid HP.out); rintro e w2 ⟨rfl, g0, g1, g2, g3⟩)
      | (go_at_call 58; (with_reducible refine (rp2_x (w0 := w) (B := w1.heap.size) (y := y) (m := m) (d := d) ?_ d B3.out).mono ?_); (first | exact Lib.hid HP.out.drew | assumption | exact Lib.hid HP.out); rintro e w2 ⟨rfl, g0, g1, g2, g3⟩)
      | (go_at_call 58; (with_reducible refine (rp2_x (w0 := w) (B := w1.heap.size) (y := y) (m := m) (d := d) ?_ (T / 3600) B4.out).mono ?_); (first | exact Lib.hid HP.out.drew | assumption | exact Lib.hid HP.out); rintro e w2 ⟨rfl, g0, g1, g2, g3⟩)
      | (go_at_call 58; (with_reducible refine (rp2_x (w0 := w) (B := w1.heap.size) (y := y) (m := m) (d := d) ?_ (T % 3600 / 60) B5.out).mono ?_); (first | exact Lib.hid HP.out.drew | assumption | exact Lib.hid HP.out); rintro e w2 ⟨rfl, g0, g1, g2, g3⟩)
      | (go_at_call 58; (with_reducible refine (rp2_x (w0 := w) (B := w1.heap.size) (y := y) (m := m) (d := d) ?_ (T % 60) B6.out).mono ?_); (first | exact Lib.hid HP.out.drew | assumption | exact Lib.hid HP.out); rintro e w2 ⟨rfl, g0, g1, g2, g3⟩))
  all_goals
    have HF := Lib.hid g3.out.below
    clear q1 q2 q3 q4 g0 g1 g2 g3
    go_wp2_with fail
    go_ret2
    exact rprint_end (by rw [HS.out.1, textX, cat_text]) HS.out.2 HF.out
theorem rprint_x (t : Int) (w : World) : Calls Tryz.prog 28 #[.int .i64 t] w (RPrintPost t w) := by
  by_cases h : 0 ≤ t ∧ t ≤ 253402300799
  · exact rprint_yes t w h.1 h.2
  · exact rprint_no t w (by omega)
end Go.Proofs.YtpdehgkkpgjpnaaGreatDoor
