/-
  The walk of the reference's PrintRcpt.
-/
import Derived.Test.YtpdehgkkpgjpnaaGreatDoorPaRrR
import Derived.Test.YtpdehgkkpgjpnaaGreatDoorPaRpM
import Derived.Test.YtpdehgkkpgjpnaaGreatDoorPaPrR
namespace Go.Proofs.YtpdehgkkpgjpnaaGreatDoor
set_option maxRecDepth 100000
open Go.RowKit
theorem join_snocC (c : UInt8) : ∀ (l : List Txt) (x : Txt), l ≠ [] → joinC c (l ++ [x]) = joinC c l ++ [c] ++ x
  | [], _, h => absurd rfl h
  | [a], x, _ => by simp [joinC]
  | a :: b :: r, x, _ => by
    have ih := join_snocC c (b :: r) x (by simp)
    show a ++ c :: joinC c ((b :: r) ++ [x]) = (a ++ c :: joinC c (b :: r)) ++ [c] ++ x
    rw [ih]; simp
def name1 (b : UInt8) : Txt := if b = 78 then tNE else if b = 83 then tSU else if b = 70 then tFA else if b = 68 then tDE else []
theorem name1_len (b : UInt8) : (name1 b).length ≤ 7 := by
  unfold name1
  split
  · decide
  split
  · decide
  split
  · decide
  split
  · decide
  · simp
def vK (l : Txt) (k : Nat) : Txt := joinC 44 ((l.take k).map name1)
theorem vK_step {l : Txt} {k : Nat} {x : UInt8} (h : l[k]? = some x) : vK l (k + 1) = (if 0 < k then vK l k ++ [44] else vK l k) ++ name1 x := by
  unfold vK
  have hl : k < l.length := (List.getElem?_eq_some_iff.1 h).1
  rw [List.take_add_one, h]
  simp only [Option.toList_some, List.map_append, List.map_cons, List.map_nil]
  by_cases h0 : 0 < k
  · rw [if_pos h0, join_snocC 44 _ _ (by intro e; have := congrArg List.length e; rw [List.length_map, List.length_take, List.length_nil] at this; omega)]
  · obtain rfl : k = 0 := by omega
    rfl
theorem vK_len (l : Txt) : ∀ k, k ≤ l.length → (vK l k).length ≤ 8 * k
  | 0, _ => by simp [vK, joinC]
  | k + 1, h => by
    have ih := vK_len l k (by omega)
    rw [vK_step (List.getElem?_eq_getElem (by omega : k < l.length)), List.length_append]
    have := name1_len (l[k]'(by omega))
    split
    · simp; omega
    · omega
theorem row_names : ∀ x ∈ rowN, joinC 44 (x.map name1) = namesV x ∧ (namesV x == []) = (x == []) ∧ x.length ≤ 3 ∧ ∀ b ∈ x, b = 78 ∨ b = 83 ∨ b = 70 ∨ b = 68 := by decide +kernel
theorem RX.cls {W w : World} {g : Nat} {r : RL} (h : RX W g r w) : ∃ (Y : Type) (F : Y → World) (y0 : Y), F y0 = w.drew ∧ (∀ y, RX W g r (F y)) ∧ (∀ w', RX W g r w' → ∃ y, w' = F y) :=
  ⟨{ w' // RX W g r w' }, Subtype.val, ⟨_, h.drew⟩, rfl, fun y => y.2, fun w' h => ⟨⟨w', h⟩, rfl⟩⟩
theorem RX.qsame {W : World} {g : Nat} {r : RL} {Y : Type} {F : Y → World} {y : Y} (h : (∀ y, RX W g r (F y)) ∧ (∀ w', RX W g r w' → ∃ y, w' = F y)) {f : FuncId} {args : Array Value} {v : Value} (H : Calls Tryz.prog f args (F y) fun e w' => e = .returned v ∧ w' = F y) :
    Calls Tryz.prog f args (F y) fun e w' => e = .returned v ∧ ∃ y, w' = F y := H.mono fun _ _ ⟨he, hb⟩ => ⟨he, h.2 _ (by rw [hb]; exact h.1 y)⟩
set_option maxHeartbeats 16000000 in
theorem rprintR_x (r : RL) (w : World) (hk : r.kind.length ≤ 100000) : Calls Tryz.prog 13 #[.agg #[.string (mkS r.no), .string (mkS r.kind), .string (mkS r.oc)]] w fun e w' => e = .returned (.tuple #[.string (mkS (printR r)), .int .i64 (rightR r)]) ∧ Below w.heap.size w w' := by
  have H0 := Lib.hid (RX.new w r)
  have HR := Lib.hid (fun w' => rrightR_x r w' hk)
  have HP0 := Lib.hid (show rightR r ≠ 0 → printR r = [] from fun h => if_neg h)
  have HP1 := Lib.hid (show rightR r = 0 → printR r = (wdR r).foldl (fun s t => moreV s t.1 (t.2.1 ++ [61] ++ t.2.2)) [] from fun h => by
    rw [printR, if_pos h]
    exact (fold_more (wdR r) [] (by unfold wdR; simp [kNO, kOR]) (by simp)).symm)
  have HL := Lib.hid (fun h => rightR_len (r := r) h)
  have HN := Lib.hid (show rightR r = 0 → r.no ∈ rowN from fun h => by
    rw [← List.contains_iff_mem, rowN_eq]
    unfold rightR at h
    cases hq : (r.no == [78] || r.no == ordV r.no)
    · rw [hq, if_pos rfl] at h; cases h
    · rfl)
  generalize rightR r = E at HR HP0 HP1 HL HN ⊢
  clear hk
  go_enter Tryz.func13, Tryz.ntmps13
  have c0 := H0.out.c0
  have c1 := H0.out.c1
  have c2 := H0.out.c2
  go_wp2_with fail
  clear c0 c1 c2
  generalize w.alloc (.cells #[.string (mkS r.no), .string (mkS r.kind), .string (mkS r.oc)] 41) = W0 at H0 ⊢
  refine (HR.out _).mono ?_
  rintro e w1 ⟨rfl, hb⟩
  have T := Lib.hid (H0.out.next hb)
  clear hb H0 HR
  by_cases hE : E ≠ 0
  · have hEb : (E == 0) = false := beq_eq_false_iff_ne.2 hE
    have HV := Lib.hid (HP0.out hE)
    clear HP1 HL HN
    go_wp2_with fail
    refine bodyPost_ret (v := .tuple #[.string { data := #[] }, .int .i64 E]) (by simp [results, Tryz.results13, go_sem]) rfl ?_
    exact ⟨by rw [HV.out]; rfl, T.out.below⟩
  obtain rfl := Decidable.not_not.1 hE
  clear hE
  obtain ⟨n1, n2, n3, n4⟩ := row_names _ (HN.out rfl)
  have HB := Lib.hid n4
  obtain ⟨lk, lo⟩ := HL.out rfl
  have hPV := HP1.out rfl
  clear HP0 HP1 HL HN n4
  replace hPV : printR r = moreV (moreV [] (!(r.no == [])) (kNO ++ [61] ++ namesV r.no)) (!(r.kind == [])) (kOR ++ [61] ++ (r.kind ++ [59] ++ X.encX r.oc)) := hPV
  rw [← n2] at hPV
  have HVK := Lib.hid (show vK r.no r.no.length = namesV r.no by rw [vK, List.take_length, n1])
  have hVl : (namesV r.no).length ≤ 24 := by have := vK_len r.no r.no.length (Nat.le_refl _); rw [HVK.out] at this; omega
  have hno := mkS_size r.no
  clear n1 n2
  have c0 := T.out.c0
  go_wp2_with fail
  go_loop [5, 6] (fun v i => ∃ k : Nat, k ≤ r.no.length ∧ i = .int .i64 k ∧ v = .string (mkS (vK r.no k))) (fun _ i => r.no.length - (intOf i).toNat)
  case atStart => exact ⟨0, Nat.zero_le _, rfl, rfl⟩
  case round =>
    obtain ⟨k, hk, rfl, rfl⟩ := hrel
    by_cases hlt : k < r.no.length
    · obtain ⟨x, hX, hx2⟩ := get_at hlt
      have HS := Lib.hid (vK_step hX)
      have hvl := vK_len r.no k hk
      have hxm := HB.out x (List.mem_of_getElem? hX)
      have hz := mkS_size (vK r.no k)
      generalize vK r.no k = v at HS hvl hz
      clear hX HVK
      by_cases h0 : 0 < k
      · have h0' : (0 : Int) < (k : Int) := by omega
        rw [if_pos h0] at HS
        have u0 : ¬ 9223372036854775807 < v.length + 1 := by omega
        have u1 : ¬ 9223372036854775807 < v.length + 1 + 5 := by omega
        have u2 : ¬ 9223372036854775807 < v.length + 1 + 7 := by omega
        clear hvl hVl
        rcases hxm with rfl | rfl | rfl | rfl
        · have hct : mkS v ++ { data := #[44] } ++ { data := #[78, 69, 86, 69, 82] } = mkS (vK r.no (k + 1)) := by rw [HS.out, show ({ data := #[44] } : ByteArray) = mkS [44] from rfl, show ({ data := #[78, 69, 86, 69, 82] } : ByteArray) = mkS tNE from rfl, mkS_cat, mkS_cat]; rfl
          have HC := Lib.hid hct
          clear HS hct
          go_wp2_with fail
          go_round
          case rel => exact ⟨k + 1, by omega, by go_num, by rw [← HC.out]⟩
          case measure => simp [intOf]; omega
        · have hct : mkS v ++ { data := #[44] } ++ { data := #[83, 85, 67, 67, 69, 83, 83] } = mkS (vK r.no (k + 1)) := by rw [HS.out, show ({ data := #[44] } : ByteArray) = mkS [44] from rfl, show ({ data := #[83, 85, 67, 67, 69, 83, 83] } : ByteArray) = mkS tSU from rfl, mkS_cat, mkS_cat]; rfl
          have HC := Lib.hid hct
          clear HS hct
          go_wp2_with fail
          go_round
          case rel => exact ⟨k + 1, by omega, by go_num, by rw [← HC.out]⟩
          case measure => simp [intOf]; omega
        · have hct : mkS v ++ { data := #[44] } ++ { data := #[70, 65, 73, 76, 85, 82, 69] } = mkS (vK r.no (k + 1)) := by rw [HS.out, show ({ data := #[44] } : ByteArray) = mkS [44] from rfl, show ({ data := #[70, 65, 73, 76, 85, 82, 69] } : ByteArray) = mkS tFA from rfl, mkS_cat, mkS_cat]; rfl
          have HC := Lib.hid hct
          clear HS hct
          go_wp2_with fail
          go_round
          case rel => exact ⟨k + 1, by omega, by go_num, by rw [← HC.out]⟩
          case measure => simp [intOf]; omega
        · have hct : mkS v ++ { data := #[44] } ++ { data := #[68, 69, 76, 65, 89] } = mkS (vK r.no (k + 1)) := by rw [HS.out, show ({ data := #[44] } : ByteArray) = mkS [44] from rfl, show ({ data := #[68, 69, 76, 65, 89] } : ByteArray) = mkS tDE from rfl, mkS_cat, mkS_cat]; rfl
          have HC := Lib.hid hct
          clear HS hct
          go_wp2_with fail
          go_round
          case rel => exact ⟨k + 1, by omega, by go_num, by rw [← HC.out]⟩
          case measure => simp [intOf]; omega
      · have h0' : ¬ (0 : Int) < (k : Int) := by omega
        rw [if_neg h0] at HS
        have u1 : ¬ 9223372036854775807 < v.length + 5 := by omega
        have u2 : ¬ 9223372036854775807 < v.length + 7 := by omega
        clear hvl hVl
        rcases hxm with rfl | rfl | rfl | rfl
        · have hct : mkS v ++ { data := #[78, 69, 86, 69, 82] } = mkS (vK r.no (k + 1)) := by rw [HS.out, show ({ data := #[78, 69, 86, 69, 82] } : ByteArray) = mkS tNE from rfl, mkS_cat]; rfl
          have HC := Lib.hid hct
          clear HS hct
          go_wp2_with fail
          go_round
          case rel => exact ⟨k + 1, by omega, by go_num, by rw [← HC.out]⟩
          case measure => simp [intOf]; omega
        · have hct : mkS v ++ { data := #[83, 85, 67, 67, 69, 83, 83] } = mkS (vK r.no (k + 1)) := by rw [HS.out, show ({ data := #[83, 85, 67, 67, 69, 83, 83] } : ByteArray) = mkS tSU from rfl, mkS_cat]; rfl
          have HC := Lib.hid hct
          clear HS hct
          go_wp2_with fail
          go_round
          case rel => exact ⟨k + 1, by omega, by go_num, by rw [← HC.out]⟩
          case measure => simp [intOf]; omega
        · have hct : mkS v ++ { data := #[70, 65, 73, 76, 85, 82, 69] } = mkS (vK r.no (k + 1)) := by rw [HS.out, show ({ data := #[70, 65, 73, 76, 85, 82, 69] } : ByteArray) = mkS tFA from rfl, mkS_cat]; rfl
          have HC := Lib.hid hct
          clear HS hct
          go_wp2_with fail
          go_round
          case rel => exact ⟨k + 1, by omega, by go_num, by rw [← HC.out]⟩
          case measure => simp [intOf]; omega
        · have hct : mkS v ++ { data := #[68, 69, 76, 65, 89] } = mkS (vK r.no (k + 1)) := by rw [HS.out, show ({ data := #[68, 69, 76, 65, 89] } : ByteArray) = mkS tDE from rfl, mkS_cat]; rfl
          have HC := Lib.hid hct
          clear HS hct
          go_wp2_with fail
          go_round
          case rel => exact ⟨k + 1, by omega, by go_num, by rw [← HC.out]⟩
          case measure => simp [intOf]; omega
    · obtain rfl : k = r.no.length := by omega
      rw [HVK.out]
      clear hk hlt HVK HB
      have hT1 := mkS_toList (namesV r.no)
      have hT2 := mkS_toList r.kind
      have z2 := mkS_size r.kind
      have z1 := mkS_size (namesV r.no)
      have hk1 : (namesV r.no).isEmpty = (namesV r.no == []) := by cases namesV r.no <;> rfl
      have hj1 : decide (namesV r.no = []) = (namesV r.no == []) := by cases namesV r.no <;> rfl
      have hk2 : r.kind.isEmpty = (r.kind == []) := by cases r.kind <;> rfl
      have hj2 : decide (r.kind = []) = (r.kind == []) := by cases r.kind <;> rfl
      have e1 : ({ data := #[78, 79, 84, 73, 70, 89, 61] } : ByteArray) ++ mkS (namesV r.no) = mkS (kNO ++ [61] ++ namesV r.no) := by rw [show ({ data := #[78, 79, 84, 73, 70, 89, 61] } : ByteArray) = mkS (kNO ++ [61]) from rfl, mkS_cat]
      have e2 : ({ data := #[79, 82, 67, 80, 84, 61] } : ByteArray) ++ mkS r.kind ++ { data := #[59] } ++ mkS (X.encX r.oc) = mkS (kOR ++ [61] ++ (r.kind ++ [59] ++ X.encX r.oc)) := by
        rw [show ({ data := #[79, 82, 67, 80, 84, 61] } : ByteArray) = mkS (kOR ++ [61]) from rfl, show ({ data := #[59] } : ByteArray) = mkS [59] from rfl, mkS_cat, mkS_cat, mkS_cat]; simp
      have hel : (X.encX r.oc).length ≤ 768 := by have := (X.encX_len r.oc).2; omega
      have x1 : (kNO ++ [61] ++ namesV r.no).length ≤ 2000 := by simp [kNO]; omega
      have x2 : (kOR ++ [61] ++ (r.kind ++ [59] ++ X.encX r.oc)).length ≤ 2000 := by simp [kOR]; omega
      have HEn := Lib.hid (fun w => X.rencode_x r.oc w (by omega))
      have y2 := mkS_size (X.encX r.oc)
      generalize (namesV r.no == []) = q1 at hk1 hj1 hPV
      generalize (r.kind == []) = q2 at hk2 hj2 hPV
      generalize kNO ++ [61] ++ namesV r.no = X1 at e1 x1 hPV
      generalize kOR ++ [61] ++ (r.kind ++ [59] ++ X.encX r.oc) = X2 at e2 x2 hPV
      generalize X.encX r.oc = D at e2 y2 hel HEn
      generalize namesV r.no = V at e1 hT1 z1 hk1 hj1 hVl ⊢
      have b1 := more_len [] (!q1) X1
      have HM1 : Hid (∀ w', Calls Tryz.prog 26 #[.string { data := #[] }, .bool (!q1), .string (mkS X1)] w' fun e w'' => e = .returned (.string (mkS (moreV [] (!q1) X1))) ∧ w'' = w') := Lib.hid (fun w' => more_x [] (!q1) X1 w' (by simp) (by omega))
      generalize moreV [] (!q1) X1 = S1 at b1 HM1 hPV
      have HM2 : Hid (∀ w', Calls Tryz.prog 26 #[.string (mkS S1), .bool (!q2), .string (mkS X2)] w' fun e w'' => e = .returned (.string (mkS (moreV S1 (!q2) X2))) ∧ w'' = w') := Lib.hid (fun w' => more_x S1 (!q2) X2 w' (by simp only [List.length_nil] at b1; omega) (by omega))
      generalize moreV S1 (!q2) X2 = S2 at HM2 hPV
      have HPV := Lib.hid hPV
      have u1 : ¬ 9223372036854775807 < 7 + V.length := by omega
      have u2 : ¬ 9223372036854775807 < 6 + r.kind.length := by omega
      have u3 : ¬ 9223372036854775807 < 6 + r.kind.length + 1 := by omega
      have u4 : ¬ 9223372036854775807 < 6 + r.kind.length + 1 + D.length := by omega
      clear hPV b1 x1 x2 hel hVl lk lo
      go_wp2_with fail
      refine (HM1.out _).mono ?_
      rintro e w' ⟨rfl, rfl⟩
      clear c0
      go_wp2_with fail
      obtain ⟨Y, F, y0, hy0, hF, hS⟩ := T.out.cls
      have hne : Nonempty Y := ⟨y0⟩
      have hF1 := fun y => cellOf (hF y).box 1
      have hF2 := fun y => cellOf (hF y).box 2
      have HFS := Lib.hid (And.intro hF hS)
      clear hF hS T
      refine region_in (by kernel_rfl) (by kernel_rfl) F y0 hy0 ?_
      repeat (go_big_quiet_step (first
        | (go_at_call 27; exact RX.quiet HFS.out (HEn.out _))
        | (go_at_call 26; exact RX.qsame HFS.out (HM2.out _))))
      refine wpQuiet_nil ?_
      rintro _ ⟨y, rfl⟩
      have T := Lib.hid (HFS.out.1 y)
      clear hF1 hF2 hy0
      generalize F y = w3 at T ⊢
      clear HFS hne y y0 F Y
      go_wp2_with fail
      refine bodyPost_ret (v := .tuple #[.string (mkS S2), .int .i64 0]) (by simp [results, Tryz.results13, go_sem]) rfl ?_
      exact ⟨by rw [HPV.out], T.out.below⟩
end Go.Proofs.YtpdehgkkpgjpnaaGreatDoor
