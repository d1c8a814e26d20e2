/-
  The walks of the reference's Leap, Length, year, shape, number and digits.
-/
import Derived.Test.YtafbapmbhjkheaaDoorDtLike
import Derived.Test.YtafbapmbhjkheaaDoorPrMath
import Derived.Test.YtafbapmbhjkheaaDoorBytes
namespace Go.Proofs.YtafbapmbhjkheaaDoor
open Go.RowKit
set_option maxHeartbeats 400000 in
theorem rleap_x (y : Int) (w : World) : Calls Tryd.prog 18 #[.int .i64 y] w fun e w' => e = .returned (.bool (leapD y)) ∧ w = w' := by
  by_cases h : y.tmod 400 = 0
  · have hb : (y.tmod 400 == 0) = true := beq_iff_eq.2 h
    have HT := Lib.hid (show leapD y = true by rw [leapT, decide_eq_true h]; simp)
    clear h
    go_enter Tryd.func18, Tryd.ntmps18
    go_wp2_with fail
    go_ret
    exact ⟨ret_bool HT.out.symm, rfl⟩
  · have hb : (y.tmod 400 == 0) = false := beq_eq_false_iff_ne.2 h
    have HT := Lib.hid (show leapD y = (decide (y.tmod 4 = 0) && !decide (y.tmod 100 = 0)) by rw [leapT, decide_eq_false h]; simp)
    clear h
    go_enter Tryd.func18, Tryd.ntmps18
    go_wp2_with fail
    all_goals
      go_ret
      exact ⟨ret_bool (by rw [HT.out, Bool.eq_iff_iff]; simp [*]), rfl⟩
set_option maxHeartbeats 2000000 in
theorem rlen_x (y m : Int) (w : World) : Calls Tryd.prog 20 #[.int .i64 y, .int .i64 m] w fun e w' => e = .returned (.int .i64 (dimD y m)) ∧ w = w' := by
  by_cases h : m < 1 ∨ 12 < m
  · have HD := Lib.hid (dim_no (y := y) h)
    have q1 : (m == 1) = false := beq_eq_false_iff_ne.2 (by omega)
    have q2 : (m == 2) = false := beq_eq_false_iff_ne.2 (by omega)
    have q3 : (m == 3) = false := beq_eq_false_iff_ne.2 (by omega)
    have q4 : (m == 4) = false := beq_eq_false_iff_ne.2 (by omega)
    have q5 : (m == 5) = false := beq_eq_false_iff_ne.2 (by omega)
    have q6 : (m == 6) = false := beq_eq_false_iff_ne.2 (by omega)
    have q7 : (m == 7) = false := beq_eq_false_iff_ne.2 (by omega)
    have q8 : (m == 8) = false := beq_eq_false_iff_ne.2 (by omega)
    have q9 : (m == 9) = false := beq_eq_false_iff_ne.2 (by omega)
    have q10 : (m == 10) = false := beq_eq_false_iff_ne.2 (by omega)
    have q11 : (m == 11) = false := beq_eq_false_iff_ne.2 (by omega)
    have q12 : (m == 12) = false := beq_eq_false_iff_ne.2 (by omega)
    clear h
    go_enter Tryd.func20, Tryd.ntmps20
    go_wp2_with fail
    go_ret
    exact ⟨ret_int HD.out.symm, rfl⟩
  · by_cases h2 : m = 2
    · subst h2
      cases hl : leapD y
      · have HD := Lib.hid (show dimD y 2 = 28 by rw [dimD, lpD, hl]; rfl)
        have HL := Lib.hid (show Calls Tryd.prog 18 #[.int .i64 y] w fun e w' => e = .returned (.bool false) ∧ w = w' by rw [← hl]; exact rleap_x y w)
        clear hl h
        go_enter Tryd.func20, Tryd.ntmps20
        go_wp2_with fail
        refine HL.out.mono ?_
        rintro e w' ⟨rfl, rfl⟩
        go_wp2_with fail
        go_ret
        exact ⟨ret_int HD.out.symm, rfl⟩
      · have HD := Lib.hid (show dimD y 2 = 29 by rw [dimD, lpD, hl]; rfl)
        have HL := Lib.hid (show Calls Tryd.prog 18 #[.int .i64 y] w fun e w' => e = .returned (.bool true) ∧ w = w' by rw [← hl]; exact rleap_x y w)
        clear hl h
        go_enter Tryd.func20, Tryd.ntmps20
        go_wp2_with fail
        refine HL.out.mono ?_
        rintro e w' ⟨rfl, rfl⟩
        go_wp2_with fail
        go_ret
        exact ⟨ret_int HD.out.symm, rfl⟩
    · rcases month_cases (m := m) (by omega) (by omega) with rfl | rfl | rfl | rfl | rfl | rfl | rfl | rfl | rfl | rfl | rfl | rfl
      case inr.inl => exact absurd rfl h2
      all_goals
        clear h h2
        go_enter Tryd.func20, Tryd.ntmps20
        go_wp2_with fail
        go_ret
        exact ⟨rfl, rfl⟩
set_option maxHeartbeats 400000 in
theorem ryear_x (y : Int) (w : World) : Calls Tryd.prog 23 #[.int .i64 y] w fun e w' => e = .returned (.int .i64 (365 + lpD y)) ∧ w = w' := by
  cases hl : leapD y
  · have HD := Lib.hid (show (365 : Int) = 365 + lpD y by rw [lpD, hl]; rfl)
    have HL := Lib.hid (show Calls Tryd.prog 18 #[.int .i64 y] w fun e w' => e = .returned (.bool false) ∧ w = w' by rw [← hl]; exact rleap_x y w)
    clear hl
    go_enter Tryd.func23, Tryd.ntmps23
    go_wp2_with fail
    refine HL.out.mono ?_
    rintro e w' ⟨rfl, rfl⟩
    go_wp2_with fail
    go_ret
    exact ⟨ret_int HD.out, rfl⟩
  · have HD := Lib.hid (show (366 : Int) = 365 + lpD y by rw [lpD, hl]; rfl)
    have HL := Lib.hid (show Calls Tryd.prog 18 #[.int .i64 y] w fun e w' => e = .returned (.bool true) ∧ w = w' by rw [← hl]; exact rleap_x y w)
    clear hl
    go_enter Tryd.func23, Tryd.ntmps23
    go_wp2_with fail
    refine HL.out.mono ?_
    rintro e w' ⟨rfl, rfl⟩
    go_wp2_with fail
    go_ret
    exact ⟨ret_int HD.out, rfl⟩
set_option maxHeartbeats 2000000 in
theorem shape_x (s form : List UInt8) (w : World) (hs : s.length ≤ 1000000000000) :
    Calls Tryd.prog 31 #[.string (mkS s), .string (mkS form)] w (Drew (.bool (likeX s form)) w) := by
  have hms := mkS_size s
  have hmf := mkS_size form
  by_cases hn : s.length = form.length
  · have dn : ((s.length : Int) != (form.length : Int)) = false := by rw [hn]; simp
    have HN := Lib.hid hn
    clear hn
    go_enter Tryd.func31, Tryd.ntmps31
    go_wp2_with fail
    go_loopw [5] (fun i wr => ∃ (k n : Nat), k ≤ s.length ∧ i = .int .i64 k ∧ wr = w.drewN n ∧ Hid (likeX s form = likeX (s.drop k) (form.drop k))) (fun i _ => s.length - (intOf i).toNat)
    case atStart => exact ⟨0, 0, Nat.zero_le _, rfl, rfl, rfl⟩
    case round =>
      obtain ⟨k, n, hk, rfl, rfl, HK⟩ := hrel
      by_cases hlt2 : k < s.length
      · have hlt : k < form.length := by rw [← HN.out]; exact hlt2
        obtain ⟨f, hf1, hf2⟩ := get_at hlt
        obtain ⟨a, ha1, ha2⟩ := get_at hlt2
        have HD := Lib.hid (HK.out.trans (likeX_drop ha1 hf1))
        clear hf1 ha1 HK
        by_cases h48 : f = 48
        · have b1 : ((f.toNat : Int) == 48) = true := by rw [h48]; rfl
          have HS := Lib.hid (show signX f a = digB a by rw [signX, if_pos h48])
          clear h48
          by_cases l1 : a.toNat < 48
          · have b3 : decide ((a.toNat : Int) < 48) = true := decide_eq_true (by omega)
            have HS2 := Lib.hid (show signX f a = false by rw [HS.out]; simp [digB]; omega)
            clear HS
            go_wp2_with fail
            go_ret
            exact ⟨ret_bool (by rw [HD.out, HS2.out]; rfl), _, rfl⟩
          · have b3 : decide ((a.toNat : Int) < 48) = false := decide_eq_false (by omega)
            by_cases l2 : 57 < a.toNat
            · have b4 : decide (57 < (a.toNat : Int)) = true := decide_eq_true (by omega)
              have HS2 := Lib.hid (show signX f a = false by rw [HS.out]; simp [digB]; omega)
              clear HS
              go_wp2_with fail
              go_ret
              exact ⟨ret_bool (by rw [HD.out, HS2.out]; rfl), _, rfl⟩
            · have b4 : decide (57 < (a.toNat : Int)) = false := decide_eq_false (by omega)
              have HS2 := Lib.hid (show signX f a = true by rw [HS.out]; simp [digB]; omega)
              clear HS
              go_wp2_with fail
              go_roundw
              case rel => exact ⟨k + 1, _, by omega, by go_num, rfl, by show _ = _; rw [HD.out, HS2.out]; rfl⟩
              case measure => simp [intOf]; omega
        · have b1 : ((f.toNat : Int) == 48) = false := Bool.eq_false_iff.2 fun e => h48 ((byte_eq (n := 48) (by decide)).1 e)
          have HS := Lib.hid (show signX f a = (a == f) by rw [signX, if_neg h48])
          clear h48
          by_cases he : a = f
          · have b3 : ((a.toNat : Int) != (f.toNat : Int)) = false := by rw [he]; simp
            have HS2 := Lib.hid (show signX f a = true by rw [HS.out, he]; simp)
            clear he HS
            go_wp2_with fail
            go_quiet (fail)
            go_wp2_with fail
            go_roundw
            case rel => exact ⟨k + 1, _, by omega, by go_num, rfl, by show _ = _; rw [HD.out, HS2.out]; rfl⟩
            case measure => simp [intOf]; omega
          · have b3 : ((a.toNat : Int) != (f.toNat : Int)) = true := by rw [bne_iff_ne]; exact fun e => he (UInt8.toNat_inj.1 (by omega))
            have HS2 := Lib.hid (show signX f a = false by rw [HS.out]; exact beq_eq_false_iff_ne.2 he)
            clear he HS
            go_wp2_with fail
            go_quiet (fail)
            go_wp2_with fail
            go_ret
            exact ⟨ret_bool (by rw [HD.out, HS2.out]; rfl), _, World.drewN_drewN _ _ _⟩
      · have hk2 := HK.out
        rw [List.drop_of_length_le (by omega), List.drop_of_length_le (by rw [← HN.out]; omega)] at hk2
        have HE := Lib.hid hk2
        clear hk2
        go_wp2_with fail
        go_ret
        exact ⟨ret_bool (by rw [HE.out]; rfl), _, rfl⟩
  · have dn : ((s.length : Int) != (form.length : Int)) = true := by rw [bne_iff_ne]; omega
    have HL := Lib.hid (likeX_ne hn)
    clear hn
    go_enter Tryd.func31, Tryd.ntmps31
    go_wp2_with fail
    go_ret
    exact ⟨ret_bool HL.out.symm, 0, rfl⟩
theorem val_take {l : List UInt8} {k : Nat} {x : UInt8} (h : l[k]? = some x) (hd : digB x = true) : (valX (l.take (k + 1)) : Int) = (valX (l.take k) : Int) * 10 + ((x.toNat : Int) - 48) := by
  obtain ⟨hk, e⟩ := List.getElem?_eq_some_iff.1 h
  have := digB_bd hd
  rw [List.take_succ_eq_append_getElem hk, valX_snoc, e]
  omega
theorem val_bd {l : List UInt8} (hd : ∀ x ∈ l, digB x = true) : ∀ k, k ≤ l.length → valX (l.take k) < 10 ^ k
  | 0, _ => by simp [valX]
  | k + 1, h => by
    have hx : l[k]? = some l[k] := List.getElem?_eq_getElem (by omega)
    have := val_bd hd k (by omega)
    have := digB_bd (hd _ (List.mem_of_getElem? hx))
    rw [List.take_succ_eq_append_getElem (by omega), valX_snoc, Nat.pow_succ]
    omega
set_option maxHeartbeats 1000000 in
theorem rnumber_x (l : List UInt8) (w : World) (h4 : l.length ≤ 4) (hd : ∀ x ∈ l, digB x = true) : Calls Tryd.prog 32 #[.string (mkS l)] w fun e w' => e = .returned (.int .i64 (valX l : Int)) ∧ w = w' := by
  have hms := mkS_size l
  have HD := Lib.hid hd
  clear hd
  go_enter Tryd.func32, Tryd.ntmps32
  go_wp2_with fail
  go_loop [3, 4] (fun n i => ∃ k : Nat, k ≤ l.length ∧ i = .int .i64 k ∧ n = .int .i64 (valX (l.take k) : Int)) (fun _ i => l.length - (intOf i).toNat)
  case atStart => exact ⟨0, Nat.zero_le _, rfl, by simp [valX]⟩
  case round =>
    obtain ⟨k, hk, rfl, rfl⟩ := hrel
    by_cases hlt : k < l.length
    · obtain ⟨x, hx1, hx2⟩ := get_at hlt
      have hdx := HD.out x (List.mem_of_getElem? hx1)
      have hxb := digB_bd hdx
      have HV := Lib.hid (val_take hx1 hdx)
      have hvb := val_bd HD.out k hk
      have hp : 10 ^ k ≤ 10 ^ 4 := Nat.pow_le_pow_right (by omega) (by omega)
      generalize valX (l.take k) = v at HV hvb
      have hv9 : v < 10000 := by omega
      clear hx1 hdx hvb hp
      go_wp2_with fail
      go_round
      case rel => exact ⟨k + 1, by omega, by go_num, by rw [HV.out]⟩
      case measure => simp [intOf]; omega
    · have HE := Lib.hid (show l.take k = l from List.take_of_length_le (by omega))
      go_wp2_with fail
      go_ret
      exact ⟨ret_int (by rw [HE.out]), rfl⟩
end Go.Proofs.YtafbapmbhjkheaaDoor
