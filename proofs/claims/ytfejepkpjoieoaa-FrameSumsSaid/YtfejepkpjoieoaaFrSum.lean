/-
  The walks of down and Sum, of the reference's Sum, and of Size.
-/
import Derived.Test.YtfejepkpjoieoaaFrMath
import Derived.Test.YtfejepkpjoieoaaBase
import Derived.Laws.BitsAllLaws
namespace Go.Proofs.Ytfejepkpjoieoaa
set_option maxRecDepth 100000
open Go.RowKit
theorem and_one (x : Nat) (hx : x < 4294967296) : bits .and .u32 (x : Int) 1 = ((x % 2 : Nat) : Int) := by
  have := u32_and_nat x 1 hx (by decide)
  rw [Nat.and_one_is_mod] at this
  exact this
theorem xor_poly (x : Nat) (hx : x < 4294967296) (h1 : x % 2 = 1) : bits .xor .u32 ((x : Int) / 2) 3988292384 = ((stepF x : Nat) : Int) := by
  have := u32_xor_nat (x / 2) 3988292384 (by omega) (by decide)
  rw [show (((x / 2 : Nat) : Int)) = (x : Int) / 2 by omega] at this
  rw [show (3988292384 : Int) = ((3988292384 : Nat) : Int) by rfl, this, stepF, if_pos h1]
  rfl
theorem half_step (x : Nat) (h1 : x % 2 = 0) : (x : Int) / 2 = ((stepF x : Nat) : Int) := by
  rw [stepF, if_neg (by omega), Nat.xor_zero]; omega
set_option maxHeartbeats 1000000 in
theorem down_x (r : Nat) (w : World) (hr : r < 4294967296) :
    Calls Try.prog 27 #[.int .u32 (r : Int)] w fun e w' => e = .returned (.int .u32 ((stepsF 8 r : Nat) : Int)) ∧ w = w' := by
  go_enter Try.func27, Try.ntmps27
  go_wp2_with fail
  go_loop [0, 4] (fun g i => ∃ (k x : Nat), k ≤ 8 ∧ i = .int .i64 k ∧ g = .int .u32 (x : Int) ∧ x < 4294967296 ∧ Hid (stepsF (8 - k) x = stepsF 8 r)) (fun _ i => 8 - (intOf i).toNat)
  case atStart => exact ⟨0, r, by omega, rfl, rfl, hr, Lib.hid rfl⟩
  case round =>
    obtain ⟨k, x, hk, rfl, rfl, hx, HX⟩ := hrel
    by_cases hlt : k < 8
    · have HN := Lib.hid (show stepsF (8 - (k + 1)) (stepF x) = stepsF 8 r by
        have := HX.out
        rw [show 8 - k = (8 - (k + 1)) + 1 by omega] at this
        exact this)
      have HL := Lib.hid (stepF_lt hx)
      have a1 := and_one x hx
      rcases Nat.mod_two_eq_zero_or_one x with h | h
      · rw [h] at a1
        have HH := Lib.hid (half_step x h)
        clear h
        go_wp2_with fail
        go_round
        case rel => exact ⟨k + 1, stepF x, by omega, by go_num, by rw [HH.out], HL.out, HN⟩
        case measure => simp [intOf]; omega
      · rw [h] at a1
        have HH := Lib.hid (xor_poly x hx h)
        clear h
        go_wp2_with fail
        go_round
        case rel => exact ⟨k + 1, stepF x, by omega, by go_num, by rw [HH.out], HL.out, HN⟩
        case measure => simp [intOf]; omega
    · obtain rfl : k = 8 := by omega
      go_wp2_with fail
      go_ret
      exact ⟨ret_int (by rw [← HX.out]; rfl), rfl⟩
theorem xor_byte (g : Nat) (hg : g < 4294967296) (b : UInt8) : bits .xor .u32 (g : Int) (b.toNat : Int) = ((g ^^^ b.toNat : Nat) : Int) := u32_xor_nat g b.toNat hg (by have := b.toNat_lt; omega)
theorem xor_ones (g : Nat) (hg : g < 4294967296) : bits .xor .u32 (g : Int) 4294967295 = ((g ^^^ 4294967295 : Nat) : Int) := u32_xor_nat g 4294967295 hg (by decide)
set_option maxHeartbeats 1000000 in
theorem sum_x (l : Txt) (w : World) (hl : l.length ≤ 1000000000000) :
    Calls Try.prog 15 #[.string (mkS l)] w fun e w' => e = .returned (.int .u32 ((sumF l : Nat) : Int)) ∧ w = w' := by
  have hms := mkS_size l
  go_enter Try.func15, Try.ntmps15
  go_wp2_with fail
  go_loop [3, 7] (fun g i => ∃ (k x : Nat), k ≤ l.length ∧ i = .int .i64 k ∧ g = .int .u32 (x : Int) ∧ x < 4294967296 ∧ Hid (x = regF (l.take k) 4294967295)) (fun _ i => l.length - (intOf i).toNat)
  case atStart => exact ⟨0, 4294967295, by omega, rfl, rfl, by decide, Lib.hid rfl⟩
  case round =>
    obtain ⟨k, x, hk, rfl, rfl, hx, HX⟩ := hrel
    by_cases hlt : k < l.length
    · obtain ⟨b, hb⟩ : ∃ b : UInt8, (mkS l)[k]'(by omega) = b := ⟨_, rfl⟩
      have hB : l[k]? = some b := by rw [← hb]; have := Lib.data_getElem? (mkS l) k (by omega); rwa [mkS_data] at this
      have HT := Lib.hid (show stepsF 8 (x ^^^ b.toNat) = regF (l.take (k + 1)) 4294967295 by rw [regF_take hB, ← HX.out]; rfl)
      have HL := Lib.hid (show stepsF 8 (x ^^^ b.toNat) < 4294967296 from downF_lt hx b)
      have e0 : (b.toNat : Int) % 4294967296 = (b.toNat : Int) := by have := b.toNat_lt; omega
      have e1 := xor_byte x hx b
      have HD := Lib.hid (fun w => down_x (x ^^^ b.toNat) w (xor_byte_lt hx b))
      clear hB
      go_wp2_with fail
      refine (HD.out _).mono ?_
      rintro e w1 ⟨rfl, rfl⟩
      go_wp2_with fail
      go_round
      case rel => exact ⟨k + 1, _, by omega, by go_num, rfl, HL.out, HT⟩
      case measure => simp [intOf]; omega
    · have HE := Lib.hid (show x ^^^ 4294967295 = sumF l by
        have := HX.out
        rw [List.take_of_length_le (by omega)] at this
        rw [sumF, this])
      have e1 := xor_ones x hx
      go_wp2_with fail
      go_ret
      exact ⟨ret_int (by rw [HE.out]), rfl⟩
set_option maxHeartbeats 1000000 in
theorem size_x (l : Txt) (w : World) (hl : l.length ≤ 1000000000000) :
    Calls Try.prog 17 #[.string (mkS l)] w fun e w' => e = .returned (.int .i64 ((l.length : Int) + 10)) ∧ w = w' := by
  have hms := mkS_size l
  go_enter Try.func17, Try.ntmps17
  go_wp2_with fail
  go_ret
  exact ⟨ret_int (by omega), rfl⟩
set_option maxHeartbeats 1000000 in
theorem rsum_x (l : Txt) (w : World) (hl : l.length ≤ 1000000000000) :
    Calls Try.prog 16 #[.string (mkS l)] w fun e w' => e = .returned (.int .u32 ((sumF l : Nat) : Int)) ∧ w = w' := by
  have hms := mkS_size l
  go_enter Try.func16, Try.ntmps16
  go_wp2_with fail
  go_loop [3, 4] (fun g i => ∃ (k x : Nat), k ≤ l.length ∧ i = .int .i64 k ∧ g = .int .u32 (x : Int) ∧ x < 4294967296 ∧ Hid (x = regF (l.take k) 4294967295)) (fun _ i => l.length - (intOf i).toNat)
  case atStart => exact ⟨0, 4294967295, by omega, rfl, rfl, by decide, Lib.hid rfl⟩
  case round =>
    obtain ⟨k, x, hk, rfl, rfl, hx, HX⟩ := hrel
    by_cases hlt : k < l.length
    · obtain ⟨b, hb⟩ : ∃ b : UInt8, (mkS l)[k]'(by omega) = b := ⟨_, rfl⟩
      have hB : l[k]? = some b := by rw [← hb]; have := Lib.data_getElem? (mkS l) k (by omega); rwa [mkS_data] at this
      have HT := Lib.hid (show stepsF 8 (x ^^^ b.toNat) = regF (l.take (k + 1)) 4294967295 by rw [regF_take hB, ← HX.out]; rfl)
      have HL := Lib.hid (show stepsF 8 (x ^^^ b.toNat) < 4294967296 from downF_lt hx b)
      have e0 : (b.toNat : Int) % 4294967296 = (b.toNat : Int) := by have := b.toNat_lt; omega
      have e1 := xor_byte x hx b
      have hy := xor_byte_lt hx b
      clear hB
      generalize x ^^^ b.toNat = y at HT HL e1 hy
      go_wp2_with fail
      clear e0 e1 hb
      go_loop [3, 5] (fun g i => ∃ (m z : Nat), m ≤ 8 ∧ i = .int .i64 m ∧ g = .int .u32 (z : Int) ∧ z < 4294967296 ∧ Hid (stepsF (8 - m) z = stepsF 8 y)) (fun _ i => 8 - (intOf i).toNat)
      case atStart => exact ⟨0, y, by omega, rfl, rfl, hy, Lib.hid rfl⟩
      case round =>
        obtain ⟨m, z, hm, rfl, rfl, hz, HZ⟩ := hrel
        by_cases hlt2 : m < 8
        · have HN := Lib.hid (show stepsF (8 - (m + 1)) (stepF z) = stepsF 8 y by
            have := HZ.out
            rw [show 8 - m = (8 - (m + 1)) + 1 by omega] at this
            exact this)
          have HL2 := Lib.hid (stepF_lt hz)
          rcases Nat.mod_two_eq_zero_or_one z with h | h
          · have HH := Lib.hid (half_step z h)
            have d : (((z : Int) % 2) == 1) = false := beq_eq_false_iff_ne.2 (by omega)
            clear h
            go_wp2_with fail
            go_round
            case rel => exact ⟨m + 1, stepF z, by omega, by go_num, by rw [HH.out], HL2.out, HN⟩
            case measure => simp [intOf]; omega
          · have HH := Lib.hid (xor_poly z hz h)
            have d : (((z : Int) % 2) == 1) = true := beq_iff_eq.2 (by omega)
            clear h
            go_wp2_with fail
            go_round
            case rel => exact ⟨m + 1, stepF z, by omega, by go_num, by rw [HH.out], HL2.out, HN⟩
            case measure => simp [intOf]; omega
        · obtain rfl : m = 8 := by omega
          go_wp2_with fail
          go_round
          case rel => exact ⟨k + 1, z, by omega, by go_num, rfl, hz, Lib.hid (by rw [← HT.out, ← HZ.out]; rfl)⟩
          case measure => simp [intOf]; omega
    · have HE := Lib.hid (show x ^^^ 4294967295 = sumF l by
        have := HX.out
        rw [List.take_of_length_le (by omega)] at this
        rw [sumF, this])
      have e1 := xor_ones x hx
      go_wp2_with fail
      go_ret
      exact ⟨ret_int (by rw [HE.out]), rfl⟩
end Go.Proofs.Ytfejepkpjoieoaa
