/-
  The walks of laid at both types, of sealed, and of the reference's four and Frame.
-/
import Derived.Test.YtfejepkpjoieoaaFrSum
import Derived.Test.YtfejepkpjoieoaaBytes
namespace Go.Proofs.Ytfejepkpjoieoaa
set_option maxRecDepth 100000
open Go.RowKit
def lfu16 : Nat → Nat
  | 0 => 65535
  | 1 => 255
  | _ => 0
theorem lfu16_pos : ∀ k, k < 2 → 0 < lfu16 k := by decide
theorem lfu16_div : ∀ k, k < 2 → (lfu16 k : Int) / 256 = (lfu16 (k + 1) : Int) := by decide
theorem lfu16_le : ∀ k, k < 2 → lfu16 k < 65536 := by decide
theorem le2_at (n k : Nat) (hk : k < 2) : (le2 n).take (k + 1) = (le2 n).take k ++ [UInt8.ofNat (n / 256 ^ k % 256)] := by
  match k, hk with
  | 0, _ => simp [le2]
  | 1, _ => simp [le2]
set_option maxHeartbeats 1000000 in
theorem laidu16_x (n : Nat) (w : World) (hn : n < 65536) :
    Calls Try.prog 21 #[.int .u16 (n : Int)] w fun e w' => e = .returned (.string (mkS (le2 n))) ∧ Below w.heap.size w w' := by
  obtain ⟨i0, hi, hz0, hz1, hz2⟩ := info_parts Try.infoB
  go_enter Try.func21, Try.ntmps21
  go_wp2_with fail
  go_loopw [0, 3, 4] (fun v b g wr => ∃ k m : Nat, k ≤ 2 ∧ v = .int .u16 (m : Int) ∧ m < 65536 ∧ Hid (m = n / 256 ^ k) ∧ g = .int .u16 (lfu16 k : Int) ∧ Hid (wr.ownsRow w.heap.size 5 1 b ((le2 n).take k).length (bytesV ((le2 n).take k))) ∧ Hid (Below w.heap.size w wr)) (fun _ _ g _ => (intOf g).toNat)
  case atStart => exact ⟨0, n, Nat.zero_le _, rfl, hn, Lib.hid (by simp), rfl, Lib.hid ⟨rfl, .inl ⟨rfl, rfl⟩⟩, Lib.hid (Below.refl _ _)⟩
  case round =>
    obtain ⟨k, m, hk, rfl, hm, HM, rfl, HO, HW⟩ := hrel
    by_cases hlt : k < 2
    · have HT := Lib.hid (le2_at n k hlt)
      rw [← HM.out] at HT
      have HM2 := Lib.hid (show m / 256 = n / 256 ^ (k + 1) by rw [HM.out, Nat.div_div_eq_div_mul, ← Nat.pow_succ])
      have hp := lfu16_pos k hlt
      have d0 : decide (0 < lfu16 k) = true := decide_eq_true hp
      have HD := Lib.hid (lfu16_div k hlt)
      have hle := lfu16_le k hlt
      have hel : ((le2 n).take k).length ≤ 2 := by rw [List.length_take]; omega
      generalize (le2 n).take k = ek at HO HT hel
      obtain ⟨A, c, rfl⟩ := own_slice HO.out
      go_wp2_with (at_builtin
                   refine app_bytes rfl (.tmp 11) (.tmp 14) rfl w.heap.size (.slice A ek.length c) ek rfl (HO.out.alloc _) ⟨wr.heap.size, 0, none⟩ 1 1 [UInt8.ofNat (m % 256)] rfl rfl ?c1 ?c2 ?c3 ?_)
      case c1 => exact cells_new wr [UInt8.ofNat (m % 256)] _ (by simp [bytesV]) _ rfl
      case c2 => omega
      case c3 => have := HW.out.size; simp; omega
      intro v1 w2 hown hg
      have HO2 := Lib.hid hown
      have HW2 := Lib.hid (bytes_grown HW.out HO.out hg)
      clear hown hg
      go_wp2_with fail
      go_roundw
      case rel => exact ⟨k + 1, m / 256, by omega, by go_num, by omega, HM2, by rw [HD.out], by rw [HT.out, List.length_append]; exact HO2, HW2⟩
      case measure => have := HD.out; simp [intOf]; omega
    · obtain rfl : k = 2 := by omega
      have ho := HO.out
      rw [show (le2 n).take 2 = le2 n from rfl] at ho
      obtain ⟨A, c, rfl⟩ := own_slice ho
      have hcv := conv_own (h := ho)
      rw [le2_len] at hcv ⊢
      clear ho HO
      rw [show (lfu16 2 : Int) = 0 from rfl]
      go_wp2_with fail
      go_ret
      exact ⟨rfl, HW.out⟩
def lfu32 : Nat → Nat
  | 0 => 4294967295
  | 1 => 16777215
  | 2 => 65535
  | 3 => 255
  | _ => 0
theorem lfu32_pos : ∀ k, k < 4 → 0 < lfu32 k := by decide
theorem lfu32_div : ∀ k, k < 4 → (lfu32 k : Int) / 256 = (lfu32 (k + 1) : Int) := by decide
theorem lfu32_le : ∀ k, k < 4 → lfu32 k < 4294967296 := by decide
theorem le4_at (n k : Nat) (hk : k < 4) : (le4 n).take (k + 1) = (le4 n).take k ++ [UInt8.ofNat (n / 256 ^ k % 256)] := by
  match k, hk with
  | 0, _ => simp [le4]
  | 1, _ => simp [le4]
  | 2, _ => simp [le4]
  | 3, _ => simp [le4]
set_option maxHeartbeats 1000000 in
theorem laidu32_x (n : Nat) (w : World) (hn : n < 4294967296) :
    Calls Try.prog 30 #[.int .u32 (n : Int)] w fun e w' => e = .returned (.string (mkS (le4 n))) ∧ Below w.heap.size w w' := by
  obtain ⟨i0, hi, hz0, hz1, hz2⟩ := info_parts Try.infoB
  go_enter Try.func30, Try.ntmps30
  go_wp2_with fail
  go_loopw [0, 3, 4] (fun v b g wr => ∃ k m : Nat, k ≤ 4 ∧ v = .int .u32 (m : Int) ∧ m < 4294967296 ∧ Hid (m = n / 256 ^ k) ∧ g = .int .u32 (lfu32 k : Int) ∧ Hid (wr.ownsRow w.heap.size 5 1 b ((le4 n).take k).length (bytesV ((le4 n).take k))) ∧ Hid (Below w.heap.size w wr)) (fun _ _ g _ => (intOf g).toNat)
  case atStart => exact ⟨0, n, Nat.zero_le _, rfl, hn, Lib.hid (by simp), rfl, Lib.hid ⟨rfl, .inl ⟨rfl, rfl⟩⟩, Lib.hid (Below.refl _ _)⟩
  case round =>
    obtain ⟨k, m, hk, rfl, hm, HM, rfl, HO, HW⟩ := hrel
    by_cases hlt : k < 4
    · have HT := Lib.hid (le4_at n k hlt)
      rw [← HM.out] at HT
      have HM2 := Lib.hid (show m / 256 = n / 256 ^ (k + 1) by rw [HM.out, Nat.div_div_eq_div_mul, ← Nat.pow_succ])
      have hp := lfu32_pos k hlt
      have d0 : decide (0 < lfu32 k) = true := decide_eq_true hp
      have HD := Lib.hid (lfu32_div k hlt)
      have hle := lfu32_le k hlt
      have hel : ((le4 n).take k).length ≤ 4 := by rw [List.length_take]; omega
      generalize (le4 n).take k = ek at HO HT hel
      obtain ⟨A, c, rfl⟩ := own_slice HO.out
      go_wp2_with (at_builtin
                   refine app_bytes rfl (.tmp 11) (.tmp 14) rfl w.heap.size (.slice A ek.length c) ek rfl (HO.out.alloc _) ⟨wr.heap.size, 0, none⟩ 1 1 [UInt8.ofNat (m % 256)] rfl rfl ?c1 ?c2 ?c3 ?_)
      case c1 => exact cells_new wr [UInt8.ofNat (m % 256)] _ (by simp [bytesV]) _ rfl
      case c2 => omega
      case c3 => have := HW.out.size; simp; omega
      intro v1 w2 hown hg
      have HO2 := Lib.hid hown
      have HW2 := Lib.hid (bytes_grown HW.out HO.out hg)
      clear hown hg
      go_wp2_with fail
      go_roundw
      case rel => exact ⟨k + 1, m / 256, by omega, by go_num, by omega, HM2, by rw [HD.out], by rw [HT.out, List.length_append]; exact HO2, HW2⟩
      case measure => have := HD.out; simp [intOf]; omega
    · obtain rfl : k = 4 := by omega
      have ho := HO.out
      rw [show (le4 n).take 4 = le4 n from rfl] at ho
      obtain ⟨A, c, rfl⟩ := own_slice ho
      have hcv := conv_own (h := ho)
      rw [le4_len] at hcv ⊢
      clear ho HO
      rw [show (lfu32 4 : Int) = 0 from rfl]
      go_wp2_with fail
      go_ret
      exact ⟨rfl, HW.out⟩
set_option maxHeartbeats 1000000 in
theorem sealed_x (l : Txt) (w : World) (hl : l.length ≤ 1000000000) :
    Calls Try.prog 20 #[.string (mkS l)] w fun e w' => e = .returned (.string (mkS (sealF l))) ∧ Below w.heap.size w w' := by
  have hms := mkS_size l
  have hms4 := mkS_size (le4 (sumF l))
  rw [le4_len] at hms4
  have HS := Lib.hid (fun w => sum_x l w (by omega))
  have HL := Lib.hid (fun w => laidu32_x (sumF l) w (sumF_lt l))
  have HE := Lib.hid (show mkS l ++ mkS (le4 (sumF l)) = mkS (sealF l) by rw [mkS_cat]; rfl)
  generalize le4 (sumF l) = q at hms4 HL HE
  generalize sumF l = s at HS HL
  go_enter Try.func20, Try.ntmps20
  go_wp2_with fail
  refine (HS.out _).mono ?_
  rintro e w1 ⟨rfl, rfl⟩
  go_wp2_with fail
  refine (HL.out _).mono ?_
  rintro e w1 ⟨rfl, hb⟩
  have HB := Lib.hid hb
  clear hb
  go_wp2_with fail
  go_ret
  exact ⟨ret_str HE.out, HB.out⟩
theorem byte_mod (n : Nat) : ((UInt8.ofNat (n % 256)).toNat : Int) = (n : Int) % 256 := by simp
set_option maxHeartbeats 1000000 in
theorem four_x (n : Nat) (w : World) (hn : n < 4294967296) :
    Calls Try.prog 31 #[.int .u32 (n : Int)] w fun e w' => e = .returned (.string (mkS (le4 n))) ∧ Below w.heap.size w w' := by
  have HC := Lib.hid (conv_bytes (w.alloc (.cells #[.int .u8 ((n : Int) % 256), .int .u8 ((n : Int) / 256 % 256), .int .u8 ((n : Int) / 65536 % 256), .int .u8 ((n : Int) / 16777216)] 5)) ⟨w.heap.size, 0, none⟩ (le4 n) 4 4 rfl (cells_new w (le4 n) _ (by simp [bytesV, le4]; omega) _ rfl))
  have hcv := HC.out
  have HB := Lib.hid ((Below.refl w.heap.size w).alloc (Nat.le_refl _) (.cells #[.int .u8 ((n : Int) % 256), .int .u8 ((n : Int) / 256 % 256), .int .u8 ((n : Int) / 65536 % 256), .int .u8 ((n : Int) / 16777216)] 5))
  have e0 : (n : Int) / 16777216 % 256 = (n : Int) / 16777216 := by omega
  go_enter Try.func31, Try.ntmps31
  go_wp2_with fail
  go_ret
  exact ⟨rfl, HB.out⟩
set_option maxHeartbeats 1000000 in
theorem frame_x (l : Txt) (w : World) (hl : l.length ≤ 65535) :
    Calls Try.prog 23 #[.string (mkS l)] w fun e w' => e = .returned (.string (mkS (frameF l))) ∧ Below w.heap.size w w' := by
  have hms := mkS_size l
  have hcv := conv_bytes (w.alloc (.cells #[.int .u8 ((l.length : Int) % 256), .int .u8 ((l.length : Int) / 256)] 5)) ⟨w.heap.size, 0, none⟩ (le2 l.length) 2 2 rfl (cells_new w (le2 l.length) _ (by simp [bytesV, le2]; omega) _ rfl)
  have HB := Lib.hid ((Below.refl w.heap.size w).alloc (Nat.le_refl _) (.cells #[.int .u8 ((l.length : Int) % 256), .int .u8 ((l.length : Int) / 256)] 5))
  have hm2 := mkS_size (le2 l.length)
  rw [le2_len] at hm2
  have hmp := mkS_size (le4 (sumF (le2 l.length)))
  have hmq := mkS_size (le4 (sumF l))
  rw [le4_len] at hmp hmq
  have HS1 := Lib.hid (fun w => rsum_x (le2 l.length) w (by rw [le2_len]; omega))
  have HF1 := Lib.hid (fun w => four_x (sumF (le2 l.length)) w (sumF_lt _))
  have HS2 := Lib.hid (fun w => rsum_x l w (by omega))
  have HF2 := Lib.hid (fun w => four_x (sumF l) w (sumF_lt _))
  have HE := Lib.hid (show mkS (le2 l.length) ++ mkS (le4 (sumF (le2 l.length))) ++ mkS l ++ mkS (le4 (sumF l)) = mkS (frameF l) by
    rw [mkS_cat, mkS_cat, mkS_cat]; simp [frameF, sealF])
  have e0 : (l.length : Int) / 256 % 256 = (l.length : Int) / 256 := by omega
  generalize le4 (sumF (le2 l.length)) = p at hmp HF1 HE
  generalize le4 (sumF l) = q at hmq HF2 HE
  generalize sumF (le2 l.length) = s1 at HS1 HF1
  generalize sumF l = s2 at HS2 HF2
  generalize le2 l.length = t at hm2 HS1 HE hcv
  go_enter Try.func23, Try.ntmps23
  go_wp2_with fail
  refine (HS1.out _).mono ?_
  rintro e w1 ⟨rfl, rfl⟩
  clear hcv
  go_wp2_with fail
  refine (HF1.out _).mono ?_
  rintro e w1 ⟨rfl, hb⟩
  replace HB := Lib.hid (below_next HB.out hb)
  clear hb
  go_wp2_with fail
  refine (HS2.out _).mono ?_
  rintro e w2 ⟨rfl, rfl⟩
  go_wp2_with fail
  refine (HF2.out _).mono ?_
  rintro e w2 ⟨rfl, hb⟩
  replace HB := Lib.hid (below_next HB.out hb)
  clear hb
  go_wp2_with fail
  go_ret
  exact ⟨ret_str HE.out, HB.out⟩
end Go.Proofs.Ytfejepkpjoieoaa
