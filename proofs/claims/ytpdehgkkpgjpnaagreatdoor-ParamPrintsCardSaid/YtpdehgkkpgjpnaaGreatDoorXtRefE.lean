/-
  The walks of the reference's Plain, sign, digit, Encode.
-/
import Derived.Test.YtpdehgkkpgjpnaaGreatDoorMaXt
import Derived.Test.YtpdehgkkpgjpnaaGreatDoorMaBuild
namespace Go.Proofs.YtpdehgkkpgjpnaaGreatDoor.X
set_option maxRecDepth 100000
open Go.RowKit
set_option maxRecDepth 100000 in
set_option maxHeartbeats 400000 in
theorem rplain_x (b : UInt8) (w : World) : Calls Tryz.prog 55 #[.int .u8 (b.toNat : Int)] w fun e w' => e = .returned (.bool (plainX b)) ∧ w = w' := by
  have hlt := b.toNat_lt
  by_cases h1 : 33 ≤ b.toNat
  · have d1 : decide ((33 : Int) ≤ (b.toNat : Int)) = true := decide_eq_true (by omega)
    by_cases h2 : b.toNat ≤ 126
    · have d2 : decide ((b.toNat : Int) ≤ 126) = true := decide_eq_true (by omega)
      by_cases h3 : b = 43
      · have d3 : ((b.toNat : Int) != 43) = false := by rw [h3]; rfl
        have HP := Lib.hid (plain_no3 h3)
        clear h3
        go_enter Tryz.func55, Tryz.ntmps55
        go_wp2_with fail
        go_ret
        exact ⟨ret_bool HP.out.symm, rfl⟩
      · have d3 : ((b.toNat : Int) != 43) = true := by rw [bne_iff_ne]; exact fun e => h3 ((byte_eq (n := 43) (by decide)).1 (beq_iff_eq.2 e))
        by_cases h4 : b = 61
        · have d4 : ((b.toNat : Int) != 61) = false := by rw [h4]; rfl
          have HP := Lib.hid (plain_no4 h4)
          clear h3 h4
          go_enter Tryz.func55, Tryz.ntmps55
          go_wp2_with fail
          go_ret
          exact ⟨ret_bool HP.out.symm, rfl⟩
        · have d4 : ((b.toNat : Int) != 61) = true := by rw [bne_iff_ne]; exact fun e => h4 ((byte_eq (n := 61) (by decide)).1 (beq_iff_eq.2 e))
          have HP := Lib.hid (plain_of h1 h2 h3 h4)
          clear h3 h4
          go_enter Tryz.func55, Tryz.ntmps55
          go_wp2_with fail
          go_ret
          exact ⟨ret_bool HP.out.symm, rfl⟩
    · have d2 : decide ((b.toNat : Int) ≤ 126) = false := decide_eq_false (by omega)
      have HP := Lib.hid (plain_no2 h2)
      go_enter Tryz.func55, Tryz.ntmps55
      go_wp2_with fail
      go_ret
      exact ⟨ret_bool HP.out.symm, rfl⟩
  · have d1 : decide ((33 : Int) ≤ (b.toNat : Int)) = false := decide_eq_false (by omega)
    have HP := Lib.hid (plain_no1 h1)
    go_enter Tryz.func55, Tryz.ntmps55
    go_wp2_with fail
    go_ret
    exact ⟨ret_bool HP.out.symm, rfl⟩


set_option maxRecDepth 100000 in
set_option maxHeartbeats 400000 in
theorem sign_x (n : Nat) (w : World) (h : n < 16) : Calls Tryz.prog 56 #[.int .u8 (n : Int)] w fun e w' => e = .returned (.int .u8 ((digX n).toNat : Int)) ∧ w = w' := by
  by_cases h1 : n < 10
  · have d1 : decide ((n : Int) < 10) = true := decide_eq_true (by omega)
    have HD := Lib.hid (show (48 : Int) + (n : Int) = ((digX n).toNat : Int) by unfold digX; rw [if_pos h1]; simp; omega)
    go_enter Tryz.func56, Tryz.ntmps56
    go_wp2_with fail
    go_ret
    exact ⟨ret_int HD.out, rfl⟩
  · have d1 : decide ((n : Int) < 10) = false := decide_eq_false (by omega)
    have HD := Lib.hid (show (65 : Int) + (n : Int) - 10 = ((digX n).toNat : Int) by unfold digX; rw [if_neg h1]; simp; omega)
    go_enter Tryz.func56, Tryz.ntmps56
    go_wp2_with fail
    go_ret
    exact ⟨ret_int HD.out, rfl⟩
theorem sign_hi (x : UInt8) (w : World) : Calls Tryz.prog 56 #[.int .u8 ((x.toNat : Int) / 16)] w fun e w' => e = .returned (.int .u8 ((digX (x.toNat / 16)).toNat : Int)) ∧ w = w' := by
  have := (sign_x (x.toNat / 16) w (by have := x.toNat_lt; omega))
  rwa [Int.natCast_ediv] at this
theorem sign_lo (x : UInt8) (w : World) : Calls Tryz.prog 56 #[.int .u8 ((x.toNat : Int) % 16)] w fun e w' => e = .returned (.int .u8 ((digX (x.toNat % 16)).toNat : Int)) ∧ w = w' := by
  have := (sign_x (x.toNat % 16) w (by omega))
  rwa [Int.natCast_emod] at this
set_option maxRecDepth 100000 in
set_option maxHeartbeats 1000000 in
theorem rencode_x (l : List UInt8) (w : World) (hs : l.length ≤ 1000000000) :
    Calls Tryz.prog 27 #[.string (mkS l)] w fun e w' => e = .returned (.string (mkS (encX l))) ∧ Below w.heap.size w w' := by
  have hms := mkS_size l
  obtain ⟨i0, hi, hz0, hz1, hz2⟩ := info_parts Tryz.infoB
  go_enter Tryz.func27, Tryz.ntmps27
  go_wp2_with fail
  go_loopw [3, 4] (fun v i wr => ∃ k : Nat, k ≤ l.length ∧ i = .int .i64 k ∧ Hid (wr.ownsRow w.heap.size 5 1 v (encX (l.take k)).length (bytesV (encX (l.take k)))) ∧ Hid (Below w.heap.size w wr)) (fun _ i _ => l.length - (intOf i).toNat)
  case atStart => exact ⟨0, Nat.zero_le _, rfl, ⟨rfl, .inl ⟨rfl, rfl⟩⟩, Below.refl _ _⟩
  case round =>
    obtain ⟨k, hk, rfl, HO, HW⟩ := hrel
    by_cases hlt : k < l.length
    · obtain ⟨x, hx⟩ : ∃ x : UInt8, (mkS l)[k]'(by omega) = x := ⟨_, rfl⟩
      have hX : l[k]? = some x := by rw [← hx]; have := Lib.data_getElem? (mkS l) k (by omega); rwa [mkS_data] at this
      have HT := Lib.hid (encX_take hX)
      have HP := Lib.hid (rplain_x x wr)
      have hel : (encX (l.take k)).length ≤ 3000000000 := by have := (cnt_le l k (by omega)).2; unfold cntX at this; omega
      generalize encX (l.take k) = ek at HO HT hel
      obtain ⟨A, c, rfl⟩ := own_slice HO.out
      clear hX
      have hx256 := x.toNat_lt
      cases hp : plainX x
      · have HE := Lib.hid (show encX1 x = [43, digX (x.toNat / 16), digX (x.toNat % 16)] by rw [encX1, hp]; rfl)
        rw [hp] at HP
        clear hp
        go_wp2_with fail
        refine HP.out.mono ?_
        rintro e w2 ⟨rfl, rfl⟩
        go_wp2_with fail
        have q1 : IntKind.u8.wrap ((x.toNat : Int) / 16) = (x.toNat : Int) / 16 := IntWalk.u8_in _ (by omega)
        have q2 : IntKind.u8.wrap ((x.toNat : Int) % 16) = (x.toNat : Int) % 16 := IntWalk.u8_in _ (by omega)
        have q3 : (x.toNat : Int).tmod 16 = (x.toNat : Int) % 16 := IntWalk.rem_in _ _ (by omega)
        have C1 := Lib.hid (cells_new wr [43, digX (x.toNat / 16), digX (x.toNat % 16)] _ rfl _ rfl)
        have C2 := Lib.hid (show ek.length + 3 ≤ 100000000000 by omega)
        have C3 := Lib.hid (show w.heap.size ≤ wr.heap.size + 1 by have := HW.out.size; omega)
        go_region_held3 (fun _ => True) (trivial) (first
          | (go_at_call 56; (with_reducible refine (sign_hi x _).mono ?_); rintro e w' ⟨rfl, rfl⟩)
          | (go_at_call 56; (with_reducible refine (sign_lo x _).mono ?_); rintro e w' ⟨rfl, rfl⟩)
          | (refine step_bytes rfl (.tmp 21) (.tmp 32) rfl w.heap.size (.slice A ek.length c) ek rfl (HO.out.alloc _) ⟨wr.heap.size, 0, none⟩ 3 3 [43, digX (x.toNat / 16), digX (x.toNat % 16)] rfl rfl C1.out (Nat.zero_lt_succ 2) C2.out (by simp; exact C3.out) ?_; intro v1 w2 hown hg))
        all_goals
          have HO2 := Lib.hid hown
          have HW2 := Lib.hid (bytes_grown HW.out HO.out (grown_drew hg))
          clear hown hg q1 q2 q3 C1 C2 C3
          go_wp2_with fail
          go_roundw
          case rel => exact ⟨k + 1, by omega, by go_num, by rw [HT.out, HE.out]; exact HO2.out, HW2.out⟩
          case measure => simp [intOf]; omega
      · have HE := Lib.hid (show encX1 x = [x] by rw [encX1, hp]; rfl)
        rw [hp] at HP
        clear hp
        go_wp2_with fail
        refine HP.out.mono ?_
        rintro e w2 ⟨rfl, rfl⟩
        go_wp2_with (at_builtin
                     refine app_bytes rfl (.tmp 15) (.tmp 19) rfl w.heap.size (.slice A ek.length c) ek rfl (HO.out.alloc _) ⟨wr.heap.size, 0, none⟩ 1 1 [x] rfl rfl ?c1 ?c2 ?c3 ?_)
        case c1 => exact cells_new wr _ _ rfl _ rfl
        case c2 => omega
        case c3 => have := HW.out.size; simp; omega
        intro v1 w2 hown hg
        have HO2 := Lib.hid hown
        have HW2 := Lib.hid (bytes_grown HW.out HO.out hg)
        clear hown hg
        go_wp2_with fail
        go_roundw
        case rel => exact ⟨k + 1, by omega, by go_num, by rw [HT.out, HE.out, List.length_append]; exact HO2.out, HW2.out⟩
        case measure => simp [intOf]; omega
    · have ho := HO.out
      rw [List.take_of_length_le (by omega)] at ho
      obtain ⟨A, c, rfl⟩ := own_slice ho
      have hcv := conv_own (h := ho)
      clear ho
      go_wp2_with fail
      go_ret
      exact ⟨rfl, HW.out⟩
end Go.Proofs.YtpdehgkkpgjpnaaGreatDoor.X
