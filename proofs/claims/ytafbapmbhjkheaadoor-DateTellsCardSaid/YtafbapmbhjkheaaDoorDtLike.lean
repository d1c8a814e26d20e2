/-
  The walks of package date's like and formed.
-/
import Derived.Test.YtafbapmbhjkheaaDoorDtOf
import Derived.Test.YtafbapmbhjkheaaDoorTxMath
namespace Go.Proofs.YtafbapmbhjkheaaDoor
open Go.RowKit
theorem get_at {l : List UInt8} {k : Nat} (hk : k < l.length) : ∃ x : UInt8, l[k]? = some x ∧ (mkS l)[k]'(by rw [mkS_size]; exact hk) = x :=
  ⟨_, List.getElem?_eq_getElem hk, mkS_get _ (List.getElem?_eq_getElem hk)⟩
set_option maxHeartbeats 2000000 in
theorem like_x (s form : List UInt8) (w : World) (hs : s.length ≤ 1000000000000) :
    Calls Tryd.prog 40 #[.string (mkS s), .string (mkS form)] w (Drew (.bool (likeX s form)) w) := by
  have hms := mkS_size s
  have hmf := mkS_size form
  by_cases hn : s.length = form.length
  · have dn : ((s.length : Int) != (form.length : Int)) = false := by rw [hn]; simp
    have HN := Lib.hid hn
    clear hn
    go_enter Tryd.func40, Tryd.ntmps40
    go_wp2_with fail
    go_loopw [13] (fun i wr => ∃ (k n : Nat), k ≤ form.length ∧ i = .int .i64 k ∧ wr = w.drewN n ∧ Hid (likeX s form = likeX (s.drop k) (form.drop k))) (fun i _ => form.length - (intOf i).toNat)
    case atStart => exact ⟨0, 0, Nat.zero_le _, rfl, rfl, rfl⟩
    case round =>
      obtain ⟨k, n, hk, rfl, rfl, HK⟩ := hrel
      by_cases hlt : k < form.length
      · have hlt2 : k < s.length := by rw [HN.out]; exact hlt
        obtain ⟨f, hf1, hf2⟩ := get_at hlt
        obtain ⟨a, ha1, ha2⟩ := get_at hlt2
        have HD := Lib.hid (HK.out.trans (likeX_drop ha1 hf1))
        have HG := Lib.hid (fun (m : Nat) => still0 (digit_x a (w.drewN m)))
        clear hf1 ha1 HK
        by_cases h48 : f = 48
        · have b1 : ((f.toNat : Int) == 48) = true := by rw [h48]; rfl
          have b2 : ((f.toNat : Int) != 48) = false := by rw [h48]; rfl
          have HS := Lib.hid (show signX f a = digB a by rw [signX, if_pos h48])
          clear h48
          cases hd : digB a
          · rw [hd] at HG HS
            clear hd
            go_wp2_with fail
            go_quiet ((go_at_call 28; exact quiet_more (HG.out _)))
            go_wp2_with fail
            go_ret
            exact ⟨ret_bool (by rw [HD.out, HS.out]; rfl), _, World.drewN_drewN _ _ _⟩
          · rw [hd] at HG HS
            clear hd
            go_wp2_with fail
            go_quiet ((go_at_call 28; exact quiet_more (HG.out _)))
            go_wp2_with fail
            go_roundw
            case rel => exact ⟨k + 1, _, by omega, by go_num, rfl, by show _ = _; rw [HD.out, HS.out]; rfl⟩
            case measure => simp [intOf]; omega
        · have b1 : ((f.toNat : Int) == 48) = false := Bool.eq_false_iff.2 fun e => h48 ((byte_eq (n := 48) (by decide)).1 e)
          have b2 : ((f.toNat : Int) != 48) = true := by rw [bne_iff_ne]; exact fun e => h48 ((byte_eq (n := 48) (by decide)).1 (beq_iff_eq.2 e))
          have HS := Lib.hid (show signX f a = (a == f) by rw [signX, if_neg h48])
          clear h48 HG
          by_cases he : a = f
          · have b3 : ((f.toNat : Int) != (a.toNat : Int)) = false := by rw [he]; simp
            have HS2 := Lib.hid (show signX f a = true by rw [HS.out, he]; simp)
            clear he HS
            go_wp2_with fail
            go_quiet (fail)
            go_wp2_with fail
            go_roundw
            case rel => exact ⟨k + 1, _, by omega, by go_num, rfl, by show _ = _; rw [HD.out, HS2.out]; rfl⟩
            case measure => simp [intOf]; omega
          · have b3 : ((f.toNat : Int) != (a.toNat : Int)) = true := by rw [bne_iff_ne]; exact fun e => he (UInt8.toNat_inj.1 (by omega))
            have HS2 := Lib.hid (show signX f a = false by rw [HS.out]; exact beq_eq_false_iff_ne.2 he)
            clear he HS
            go_wp2_with fail
            go_quiet (fail)
            go_wp2_with fail
            go_ret
            exact ⟨ret_bool (by rw [HD.out, HS2.out]; rfl), _, World.drewN_drewN _ _ _⟩
      · have hk2 := HK.out
        rw [List.drop_of_length_le (by rw [HN.out]; omega), List.drop_of_length_le (by omega)] at hk2
        have HE := Lib.hid hk2
        clear hk2
        go_wp2_with fail
        go_ret
        exact ⟨ret_bool (by rw [HE.out]; rfl), _, rfl⟩
  · have dn : ((s.length : Int) != (form.length : Int)) = true := by rw [bne_iff_ne]; omega
    have HL := Lib.hid (likeX_ne hn)
    clear hn
    go_enter Tryd.func40, Tryd.ntmps40
    go_wp2_with fail
    go_ret
    exact ⟨ret_bool HL.out.symm, 0, rfl⟩
theorem likeZ_x (s : List UInt8) (w : World) (hs : s.length ≤ 1000000000000) : Calls Tryd.prog 40 #[.string (mkS s), .string { data := #[48, 48, 48, 48, 45, 48, 48, 45, 48, 48, 84, 48, 48, 58, 48, 48, 58, 48, 48, 90] }] w (Drew (.bool (likeX s formZ)) w) := like_x s formZ w hs
theorem likeP_x (s : List UInt8) (w : World) (hs : s.length ≤ 1000000000000) : Calls Tryd.prog 40 #[.string (mkS s), .string { data := #[48, 48, 48, 48, 45, 48, 48, 45, 48, 48, 84, 48, 48, 58, 48, 48, 58, 48, 48, 43, 48, 48, 58, 48, 48] }] w (Drew (.bool (likeX s formP)) w) := like_x s formP w hs
theorem likeM_x (s : List UInt8) (w : World) (hs : s.length ≤ 1000000000000) : Calls Tryd.prog 40 #[.string (mkS s), .string { data := #[48, 48, 48, 48, 45, 48, 48, 45, 48, 48, 84, 48, 48, 58, 48, 48, 58, 48, 48, 45, 48, 48, 58, 48, 48] }] w (Drew (.bool (likeX s formM)) w) := like_x s formM w hs
set_option maxHeartbeats 1000000 in
theorem formed_x (s : List UInt8) (w : World) (hs : s.length ≤ 1000000000000) : Calls Tryd.prog 26 #[.string (mkS s)] w (Drew (.bool (formedX s)) w) := by
  have HF := Lib.hid (show formedX s = (likeX s formZ || likeX s formP || likeX s formM) from rfl)
  have H1 := Lib.hid (fun w => likeZ_x s w hs)
  have H2 := Lib.hid (fun w => likeP_x s w hs)
  have H3 := Lib.hid (fun w => likeM_x s w hs)
  generalize likeX s formZ = b1 at HF H1
  generalize likeX s formP = b2 at HF H2
  generalize likeX s formM = b3 at HF H3
  cases b1
  · cases b2
    · go_enter Tryd.func26, Tryd.ntmps26
      go_wp2_with fail
      refine (H1.out _).mono ?_
      rintro e w' ⟨rfl, k1, rfl⟩
      go_wp2_with fail
      refine (H2.out _).mono ?_
      rintro e w' ⟨rfl, k2, rfl⟩
      go_wp2_with fail
      refine (H3.out _).mono ?_
      rintro e w' ⟨rfl, k3, rfl⟩
      go_wp2_with fail
      go_ret
      exact ⟨ret_bool (by rw [HF.out]; rfl), _, rfl⟩
    · go_enter Tryd.func26, Tryd.ntmps26
      go_wp2_with fail
      refine (H1.out _).mono ?_
      rintro e w' ⟨rfl, k1, rfl⟩
      go_wp2_with fail
      refine (H2.out _).mono ?_
      rintro e w' ⟨rfl, k2, rfl⟩
      go_wp2_with fail
      go_ret
      exact ⟨ret_bool (by rw [HF.out]; rfl), _, rfl⟩
  · go_enter Tryd.func26, Tryd.ntmps26
    go_wp2_with fail
    refine (H1.out _).mono ?_
    rintro e w' ⟨rfl, k1, rfl⟩
    go_wp2_with fail
    go_ret
    exact ⟨ret_bool (by rw [HF.out]; rfl), _, rfl⟩
end Go.Proofs.YtafbapmbhjkheaaDoor
