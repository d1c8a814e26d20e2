/-
  The walk of param's ranged.
-/
import Derived.Test.YtbecdncnidcmdaaGreatDoorPaRight
import Derived.Test.YtbecdncnidcmdaaGreatDoorMaDate
namespace Go.Proofs.YtbecdncnidcmdaaGreatDoor
set_option maxRecDepth 100000
open Go.RowKit
theorem rightn_s (b : Bool) (n x y : Int) (w : World) : Calls Tryz.prog 335 #[.bool b, .int .i64 n, .int .i64 x, .int .i64 y] w fun e w' => e = .returned (.bool (inB b n x y)) ∧ w' = w := (rightn_x b n x y w).mono fun _ _ h => ⟨h.1, h.2.symm⟩
theorem leastBy_s (l : List UInt8) (w : World) : Calls Tryz.prog 327 #[.string (mkS l)] w fun e w' => e = .returned (.int .i64 (leastV l)) ∧ w' = w := (leastBy_x l w).mono fun _ _ h => ⟨h.1, h.2.symm⟩
set_option maxHeartbeats 8000000 in
theorem ranged_x (m : ML) (w : World) (hR : Ready w) : Calls Tryz.prog 285 #[.agg #[.bool m.hs, .bool m.hf, .bool m.hu, .bool m.hb, .bool m.hp, .int .i64 m.sz, .int .i64 m.fo, .int .i64 m.un, .int .i64 m.by_, .int .i64 m.pr, .string (mkS m.body), .string (mkS m.ret), .string (mkS m.env), .string (mkS m.mode)]] w fun e w' => e = .returned (.bool (rangB m)) ∧ Below w.heap.size w w' := by
  have k0 := newOf w (.cells #[.bool m.hs, .bool m.hf, .bool m.hu, .bool m.hb, .bool m.hp, .int .i64 m.sz, .int .i64 m.fo, .int .i64 m.un, .int .i64 m.by_, .int .i64 m.pr, .string (mkS m.body), .string (mkS m.ret), .string (mkS m.env), .string (mkS m.mode)] 49)
  have kB : Below w.heap.size w (w.alloc (.cells #[.bool m.hs, .bool m.hf, .bool m.hu, .bool m.hb, .bool m.hp, .int .i64 m.sz, .int .i64 m.fo, .int .i64 m.un, .int .i64 m.by_, .int .i64 m.pr, .string (mkS m.body), .string (mkS m.ret), .string (mkS m.env), .string (mkS m.mode)] 49)) := (Below.refl _ w).alloc (Nat.le_refl _) _
  have HM := Lib.hid (MBox.mk (W := w) k0 kB)
  have HP := Lib.hid (fun w' (h : Ready w') => print_x m.un w' h)
  have HR := Lib.hid (hR.below kB)
  have HV := Lib.hid (show rangB m = (inB m.hs m.sz 0 999999999 && inB m.hf m.fo 1 1048576 && (!m.hu || printE m.un == 0) && inB m.hb m.by_ (leastV m.mode) 999999999 && inB m.hp m.pr (-9) 9) from rfl)
  have R1 := Lib.hid (fun w => rightn_s m.hs m.sz 0 999999999 w)
  have R2 := Lib.hid (fun w => rightn_s m.hf m.fo 1 1048576 w)
  have R4 := Lib.hid (fun w => rightn_s m.hb m.by_ (leastV m.mode) 999999999 w)
  have R5 := Lib.hid (fun w => rightn_s m.hp m.pr (-9) 9 w)
  have RL := Lib.hid (fun w => leastBy_s m.mode w)
  generalize inB m.hs m.sz 0 999999999 = q1 at R1 HV
  generalize inB m.hf m.fo 1 1048576 = q2 at R2 HV
  generalize inB m.hb m.by_ (leastV m.mode) 999999999 = q4 at R4 HV
  generalize inB m.hp m.pr (-9) 9 = q5 at R5 HV
  generalize leastV m.mode = lv at R4 RL
  unfold PrintPost at HP
  generalize printS m.un = ps at HP
  generalize printE m.un = pe at HP HV
  clear k0 kB hR
  go_enter Tryz.func285, Tryz.ntmps285
  go_wp2_with fail
  have k3 := HM.out.c7
  go_wp2_with fail
  generalize w.alloc (.cells #[.bool m.hs, .bool m.hf, .bool m.hu, .bool m.hb, .bool m.hp, .int .i64 m.sz, .int .i64 m.fo, .int .i64 m.un, .int .i64 m.by_, .int .i64 m.pr, .string (mkS m.body), .string (mkS m.ret), .string (mkS m.env), .string (mkS m.mode)] 49) = W0 at HM HR k3 ⊢
  refine (HP.out _ HR.out).mono ?_
  rintro e w1 ⟨rfl, hb⟩
  clear k3 HP
  have H1 := Lib.hid (HM.out.next hb)
  clear hb HM HR
  go_wp2_with fail
  have c0 := H1.out.c0
  have c5 := H1.out.c5
  have c1 := H1.out.c1
  have c6 := H1.out.c6
  have c2 := H1.out.c2
  have c3 := H1.out.c3
  have c8 := H1.out.c8
  have c13 := H1.out.c13
  have c4 := H1.out.c4
  have c9 := H1.out.c9
  generalize hhu : m.hu = hu at c2 HV
  have HB := Lib.hid H1.out.below
  clear H1 hhu
  cases q1
  · go_quiet ((first
          | (go_at_call 327; exact Calls.quiet_of_same (RL.out _))
          | (go_at_call 335; first | (with_reducible exact Calls.quiet_of_same (R1.out _)) | (with_reducible exact Calls.quiet_of_same (R2.out _)) | (with_reducible exact Calls.quiet_of_same (R4.out _)) | (with_reducible exact Calls.quiet_of_same (R5.out _)))))
    go_wp2_with fail
    go_ret
    exact ⟨ret_bool (by rw [HV.out]; simp), below_drewN HB.out _⟩
  · cases q2
    · go_quiet ((first
            | (go_at_call 327; exact Calls.quiet_of_same (RL.out _))
            | (go_at_call 335; first | (with_reducible exact Calls.quiet_of_same (R1.out _)) | (with_reducible exact Calls.quiet_of_same (R2.out _)) | (with_reducible exact Calls.quiet_of_same (R4.out _)) | (with_reducible exact Calls.quiet_of_same (R5.out _)))))
      go_wp2_with fail
      go_ret
      exact ⟨ret_bool (by rw [HV.out]; simp), below_drewN HB.out _⟩
    · cases hu
      · cases q4
        · go_quiet ((first
                | (go_at_call 327; exact Calls.quiet_of_same (RL.out _))
                | (go_at_call 335; first | (with_reducible exact Calls.quiet_of_same (R1.out _)) | (with_reducible exact Calls.quiet_of_same (R2.out _)) | (with_reducible exact Calls.quiet_of_same (R4.out _)) | (with_reducible exact Calls.quiet_of_same (R5.out _)))))
          go_wp2_with fail
          go_ret
          exact ⟨ret_bool (by rw [HV.out]; simp), below_drewN HB.out _⟩
        · go_quiet ((first
                | (go_at_call 327; exact Calls.quiet_of_same (RL.out _))
                | (go_at_call 335; first | (with_reducible exact Calls.quiet_of_same (R1.out _)) | (with_reducible exact Calls.quiet_of_same (R2.out _)) | (with_reducible exact Calls.quiet_of_same (R4.out _)) | (with_reducible exact Calls.quiet_of_same (R5.out _)))))
          go_wp2_with fail
          go_ret
          exact ⟨ret_bool (by rw [HV.out]; simp), below_drewN HB.out _⟩
      · by_cases hpe : pe = 0
        · subst hpe
          cases q4
          · go_quiet ((first
                  | (go_at_call 327; exact Calls.quiet_of_same (RL.out _))
                  | (go_at_call 335; first | (with_reducible exact Calls.quiet_of_same (R1.out _)) | (with_reducible exact Calls.quiet_of_same (R2.out _)) | (with_reducible exact Calls.quiet_of_same (R4.out _)) | (with_reducible exact Calls.quiet_of_same (R5.out _)))))
            go_wp2_with fail
            go_ret
            exact ⟨ret_bool (by rw [HV.out]; simp), below_drewN HB.out _⟩
          · go_quiet ((first
                  | (go_at_call 327; exact Calls.quiet_of_same (RL.out _))
                  | (go_at_call 335; first | (with_reducible exact Calls.quiet_of_same (R1.out _)) | (with_reducible exact Calls.quiet_of_same (R2.out _)) | (with_reducible exact Calls.quiet_of_same (R4.out _)) | (with_reducible exact Calls.quiet_of_same (R5.out _)))))
            go_wp2_with fail
            go_ret
            exact ⟨ret_bool (by rw [HV.out]; simp), below_drewN HB.out _⟩
        · have hpf : (pe == 0) = false := by simp [hpe]
          have HPF := Lib.hid hpf
          go_quiet ((first
                | (go_at_call 327; exact Calls.quiet_of_same (RL.out _))
                | (go_at_call 335; first | (with_reducible exact Calls.quiet_of_same (R1.out _)) | (with_reducible exact Calls.quiet_of_same (R2.out _)) | (with_reducible exact Calls.quiet_of_same (R4.out _)) | (with_reducible exact Calls.quiet_of_same (R5.out _)))))
          go_wp2_with fail
          go_ret
          exact ⟨ret_bool (by rw [HV.out, HPF.out]; simp), below_drewN HB.out _⟩
end Go.Proofs.YtbecdncnidcmdaaGreatDoor
