/-
  The walk of param's RightMail.
-/
import Derived.Test.YtbecdncnidcmdaaGreatDoorPaRightB
import Derived.Test.YtbecdncnidcmdaaGreatDoorPaRang
import Derived.Test.YtbecdncnidcmdaaGreatDoorPaPM
namespace Go.Proofs.YtbecdncnidcmdaaGreatDoor
set_option maxRecDepth 100000
open Go.RowKit
theorem eqUn (m : ML) (w : World) : (Op.equalIn 10000 49 (.agg #[.bool false, .bool false, .bool false, .bool false, .bool false, .int .i64 (if m.hs then 0 else m.sz), .int .i64 (if m.hf then 0 else m.fo), .int .i64 (if m.hu then 0 else m.un), .int .i64 (if m.hb then 0 else m.by_), .int .i64 (if m.hp then 0 else m.pr), .string { data := #[] }, .string { data := #[] }, .string { data := #[] }, .string { data := #[] }]) (.agg #[.bool false, .bool false, .bool false, .bool false, .bool false, .int .i64 0, .int .i64 0, .int .i64 0, .int .i64 0, .int .i64 0, .string { data := #[] }, .string { data := #[] }, .string { data := #[] }, .string { data := #[] }])).run Tryz.prog w = .ok (unB m) w := by
  have h := eqMail (unV m) zeroM w
  rw [unV_zero] at h
  exact h
set_option maxHeartbeats 8000000 in
theorem rightM_x (m : ML) (w : World) (hR : Ready w) : Calls Tryz.prog 262 #[.agg #[.bool m.hs, .bool m.hf, .bool m.hu, .bool m.hb, .bool m.hp, .int .i64 m.sz, .int .i64 m.fo, .int .i64 m.un, .int .i64 m.by_, .int .i64 m.pr, .string (mkS m.body), .string (mkS m.ret), .string (mkS m.env), .string (mkS m.mode)]] w fun e w' => e = .returned (.int .i64 (rightM m)) ∧ Below w.heap.size w w' := by
  have k0 := newOf w (.cells #[.bool m.hs, .bool m.hf, .bool m.hu, .bool m.hb, .bool m.hp, .int .i64 m.sz, .int .i64 m.fo, .int .i64 m.un, .int .i64 m.by_, .int .i64 m.pr, .string (mkS m.body), .string (mkS m.ret), .string (mkS m.env), .string (mkS m.mode)] 49)
  have kB : Below w.heap.size w (w.alloc (.cells #[.bool m.hs, .bool m.hf, .bool m.hu, .bool m.hb, .bool m.hp, .int .i64 m.sz, .int .i64 m.fo, .int .i64 m.un, .int .i64 m.by_, .int .i64 m.pr, .string (mkS m.body), .string (mkS m.ret), .string (mkS m.env), .string (mkS m.mode)] 49)) := (Below.refl _ w).alloc (Nat.le_refl _) _
  have H0 := Lib.hid (MBox.mk (W := w) k0 kB)
  have HRb := Lib.hid (fun w' (h : MBox w w.heap.size m w') => hR.below h.below)
  have HV := Lib.hid (show rightM m = if (namedB m && unB m) = false then 2 else if rangB m = false then 1 else if 100 < m.env.length then 3 else if (m.hf && m.hu) = true then 9 else 0 from rfl)
  have N := Lib.hid (fun w => named_x m w)
  have U := Lib.hid (fun w => unsaid_x m w)
  have G := Lib.hid (fun w (h : Ready w) => ranged_x m w h)
  have T := Lib.hid (fun w => held_x m w)
  have he := eqUn m
  have hsz := mkS_size m.env
  generalize (if m.hs then (0 : Int) else m.sz) = u1 at U he
  generalize (if m.hf then (0 : Int) else m.fo) = u2 at U he
  generalize (if m.hu then (0 : Int) else m.un) = u3 at U he
  generalize (if m.hb then (0 : Int) else m.by_) = u4 at U he
  generalize (if m.hp then (0 : Int) else m.pr) = u5 at U he
  generalize namedB m = q1 at N HV
  generalize unB m = q2 at he HV
  generalize rangB m = q3 at G HV
  generalize (m.hf && m.hu) = q4 at T HV
  clear k0 kB hR
  go_enter Tryz.func262, Tryz.ntmps262
  go_wp2_with fail
  have c0 := H0.out.c0
  have c1 := H0.out.c1
  have c2 := H0.out.c2
  have c3 := H0.out.c3
  have c4 := H0.out.c4
  have c5 := H0.out.c5
  have c6 := H0.out.c6
  have c7 := H0.out.c7
  have c8 := H0.out.c8
  have c9 := H0.out.c9
  have c10 := H0.out.c10
  have c11 := H0.out.c11
  have c12 := H0.out.c12
  have c13 := H0.out.c13
  go_wp2_with fail
  clear c0 c1 c2 c3 c4 c5 c6 c7 c8 c9 c10 c11 c12 c13
  generalize w.alloc (.cells #[.bool m.hs, .bool m.hf, .bool m.hu, .bool m.hb, .bool m.hp, .int .i64 m.sz, .int .i64 m.fo, .int .i64 m.un, .int .i64 m.by_, .int .i64 m.pr, .string (mkS m.body), .string (mkS m.ret), .string (mkS m.env), .string (mkS m.mode)] 49) = W0 at H0 ⊢
  refine (N.out _).mono ?_
  rintro e w1 ⟨rfl, hb⟩
  have H1 := Lib.hid (H0.out.next hb)
  clear hb H0
  cases q1
  · go_wp2_with fail
    go_ret
    exact ⟨ret_int (by rw [HV.out]; simp), H1.out.below⟩
  · have _u := trivial
    have c0 := H1.out.c0
    have c1 := H1.out.c1
    have c2 := H1.out.c2
    have c3 := H1.out.c3
    have c4 := H1.out.c4
    have c5 := H1.out.c5
    have c6 := H1.out.c6
    have c7 := H1.out.c7
    have c8 := H1.out.c8
    have c9 := H1.out.c9
    have c10 := H1.out.c10
    have c11 := H1.out.c11
    have c12 := H1.out.c12
    have c13 := H1.out.c13
    go_wp2_with fail
    clear c0 c1 c2 c3 c4 c5 c6 c7 c8 c9 c10 c11 c12 c13
    refine (U.out _).mono ?_
    rintro e w2 ⟨rfl, hb⟩
    have H2 := Lib.hid (H1.out.next hb)
    clear hb H1
    cases q2
    · go_wp2_with fail
      go_ret
      exact ⟨ret_int (by rw [HV.out]; simp), H2.out.below⟩
    · have _u := trivial
      have c0 := H2.out.c0
      have c1 := H2.out.c1
      have c2 := H2.out.c2
      have c3 := H2.out.c3
      have c4 := H2.out.c4
      have c5 := H2.out.c5
      have c6 := H2.out.c6
      have c7 := H2.out.c7
      have c8 := H2.out.c8
      have c9 := H2.out.c9
      have c10 := H2.out.c10
      have c11 := H2.out.c11
      have c12 := H2.out.c12
      have c13 := H2.out.c13
      go_wp2_with fail
      clear c0 c1 c2 c3 c4 c5 c6 c7 c8 c9 c10 c11 c12 c13
      refine (G.out _ (HRb.out _ H2.out)).mono ?_
      rintro e w3 ⟨rfl, hb⟩
      have H3 := Lib.hid (H2.out.next hb)
      clear hb H2
      cases q3
      · go_wp2_with fail
        go_ret
        exact ⟨ret_int (by rw [HV.out]; simp), H3.out.below⟩
      · by_cases hl : 100 < m.env.length
        · have hlI : (100 : Int) < (m.env.length : Int) := by omega
          have c0 := H3.out.c0
          have c1 := H3.out.c1
          have c2 := H3.out.c2
          have c3 := H3.out.c3
          have c4 := H3.out.c4
          have c5 := H3.out.c5
          have c6 := H3.out.c6
          have c7 := H3.out.c7
          have c8 := H3.out.c8
          have c9 := H3.out.c9
          have c10 := H3.out.c10
          have c11 := H3.out.c11
          have c12 := H3.out.c12
          have c13 := H3.out.c13
          go_wp2_with fail
          go_ret
          exact ⟨ret_int (by rw [HV.out]; simp [hl]), H3.out.below⟩
        · have hlI : ¬ (100 : Int) < (m.env.length : Int) := by omega
          have c0 := H3.out.c0
          have c1 := H3.out.c1
          have c2 := H3.out.c2
          have c3 := H3.out.c3
          have c4 := H3.out.c4
          have c5 := H3.out.c5
          have c6 := H3.out.c6
          have c7 := H3.out.c7
          have c8 := H3.out.c8
          have c9 := H3.out.c9
          have c10 := H3.out.c10
          have c11 := H3.out.c11
          have c12 := H3.out.c12
          have c13 := H3.out.c13
          go_wp2_with fail
          clear c0 c1 c2 c3 c4 c5 c6 c7 c8 c9 c10 c11 c12 c13
          refine (T.out _).mono ?_
          rintro e w4 ⟨rfl, hb⟩
          have H4 := Lib.hid (H3.out.next hb)
          clear hb H3
          cases q4
          · go_wp2_with fail
            go_ret
            exact ⟨ret_int (by rw [HV.out]; simp [hl]), H4.out.below⟩
          · go_wp2_with fail
            go_ret
            exact ⟨ret_int (by rw [HV.out]; simp [hl]), H4.out.below⟩
end Go.Proofs.YtbecdncnidcmdaaGreatDoor
