/-
  The walk of the law ParamPrints.
-/
import Derived.Test.YtpdehgkkpgjpnaaGreatDoorPaRpM
import Derived.Test.YtpdehgkkpgjpnaaGreatDoorPaRpR
import Derived.Test.YtpdehgkkpgjpnaaGreatDoorPaBk
namespace Go.Proofs.YtpdehgkkpgjpnaaGreatDoor
set_option maxRecDepth 100000
open Go.RowKit Go.Shelf
set_option maxHeartbeats 8000000 in
theorem lof_x (m : ML) (w : World) : Calls Tryz.prog 11 #[.agg #[.bool m.hs, .bool m.hf, .bool m.hu, .bool m.hb, .bool m.hp, .int .i64 m.sz, .int .i64 m.fo, .int .i64 m.un, .int .i64 m.by_, .int .i64 m.pr, .string (mkS m.body), .string (mkS m.ret), .string (mkS m.env), .string (mkS m.mode)]] w fun e w' => e = .returned (.agg #[.bool m.hs, .bool m.hf, .bool m.hu, .bool m.hb, .bool m.hp, .int .i64 m.sz, .int .i64 m.fo, .int .i64 m.un, .int .i64 m.by_, .int .i64 m.pr, .string (mkS m.body), .string (mkS m.ret), .string (mkS m.env), .string (mkS m.mode)]) ∧ Below w.heap.size w w' := by
  go_enter Tryz.func11, Tryz.ntmps11
  go_wp2_with fail
  refine bodyPost_ret (v := .agg #[.bool m.hs, .bool m.hf, .bool m.hu, .bool m.hb, .bool m.hp, .int .i64 m.sz, .int .i64 m.fo, .int .i64 m.un, .int .i64 m.by_, .int .i64 m.pr, .string (mkS m.body), .string (mkS m.ret), .string (mkS m.env), .string (mkS m.mode)]) (by simp [results, Tryz.results11, go_sem]) rfl ?_
  exact ⟨rfl, ((Below.refl _ w).alloc (Nat.le_refl _) _).alloc (by simp) _⟩
/-- The arguments in their boxes. -/
structure Duo (w : World) (m : ML) (r : RL) (w' : World) : Prop where
  mb : MBox w w.heap.size m w'
  rb : RBox w (w.heap.size + 1) r w'
theorem Duo.next {w w' w'' : World} {m : ML} {r : RL} (h : Duo w m r w') (hb : Below w'.heap.size w' w'') : Duo w m r w'' := ⟨h.mb.next hb, h.rb.next hb⟩
theorem duo_new (w : World) (m : ML) (r : RL) : Duo w m r ((w.alloc (.cells #[.bool m.hs, .bool m.hf, .bool m.hu, .bool m.hb, .bool m.hp, .int .i64 m.sz, .int .i64 m.fo, .int .i64 m.un, .int .i64 m.by_, .int .i64 m.pr, .string (mkS m.body), .string (mkS m.ret), .string (mkS m.env), .string (mkS m.mode)] 25)).alloc (.cells #[.string (mkS r.no), .string (mkS r.kind), .string (mkS r.oc)] 27)) := by
  have k0 := newOf w (.cells #[.bool m.hs, .bool m.hf, .bool m.hu, .bool m.hb, .bool m.hp, .int .i64 m.sz, .int .i64 m.fo, .int .i64 m.un, .int .i64 m.by_, .int .i64 m.pr, .string (mkS m.body), .string (mkS m.ret), .string (mkS m.env), .string (mkS m.mode)] 25)
  have k1 := old_alloc (o := .cells #[.string (mkS r.no), .string (mkS r.kind), .string (mkS r.oc)] 27) k0
  have k2 := new_alloc (w := w.alloc (.cells #[.bool m.hs, .bool m.hf, .bool m.hu, .bool m.hb, .bool m.hp, .int .i64 m.sz, .int .i64 m.fo, .int .i64 m.un, .int .i64 m.by_, .int .i64 m.pr, .string (mkS m.body), .string (mkS m.ret), .string (mkS m.env), .string (mkS m.mode)] 25)) (n := w.heap.size + 1) (.cells #[.string (mkS r.no), .string (mkS r.kind), .string (mkS r.oc)] 27) (by simp)
  have kB : Below w.heap.size w ((w.alloc (.cells #[.bool m.hs, .bool m.hf, .bool m.hu, .bool m.hb, .bool m.hp, .int .i64 m.sz, .int .i64 m.fo, .int .i64 m.un, .int .i64 m.by_, .int .i64 m.pr, .string (mkS m.body), .string (mkS m.ret), .string (mkS m.env), .string (mkS m.mode)] 25)).alloc (.cells #[.string (mkS r.no), .string (mkS r.kind), .string (mkS r.oc)] 27)) := ((Below.refl _ w).alloc (Nat.le_refl _) _).alloc (by simp) _
  exact ⟨⟨k1, kB⟩, ⟨k2, kB⟩⟩
set_option maxHeartbeats 16000000 in
theorem paramPrints_x (m : ML) (r : RL) (w : World) (hR : Ready w) (hN : NotR w) (hm : ShortM m) (hr : ShortR r) : Calls Tryz.prog 3 #[.agg #[.bool m.hs, .bool m.hf, .bool m.hu, .bool m.hb, .bool m.hp, .int .i64 m.sz, .int .i64 m.fo, .int .i64 m.un, .int .i64 m.by_, .int .i64 m.pr, .string (mkS m.body), .string (mkS m.ret), .string (mkS m.env), .string (mkS m.mode)], .agg #[.string (mkS r.no), .string (mkS r.kind), .string (mkS r.oc)]] w fun e w' => e = .returned (.bool true) ∧ Below w.heap.size w w' := by
  have T0 := Lib.hid (duo_new w m r)
  have HA := Lib.hid (fun w' (h : Duo w m r w') => awake_x w' (hR.below h.mb.below) (hN.below h.mb.below))
  have HRb := Lib.hid (fun w' (h : Duo w m r w') => hR.below h.mb.below)
  have HNb := Lib.hid (fun w' (h : Duo w m r w') => hN.below h.mb.below)
  have HS := Lib.hid (fun w => small_x m r w hm hr)
  have HSM := Lib.hid (show smallB m r = true → r.kind.length ≤ 100000 from fun h => by unfold smallB at h; simp only [Bool.and_eq_true, decide_eq_true_eq] at h; omega)
  clear hR hN hm hr
  generalize smallB m r = q at HS HSM
  go_enter Tryz.func3, Tryz.ntmps3
  go_wp2_with fail
  generalize (w.alloc (.cells #[.bool m.hs, .bool m.hf, .bool m.hu, .bool m.hb, .bool m.hp, .int .i64 m.sz, .int .i64 m.fo, .int .i64 m.un, .int .i64 m.by_, .int .i64 m.pr, .string (mkS m.body), .string (mkS m.ret), .string (mkS m.env), .string (mkS m.mode)] 25)).alloc (.cells #[.string (mkS r.no), .string (mkS r.kind), .string (mkS r.oc)] 27) = W0 at T0 ⊢
  refine (HA.out _ T0.out).mono ?_
  rintro e w1 ⟨rfl, hb⟩
  have T1 := Lib.hid (T0.out.next hb)
  clear hb T0 HA
  have c0 := T1.out.mb.c0
  have c1 := T1.out.mb.c1
  have c2 := T1.out.mb.c2
  have c3 := T1.out.mb.c3
  have c4 := T1.out.mb.c4
  have c5 := T1.out.mb.c5
  have c6 := T1.out.mb.c6
  have c7 := T1.out.mb.c7
  have c8 := T1.out.mb.c8
  have c9 := T1.out.mb.c9
  have c10 := T1.out.mb.c10
  have c11 := T1.out.mb.c11
  have c12 := T1.out.mb.c12
  have c13 := T1.out.mb.c13
  have r0 := T1.out.rb.c0
  have r1 := T1.out.rb.c1
  have r2 := T1.out.rb.c2
  go_wp2_with fail
  clear c0 c1 c2 c3 c4 c5 c6 c7 c8 c9 c10 c11 c12 c13
  clear r0 r1 r2
  refine (HS.out _).mono ?_
  rintro e w2 ⟨rfl, hb⟩
  have T2 := Lib.hid (T1.out.next hb)
  clear hb T1 HS
  cases q
  · go_wp2_with fail
    go_ret
    exact ⟨rfl, T2.out.mb.below⟩
  have hk := HSM.out (by first | rfl | trivial)
  clear HSM
  have HP := Lib.hid (fun w h => printM_x m w h)
  have HQ := Lib.hid (fun w h => printR_x r w h (by omega))
  have HP' := Lib.hid (fun w => rprintM_x m w)
  have HQ' := Lib.hid (fun w => rprintR_x r w hk)
  have HX := Lib.hid (fun w h => rightM_x m w h)
  have HY := Lib.hid (fun w h => rightR_x r w h (by omega))
  have HO := Lib.hid (fun w => lof_x m w)
  clear hk
  generalize printM m = P at HP HP'
  generalize rightM m = E at HP HP' HX
  generalize printR r = Q at HQ HQ'
  generalize rightR r = F at HQ HQ' HY
  have c0 := T2.out.mb.c0
  have c1 := T2.out.mb.c1
  have c2 := T2.out.mb.c2
  have c3 := T2.out.mb.c3
  have c4 := T2.out.mb.c4
  have c5 := T2.out.mb.c5
  have c6 := T2.out.mb.c6
  have c7 := T2.out.mb.c7
  have c8 := T2.out.mb.c8
  have c9 := T2.out.mb.c9
  have c10 := T2.out.mb.c10
  have c11 := T2.out.mb.c11
  have c12 := T2.out.mb.c12
  have c13 := T2.out.mb.c13
  go_wp2_with fail
  clear c0 c1 c2 c3 c4 c5 c6 c7 c8 c9 c10 c11 c12 c13
  refine (HP.out _ (HRb.out _ T2.out)).mono ?_
  rintro e w3 ⟨rfl, hb⟩
  have T3 := Lib.hid (T2.out.next hb)
  clear hb T2
  have c0 := T3.out.mb.c0
  have c1 := T3.out.mb.c1
  have c2 := T3.out.mb.c2
  have c3 := T3.out.mb.c3
  have c4 := T3.out.mb.c4
  have c5 := T3.out.mb.c5
  have c6 := T3.out.mb.c6
  have c7 := T3.out.mb.c7
  have c8 := T3.out.mb.c8
  have c9 := T3.out.mb.c9
  have c10 := T3.out.mb.c10
  have c11 := T3.out.mb.c11
  have c12 := T3.out.mb.c12
  have c13 := T3.out.mb.c13
  go_wp2_with fail
  clear c0 c1 c2 c3 c4 c5 c6 c7 c8 c9 c10 c11 c12 c13
  refine (HO.out _).mono ?_
  rintro e w4 ⟨rfl, hb⟩
  have T4 := Lib.hid (T3.out.next hb)
  clear hb T3
  go_wp2_with fail
  refine (HP'.out _).mono ?_
  rintro e w5 ⟨rfl, hb⟩
  have T5 := Lib.hid (T4.out.next hb)
  clear hb T4
  have r0 := T5.out.rb.c0
  have r1 := T5.out.rb.c1
  have r2 := T5.out.rb.c2
  go_wp2_with fail
  clear r0 r1 r2
  refine (HQ.out _ (HNb.out _ T5.out)).mono ?_
  rintro e w6 ⟨rfl, hb⟩
  have T6 := Lib.hid (T5.out.next hb)
  clear hb T5
  have r0 := T6.out.rb.c0
  have r1 := T6.out.rb.c1
  have r2 := T6.out.rb.c2
  go_wp2_with fail
  clear r0 r1 r2
  refine (HQ'.out _).mono ?_
  rintro e w7 ⟨rfl, hb⟩
  have T7 := Lib.hid (T6.out.next hb)
  clear hb T6
  have c0 := T7.out.mb.c0
  have c1 := T7.out.mb.c1
  have c2 := T7.out.mb.c2
  have c3 := T7.out.mb.c3
  have c4 := T7.out.mb.c4
  have c5 := T7.out.mb.c5
  have c6 := T7.out.mb.c6
  have c7 := T7.out.mb.c7
  have c8 := T7.out.mb.c8
  have c9 := T7.out.mb.c9
  have c10 := T7.out.mb.c10
  have c11 := T7.out.mb.c11
  have c12 := T7.out.mb.c12
  have c13 := T7.out.mb.c13
  go_wp2_with fail
  clear c0 c1 c2 c3 c4 c5 c6 c7 c8 c9 c10 c11 c12 c13
  refine (HX.out _ (HRb.out _ T7.out)).mono ?_
  rintro e w8 ⟨rfl, hb⟩
  have T8 := Lib.hid (T7.out.next hb)
  clear hb T7
  have r0 := T8.out.rb.c0
  have r1 := T8.out.rb.c1
  have r2 := T8.out.rb.c2
  go_wp2_with fail
  clear r0 r1 r2
  refine (HY.out _ (HNb.out _ T8.out)).mono ?_
  rintro e w9 ⟨rfl, hb⟩
  have T9 := Lib.hid (T8.out.next hb)
  clear hb T8
  go_wp2_with fail
  go_ret
  exact ⟨ret_bool (by simp), T9.out.mb.below⟩
end Go.Proofs.YtpdehgkkpgjpnaaGreatDoor
