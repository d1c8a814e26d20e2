/-
  The walk of the law ParamBack.
-/
import Derived.Test.YtpdehgkkpgjpnaaGreatDoorPaBk
namespace Go.Proofs.YtpdehgkkpgjpnaaGreatDoor
set_option maxRecDepth 100000
open Go.RowKit Go.Shelf
/-- The arguments in their boxes. -/
structure Two (w : World) (m : ML) (r : RL) (w' : World) : Prop where
  mb : MBox w w.heap.size m w'
  rb : RBox w (w.heap.size + 1) r w'
theorem Two.next {w w' w'' : World} {m : ML} {r : RL} (h : Two w m r w') (hb : Below w'.heap.size w' w'') : Two w m r w'' := ⟨h.mb.next hb, h.rb.next hb⟩
theorem two_new (w : World) (m : ML) (r : RL) : Two w m r ((w.alloc (.cells #[.bool m.hs, .bool m.hf, .bool m.hu, .bool m.hb, .bool m.hp, .int .i64 m.sz, .int .i64 m.fo, .int .i64 m.un, .int .i64 m.by_, .int .i64 m.pr, .string (mkS m.body), .string (mkS m.ret), .string (mkS m.env), .string (mkS m.mode)] 25)).alloc (.cells #[.string (mkS r.no), .string (mkS r.kind), .string (mkS r.oc)] 27)) := by
  have k0 := newOf w (.cells #[.bool m.hs, .bool m.hf, .bool m.hu, .bool m.hb, .bool m.hp, .int .i64 m.sz, .int .i64 m.fo, .int .i64 m.un, .int .i64 m.by_, .int .i64 m.pr, .string (mkS m.body), .string (mkS m.ret), .string (mkS m.env), .string (mkS m.mode)] 25)
  have k1 := old_alloc (o := .cells #[.string (mkS r.no), .string (mkS r.kind), .string (mkS r.oc)] 27) k0
  have k2 := new_alloc (w := w.alloc (.cells #[.bool m.hs, .bool m.hf, .bool m.hu, .bool m.hb, .bool m.hp, .int .i64 m.sz, .int .i64 m.fo, .int .i64 m.un, .int .i64 m.by_, .int .i64 m.pr, .string (mkS m.body), .string (mkS m.ret), .string (mkS m.env), .string (mkS m.mode)] 25)) (n := w.heap.size + 1) (.cells #[.string (mkS r.no), .string (mkS r.kind), .string (mkS r.oc)] 27) (by simp)
  have kB : Below w.heap.size w ((w.alloc (.cells #[.bool m.hs, .bool m.hf, .bool m.hu, .bool m.hb, .bool m.hp, .int .i64 m.sz, .int .i64 m.fo, .int .i64 m.un, .int .i64 m.by_, .int .i64 m.pr, .string (mkS m.body), .string (mkS m.ret), .string (mkS m.env), .string (mkS m.mode)] 25)).alloc (.cells #[.string (mkS r.no), .string (mkS r.kind), .string (mkS r.oc)] 27)) := ((Below.refl _ w).alloc (Nat.le_refl _) _).alloc (by simp) _
  exact ⟨⟨k1, kB⟩, ⟨k2, kB⟩⟩
set_option maxHeartbeats 16000000 in
theorem paramBack_x (m : ML) (r : RL) (s : Txt) (w : World) (hR : Ready w) (hN : NotR w) (hm : ShortM m) (hr : ShortR r) (hz : s.length ≤ 140737488355328) : Calls Tryz.prog 4 #[.agg #[.bool m.hs, .bool m.hf, .bool m.hu, .bool m.hb, .bool m.hp, .int .i64 m.sz, .int .i64 m.fo, .int .i64 m.un, .int .i64 m.by_, .int .i64 m.pr, .string (mkS m.body), .string (mkS m.ret), .string (mkS m.env), .string (mkS m.mode)], .agg #[.string (mkS r.no), .string (mkS r.kind), .string (mkS r.oc)], .string (mkS s)] w fun e w' => e = .returned (.bool true) ∧ Below w.heap.size w w' := by
  have T0 := Lib.hid (two_new w m r)
  have HA := Lib.hid (fun w' (h : Two w m r w') => awake_x w' (hR.below h.mb.below) (hN.below h.mb.below))
  have HRb := Lib.hid (fun w' (h : Two w m r w') => hR.below h.mb.below)
  have HNb := Lib.hid (fun w' (h : Two w m r w') => hN.below h.mb.below)
  have HS := Lib.hid (fun w => small_x m r w hm hr)
  have hms := mkS_size s
  clear hR hN hm
  have HSM := Lib.hid (show smallB m r = true → r.kind.length ≤ 1000000000000 from fun h => by unfold smallB at h; simp only [Bool.and_eq_true, decide_eq_true_eq] at h; omega)
  generalize smallB m r = q at HS HSM
  go_enter Tryz.func4, Tryz.ntmps4
  go_wp2_with fail
  generalize (w.alloc (.cells #[.bool m.hs, .bool m.hf, .bool m.hu, .bool m.hb, .bool m.hp, .int .i64 m.sz, .int .i64 m.fo, .int .i64 m.un, .int .i64 m.by_, .int .i64 m.pr, .string (mkS m.body), .string (mkS m.ret), .string (mkS m.env), .string (mkS m.mode)] 25)).alloc (.cells #[.string (mkS r.no), .string (mkS r.kind), .string (mkS r.oc)] 27) = W0 at T0 ⊢
  refine (HA.out _ T0.out).mono ?_
  rintro e w1 ⟨rfl, hb⟩
  have T1 := Lib.hid (T0.out.next hb)
  clear hb T0 HA
  have c0 := T1.out.mb.c0
  have c1 := T1.out.mb.c1
  have c2 := T1.out.mb.c2
  have c3 := T1.out.mb.c3
  have c4 := T1.out.mb.c4
  have c5 := T1.out.mb.c5
  have c6 := T1.out.mb.c6
  have c7 := T1.out.mb.c7
  have c8 := T1.out.mb.c8
  have c9 := T1.out.mb.c9
  have c10 := T1.out.mb.c10
  have c11 := T1.out.mb.c11
  have c12 := T1.out.mb.c12
  have c13 := T1.out.mb.c13
  have r0 := T1.out.rb.c0
  have r1 := T1.out.rb.c1
  have r2 := T1.out.rb.c2
  go_wp2_with fail
  clear r0 r1 r2 c0 c1 c2 c3 c4 c5 c6 c7 c8 c9 c10 c11 c12 c13
  refine (HS.out _).mono ?_
  rintro e w2 ⟨rfl, hb⟩
  have T2 := Lib.hid (T1.out.next hb)
  clear hb T1 HS
  cases q
  · go_wp2_with fail
    go_ret
    exact ⟨rfl, T2.out.mb.below⟩
  by_cases hl : 3000 < s.length
  · have hlI : (3000 : Int) < (s.length : Int) := by omega
    go_wp2_with fail
    go_ret
    exact ⟨rfl, T2.out.mb.below⟩
  have hlI : ¬ (3000 : Int) < (s.length : Int) := by omega
  have HP := Lib.hid (fun w h => parseM_x s w (by omega) h)
  have HQ := Lib.hid (fun w h => parseR_x s w (by omega) h)
  have FM := Lib.hid (fun h => read_right (s := s) h)
  have FR := Lib.hid (fun h => readR_right (s := s) h)
  unfold MailPost mCells at HP
  unfold RcptPost at HQ
  generalize peM s = E1 at HP FM
  generalize pvM s = X at HP FM
  generalize peR s = E2 at HQ FR
  generalize pvR s = Y at HQ FR
  clear hl hz
  go_wp2_with fail
  refine (HP.out _ (HRb.out _ T2.out)).mono ?_
  rintro e w3 ⟨rfl, hb⟩
  have T3 := Lib.hid ((T2.out.next hb).next (below_new1 w3 (.cells #[.bool X.hs, .bool X.hf, .bool X.hu, .bool X.hb, .bool X.hp, .int .i64 X.sz, .int .i64 X.fo, .int .i64 X.un, .int .i64 X.by_, .int .i64 X.pr, .string (mkS X.body), .string (mkS X.ret), .string (mkS X.env), .string (mkS X.mode)] 25)))
  have B3 := Lib.hid (show MBox w w3.heap.size X (w3.alloc (.cells #[.bool X.hs, .bool X.hf, .bool X.hu, .bool X.hb, .bool X.hp, .int .i64 X.sz, .int .i64 X.fo, .int .i64 X.un, .int .i64 X.by_, .int .i64 X.pr, .string (mkS X.body), .string (mkS X.ret), .string (mkS X.env), .string (mkS X.mode)] 25)) from ⟨newOf w3 _, ((T2.out.next hb).next (below_new1 w3 _)).mb.below⟩)
  clear hb T2 HP
  go_upto_if 44 with fail
  generalize w3.alloc (.cells #[.bool X.hs, .bool X.hf, .bool X.hu, .bool X.hb, .bool X.hp, .int .i64 X.sz, .int .i64 X.fo, .int .i64 X.un, .int .i64 X.by_, .int .i64 X.pr, .string (mkS X.body), .string (mkS X.ret), .string (mkS X.env), .string (mkS X.mode)] 25) = v3 at T3 B3 ⊢
  generalize w3.heap.size = g3 at B3 ⊢
  go_cut [] from 7 (fun wc => Hid (Two w m r wc))
  case first =>
    by_cases hE : E1 = 0
    · subst hE
      have hRt := FM.out rfl
      have HPX := Lib.hid (back_m hRt).1
      have HPY := Lib.hid (back_m hRt).2
      generalize printM X = t at HPX HPY
      have he := (fun w => (eqMail X X w).trans (by rw [eqML_iff.2 rfl] : _ = Result.ok true w))
      clear hRt FM
      have c0 := B3.out.c0
      have c1 := B3.out.c1
      have c2 := B3.out.c2
      have c3 := B3.out.c3
      have c4 := B3.out.c4
      have c5 := B3.out.c5
      have c6 := B3.out.c6
      have c7 := B3.out.c7
      have c8 := B3.out.c8
      have c9 := B3.out.c9
      have c10 := B3.out.c10
      have c11 := B3.out.c11
      have c12 := B3.out.c12
      have c13 := B3.out.c13
      go_wp2_with fail
      clear c0 c1 c2 c3 c4 c5 c6 c7 c8 c9 c10 c11 c12 c13
      refine (HPX.out _ (HRb.out _ T3.out)).mono ?_
      rintro e w4 ⟨rfl, hb⟩
      have T4 := Lib.hid (T3.out.next hb)
      have B4 := Lib.hid (B3.out.next hb)
      clear hb T3 B3 HPX
      go_wp2_with fail
      refine (HPY.out _ (HRb.out _ T4.out)).mono ?_
      rintro e w5 ⟨rfl, hb⟩
      have T5 := Lib.hid ((T4.out.next hb).next (below_new1 w5 (.cells #[.bool X.hs, .bool X.hf, .bool X.hu, .bool X.hb, .bool X.hp, .int .i64 X.sz, .int .i64 X.fo, .int .i64 X.un, .int .i64 X.by_, .int .i64 X.pr, .string (mkS X.body), .string (mkS X.ret), .string (mkS X.env), .string (mkS X.mode)] 25)))
      have B5 := Lib.hid ((B4.out.next hb).next (below_new1 w5 (.cells #[.bool X.hs, .bool X.hf, .bool X.hu, .bool X.hb, .bool X.hp, .int .i64 X.sz, .int .i64 X.fo, .int .i64 X.un, .int .i64 X.by_, .int .i64 X.pr, .string (mkS X.body), .string (mkS X.ret), .string (mkS X.env), .string (mkS X.mode)] 25)))
      have C5 := Lib.hid (show MBox w w5.heap.size X (w5.alloc (.cells #[.bool X.hs, .bool X.hf, .bool X.hu, .bool X.hb, .bool X.hp, .int .i64 X.sz, .int .i64 X.fo, .int .i64 X.un, .int .i64 X.by_, .int .i64 X.pr, .string (mkS X.body), .string (mkS X.ret), .string (mkS X.env), .string (mkS X.mode)] 25)) from ⟨newOf w5 _, ((T4.out.next hb).next (below_new1 w5 _)).mb.below⟩)
      clear hb T4 B4 HPY
      have c0 := B5.out.c0
      have c1 := B5.out.c1
      have c2 := B5.out.c2
      have c3 := B5.out.c3
      have c4 := B5.out.c4
      have c5 := B5.out.c5
      have c6 := B5.out.c6
      have c7 := B5.out.c7
      have c8 := B5.out.c8
      have c9 := B5.out.c9
      have c10 := B5.out.c10
      have c11 := B5.out.c11
      have c12 := B5.out.c12
      have c13 := B5.out.c13
      have d0 := C5.out.c0
      have d1 := C5.out.c1
      have d2 := C5.out.c2
      have d3 := C5.out.c3
      have d4 := C5.out.c4
      have d5 := C5.out.c5
      have d6 := C5.out.c6
      have d7 := C5.out.c7
      have d8 := C5.out.c8
      have d9 := C5.out.c9
      have d10 := C5.out.c10
      have d11 := C5.out.c11
      have d12 := C5.out.c12
      have d13 := C5.out.c13
      go_wp2_with fail
      go_meet
      case rel => exact T5
    · have hEb : (E1 == 0) = false := beq_eq_false_iff_ne.2 hE
      go_wp2_with fail
      go_meet
      case rel => exact T3
  case rest =>
    have T6 := Lib.hid hcut.out
    clear hcut T3 B3 FM
    go_wp2_with fail
    refine (HQ.out _ (HNb.out _ T6.out)).mono ?_
    rintro e w7 ⟨rfl, hb⟩
    have T7 := Lib.hid ((T6.out.next hb).next (below_new1 w7 (.cells #[.string (mkS Y.no), .string (mkS Y.kind), .string (mkS Y.oc)] 27)))
    have B7 := Lib.hid (show RBox w w7.heap.size Y (w7.alloc (.cells #[.string (mkS Y.no), .string (mkS Y.kind), .string (mkS Y.oc)] 27)) from ⟨newOf w7 _, ((T6.out.next hb).next (below_new1 w7 _)).mb.below⟩)
    clear hb T6 HQ
    go_upto_if 72 with fail
    generalize w7.alloc (.cells #[.string (mkS Y.no), .string (mkS Y.kind), .string (mkS Y.oc)] 27) = v7 at T7 B7 ⊢
    generalize w7.heap.size = g7 at B7 ⊢
    go_cut [] from 7 (fun wc => Hid (Two w m r wc))
    case first =>
      by_cases hE : E2 = 0
      · subst hE
        have hRt := FR.out rfl
        have HPX := Lib.hid (back_r hRt).1
        have HPY := Lib.hid (back_r hRt).2
        generalize printR Y = t at HPX HPY
        have he := (fun w => (eqRcpt Y Y w).trans (by rw [eqRL_iff.2 rfl] : _ = Result.ok true w))
        clear hRt FR
        have c0 := B7.out.c0
        have c1 := B7.out.c1
        have c2 := B7.out.c2
        go_wp2_with fail
        clear c0 c1 c2
        refine (HPX.out _ (HNb.out _ T7.out)).mono ?_
        rintro e w8 ⟨rfl, hb⟩
        have T8 := Lib.hid (T7.out.next hb)
        have B8 := Lib.hid (B7.out.next hb)
        clear hb T7 B7 HPX
        go_wp2_with fail
        refine (HPY.out _ (HNb.out _ T8.out)).mono ?_
        rintro e w9 ⟨rfl, hb⟩
        have T9 := Lib.hid ((T8.out.next hb).next (below_new1 w9 (.cells #[.string (mkS Y.no), .string (mkS Y.kind), .string (mkS Y.oc)] 27)))
        have B9 := Lib.hid ((B8.out.next hb).next (below_new1 w9 (.cells #[.string (mkS Y.no), .string (mkS Y.kind), .string (mkS Y.oc)] 27)))
        have C9 := Lib.hid (show RBox w w9.heap.size Y (w9.alloc (.cells #[.string (mkS Y.no), .string (mkS Y.kind), .string (mkS Y.oc)] 27)) from ⟨newOf w9 _, ((T8.out.next hb).next (below_new1 w9 _)).mb.below⟩)
        clear hb T8 B8 HPY
        have c0 := B9.out.c0
        have c1 := B9.out.c1
        have c2 := B9.out.c2
        have d0 := C9.out.c0
        have d1 := C9.out.c1
        have d2 := C9.out.c2
        go_wp2_with fail
        go_meet
        case rel => exact T9
      · have hEb : (E2 == 0) = false := beq_eq_false_iff_ne.2 hE
        go_wp2_with fail
        go_meet
        case rel => exact T7
    case rest =>
      have T10 := Lib.hid hcut.out
      clear hcut T7 B7 FR
      have HM := Lib.hid (fun w h => printM_x m w h)
      have HM2 := Lib.hid (fun h => back_m (m := m) h)
      generalize rightM m = E3 at HM HM2
      generalize printM m = t3 at HM HM2
      have c0 := T10.out.mb.c0
      have c1 := T10.out.mb.c1
      have c2 := T10.out.mb.c2
      have c3 := T10.out.mb.c3
      have c4 := T10.out.mb.c4
      have c5 := T10.out.mb.c5
      have c6 := T10.out.mb.c6
      have c7 := T10.out.mb.c7
      have c8 := T10.out.mb.c8
      have c9 := T10.out.mb.c9
      have c10 := T10.out.mb.c10
      have c11 := T10.out.mb.c11
      have c12 := T10.out.mb.c12
      have c13 := T10.out.mb.c13
      go_upto_if 100 with (go_at_call 9; refine (HM.out _ (HRb.out _ T10.out)).mono ?_; rintro e w11 ⟨rfl, hb⟩; have T11 := Lib.hid (T10.out.next hb); clear hb c0 c1 c2 c3 c4 c5 c6 c7 c8 c9 c10 c11 c12 c13)
      go_cut [] from 7 (fun wc => Hid (Two w m r wc))
      case first =>
        by_cases hE : E3 = 0
        · subst hE
          have HPY := Lib.hid (HM2.out rfl).2
          have he := (fun w => (eqMail m m w).trans (by rw [eqML_iff.2 rfl] : _ = Result.ok true w))
          clear HM2 HM
          go_wp2_with fail
          refine (HPY.out _ (HRb.out _ T11.out)).mono ?_
          rintro e w12 ⟨rfl, hb⟩
          have T12 := Lib.hid ((T11.out.next hb).next (below_new1 w12 (.cells #[.bool m.hs, .bool m.hf, .bool m.hu, .bool m.hb, .bool m.hp, .int .i64 m.sz, .int .i64 m.fo, .int .i64 m.un, .int .i64 m.by_, .int .i64 m.pr, .string (mkS m.body), .string (mkS m.ret), .string (mkS m.env), .string (mkS m.mode)] 25)))
          have C12 := Lib.hid (show MBox w w12.heap.size m (w12.alloc (.cells #[.bool m.hs, .bool m.hf, .bool m.hu, .bool m.hb, .bool m.hp, .int .i64 m.sz, .int .i64 m.fo, .int .i64 m.un, .int .i64 m.by_, .int .i64 m.pr, .string (mkS m.body), .string (mkS m.ret), .string (mkS m.env), .string (mkS m.mode)] 25)) from ⟨newOf w12 _, ((T11.out.next hb).next (below_new1 w12 _)).mb.below⟩)
          clear hb HPY
          have c0 := T12.out.mb.c0
          have c1 := T12.out.mb.c1
          have c2 := T12.out.mb.c2
          have c3 := T12.out.mb.c3
          have c4 := T12.out.mb.c4
          have c5 := T12.out.mb.c5
          have c6 := T12.out.mb.c6
          have c7 := T12.out.mb.c7
          have c8 := T12.out.mb.c8
          have c9 := T12.out.mb.c9
          have c10 := T12.out.mb.c10
          have c11 := T12.out.mb.c11
          have c12 := T12.out.mb.c12
          have c13 := T12.out.mb.c13
          have d0 := C12.out.c0
          have d1 := C12.out.c1
          have d2 := C12.out.c2
          have d3 := C12.out.c3
          have d4 := C12.out.c4
          have d5 := C12.out.c5
          have d6 := C12.out.c6
          have d7 := C12.out.c7
          have d8 := C12.out.c8
          have d9 := C12.out.c9
          have d10 := C12.out.c10
          have d11 := C12.out.c11
          have d12 := C12.out.c12
          have d13 := C12.out.c13
          go_wp2_with fail
          go_meet
          case rel => exact T12
        · have hEb : (E3 == 0) = false := beq_eq_false_iff_ne.2 hE
          go_wp2_with fail
          go_meet
          case rel => exact T11
      case rest =>
        have T13 := Lib.hid hcut.out
        clear hcut T11 HM HM2
        have HM := Lib.hid (fun w h => printR_x r w h (HSM.out trivial))
        have HM2 := Lib.hid (fun h => back_r (r := r) h)
        generalize rightR r = E4 at HM HM2
        generalize printR r = t4 at HM HM2
        have c0 := T13.out.rb.c0
        have c1 := T13.out.rb.c1
        have c2 := T13.out.rb.c2
        clear hr
        go_wp2_with fail
        clear c0 c1 c2
        refine (HM.out _ (HNb.out _ T13.out)).mono ?_
        rintro e w14 ⟨rfl, hb⟩
        have T14 := Lib.hid (T13.out.next hb)
        clear hb HM
        by_cases hE : E4 = 0
        · subst hE
          have HPY := Lib.hid (HM2.out rfl).2
          have he := (fun w => (eqRcpt r r w).trans (by rw [eqRL_iff.2 rfl] : _ = Result.ok true w))
          clear HM2
          go_wp2_with fail
          refine (HPY.out _ (HNb.out _ T14.out)).mono ?_
          rintro e w15 ⟨rfl, hb⟩
          have T15 := Lib.hid ((T14.out.next hb).next (below_new1 w15 (.cells #[.string (mkS r.no), .string (mkS r.kind), .string (mkS r.oc)] 27)))
          have C15 := Lib.hid (show RBox w w15.heap.size r (w15.alloc (.cells #[.string (mkS r.no), .string (mkS r.kind), .string (mkS r.oc)] 27)) from ⟨newOf w15 _, ((T14.out.next hb).next (below_new1 w15 _)).mb.below⟩)
          clear hb HPY
          have c0 := T15.out.rb.c0
          have c1 := T15.out.rb.c1
          have c2 := T15.out.rb.c2
          have d0 := C15.out.c0
          have d1 := C15.out.c1
          have d2 := C15.out.c2
          have HB := Lib.hid T15.out.mb.below
          go_wp2_with fail
          go_ret
          exact ⟨rfl, HB.out⟩
        · have hEb : (E4 == 0) = false := beq_eq_false_iff_ne.2 hE
          have HB := Lib.hid T14.out.mb.below
          go_wp2_with fail
          go_ret
          exact ⟨rfl, HB.out⟩
end Go.Proofs.YtpdehgkkpgjpnaaGreatDoor
