/-
  The walk of ClockRises.
-/
import Derived.Test.YtokpenkkgbnioaaCkAwake
import Derived.Test.YtokpenkkgbnioaaCkTurn
import Derived.Test.YtokpenkkgbnioaaCkArg
namespace Go.Proofs.Ytokpenkkgbnioaa
set_option maxRecDepth 100000
open Go.RowKit
set_option maxHeartbeats 4000000 in
theorem clockRises_x (m : Int) (v : Value) (l : List Int) (r : Int) (W : World) (_ : IntKind.i64.min ≤ m) (_ : m ≤ IntKind.i64.max) (y1 : RowAt W v (intsV l)) (_ : ∀ n ∈ l, -9223372036854775808 ≤ n ∧ n ≤ 9223372036854775807) (_ : IntKind.i64.min ≤ r) (z2 : r ≤ IntKind.i64.max) :
    Calls Try.prog 4 #[.int .i64 m, v, .int .i64 r] W fun e w' => e = .returned (.bool true) ∧ Below W.heap.size W w' := by
  obtain ⟨A, c, hv, hcap, hc⟩ := y1.ints
  have HR := Lib.hid hc
  have HZ := Lib.hid z2
  subst hv
  clear hc y1 z2
  have HAw := Lib.hid (awake_x W)
  by_cases h3 : 200 < l.length
  · have d3 : decide ((200 : Int) < (l.length : Int)) = true := decide_eq_true (by omega)
    go_enter Try.func4, Try.ntmps4
    go_wp2_with fail
    refine HAw.out.mono ?_
    rintro e w1 ⟨rfl, hb⟩
    go_wp2_with fail
    go_ret
    exact ⟨rfl, hb⟩
  have d3 : decide ((200 : Int) < (l.length : Int)) = false := decide_eq_false (by omega)
  by_cases h1 : m < 0
  · have d1 : decide (m < 0) = true := decide_eq_true h1
    go_enter Try.func4, Try.ntmps4
    go_wp2_with fail
    refine HAw.out.mono ?_
    rintro e w1 ⟨rfl, hb⟩
    go_wp2_with fail
    go_ret
    exact ⟨rfl, hb⟩
  have d1 : decide (m < 0) = false := decide_eq_false h1
  by_cases h2 : 1099511627776 < m
  · have d2 : decide ((1099511627776 : Int) < m) = true := decide_eq_true h2
    go_enter Try.func4, Try.ntmps4
    go_wp2_with fail
    refine HAw.out.mono ?_
    rintro e w1 ⟨rfl, hb⟩
    go_wp2_with fail
    go_ret
    exact ⟨rfl, hb⟩
  have d2 : decide ((1099511627776 : Int) < m) = false := decide_eq_false h2
  by_cases h4 : r < 0
  · have d4 : decide (r < 0) = true := decide_eq_true h4
    go_enter Try.func4, Try.ntmps4
    go_wp2_with fail
    refine HAw.out.mono ?_
    rintro e w1 ⟨rfl, hb⟩
    go_wp2_with fail
    go_ret
    exact ⟨rfl, hb⟩
  have d4 : decide (r < 0) = false := decide_eq_false h4
  obtain ⟨t, rfl⟩ : ∃ t : Nat, r = (t : Int) := ⟨r.toNat, by omega⟩
  have HN := Lib.hid (show 0 ≤ m ∧ m ≤ 1099511627776 ∧ (1 : Int) ≤ 1 ∧ (1 : Int) ≤ 1048576 by omega)
  have HL := Lib.hid (show l.length ≤ 200 by omega)
  have HIk := Lib.hid (fun (x : List Int) (hx : x.length ≤ 200) => (inv_new HN.out).rdL x (by show (0 : Int) + _ ≤ _; omega))
  have HIa := Lib.hid (fun (x : List Int) (hx : x.length ≤ 200) => show (rdL (newK m 1) x).all < 1000000 by rw [rdL_e]; show (0 : Int) + _ < _; omega)
  clear h1 h2 h3 h4
  go_enter Try.func4, Try.ntmps4
  go_wp2_with fail
  refine HAw.out.mono ?_
  rintro e w1 ⟨rfl, hb⟩
  have HB := Lib.hid hb
  clear hb
  go_wp2_with fail
  refine (new_x m 1 w1 HN.out).mono ?_
  rintro e w2 ⟨rfl, rfl⟩
  have HA := Lib.hid (SA.made HB.out (newK m 1))
  generalize (w1.alloc (.cells (ckC (newK m 1)) 38)) = w2 at HA
  generalize w1.heap.size = a at HA
  go_wp2_with fail
  refine (new_x m 1 w2 HN.out).mono ?_
  rintro e w3 ⟨rfl, rfl⟩
  have HA2 := Lib.hid (HA.out.past (.cells (ckC (newK m 1)) 38))
  have HB2 := Lib.hid (SA.made HA.out.below (newK m 1))
  have HNE := Lib.hid HA.out.ne
  generalize (w2.alloc (.cells (ckC (newK m 1)) 38)) = w3 at HA2 HB2
  generalize w2.heap.size = b at HB2 HNE
  go_wp2_with fail
  go_loopw [11, 12, 13, 14, 15] (fun la mo i _ _ wr => ∃ k : Nat, k ≤ l.length ∧ i = .int .i64 k ∧ la = .int .i64 (tickK m (l.take k)) ∧ mo = .int .i64 (mostK m (l.take k)) ∧ Hid (SA W wr a (rdL (newK m 1) (l.take k))) ∧ Hid (SA W wr b (newK m 1))) (fun _ _ i _ _ _ => l.length - (intOf i).toNat)
  case atStart => exact ⟨0, Nat.zero_le _, rfl, rfl, rfl, HA2, HB2⟩
  case round =>
    obtain ⟨k, hk, rfl, rfl, rfl, HS, HSb⟩ := hrel
    have hl := HL.out
    by_cases hlt : k < l.length
    · obtain ⟨n, hn⟩ : ∃ n, l[k]? = some n := ⟨_, List.getElem?_eq_getElem hlt⟩
      obtain ⟨ad, rfl, hab, c00⟩ := HR.out k n hn
      have c0 : wr.cell? (ad.add k) = some (.int .i64 n) := (HS.out.below.cell (by rw [add_block]; exact hab)).trans c00
      have HE := Lib.hid (show rdL (newK m 1) (l.take (k + 1)) = rdK (rdL (newK m 1) (l.take k)) n by rw [take_snoc hn, rdL_snoc])
      have HT := Lib.hid (show tickK m (l.take (k + 1)) = max (tickK m (l.take k)) (min n 1099511627776) by rw [take_snoc hn, tick_snoc])
      have HM := Lib.hid (show mostK m (l.take (k + 1)) = max (mostK m (l.take k)) n by rw [take_snoc hn, most_snoc])
      have HQ := Lib.hid (show tickK m (l.take (k + 1)) = min (mostK m (l.take (k + 1))) 1099511627776 from tick_most m _ HN.out.2.1)
      have HI1 := Lib.hid (HIk.out (l.take k) (by rw [List.length_take]; omega))
      have HI2 := Lib.hid (HIa.out (l.take k) (by rw [List.length_take]; omega))
      have HTk := Lib.hid (show (rdL (newK m 1) (l.take k)).tick = tickK m (l.take k) by rw [rdL_e]; rfl)
      have HTk2 := Lib.hid (show (rdK (rdL (newK m 1) (l.take k)) n).tick = tickK m (l.take (k + 1)) by rw [← HE.out, rdL_e]; rfl)
      have HLo := Lib.hid (Int.le_trans HN.out.1 (tick_ge m (l.take k)))
      clear hab c00 hn
      obtain ⟨T1, eT1⟩ : ∃ x, x = tickK m (l.take (k + 1)) := ⟨_, rfl⟩
      obtain ⟨M1, eM1⟩ : ∃ x, x = mostK m (l.take (k + 1)) := ⟨_, rfl⟩
      rw [← eT1] at HT HQ HTk2
      rw [← eM1] at HM HQ
      have ET1 := Lib.hid eT1
      have EM1 := Lib.hid eM1
      clear eT1 eM1
      generalize tickK m (l.take k) = T0 at HT HTk HLo
      generalize mostK m (l.take k) = M0 at HM
      have q0 : 0 ≤ T0 := HLo.out
      have q1 : T0 ≤ T1 := by have := HT.out; omega
      have q2 : T1 ≤ 1099511627776 := by have := HQ.out; omega
      have e1 : decide (T1 < T0) = false := decide_eq_false (by omega)
      have e3 : decide ((1099511627776 : Int) < T1) = false := decide_eq_false (by omega)
      by_cases g : n ≤ M0
      · have g0 : M1 = M0 := by have := HM.out; omega
        have e2 : decide (M0 < T1) = false := decide_eq_false (by have := HQ.out; omega)
        by_cases g2 : 1099511627776 < M0
        · have e4 : decide ((1099511627776 : Int) < M0) = true := decide_eq_true g2
          have e5 : decide (T1 < (1099511627776 : Int)) = false := decide_eq_false (by have := HQ.out; omega)
          clear g0
          go_wp2_with fail
          refine (read_to (t := T1) (d := T1 - T0) HS.out.ck HI1.out HI2.out n rfl HTk2.out (by rw [HTk2.out, HTk.out])).mono ?_
          rintro e w4 ⟨rfl, hc, ha⟩
          have HS2 := Lib.hid (HS.out.turn hc ha)
          have HSb2 := Lib.hid (HSb.out.other ha HNE.out.symm HS.out.new)
          clear hc ha
          go_wp2_with fail
          go_roundw
          case rel => exact ⟨k + 1, by omega, by go_num, by rw [ET1.out], by rw [← EM1.out, HM.out, show max M0 n = M0 by omega], by rw [HE.out]; exact HS2, HSb2⟩
          case measure => simp [intOf]; omega
        · have e4 : decide ((1099511627776 : Int) < M0) = false := decide_eq_false g2
          have e5 : decide (T1 < M0) = false := decide_eq_false (by have := HQ.out; omega)
          clear g0
          go_wp2_with fail
          refine (read_to (t := T1) (d := T1 - T0) HS.out.ck HI1.out HI2.out n rfl HTk2.out (by rw [HTk2.out, HTk.out])).mono ?_
          rintro e w4 ⟨rfl, hc, ha⟩
          have HS2 := Lib.hid (HS.out.turn hc ha)
          have HSb2 := Lib.hid (HSb.out.other ha HNE.out.symm HS.out.new)
          clear hc ha
          go_wp2_with fail
          go_roundw
          case rel => exact ⟨k + 1, by omega, by go_num, by rw [ET1.out], by rw [← EM1.out, HM.out, show max M0 n = M0 by omega], by rw [HE.out]; exact HS2, HSb2⟩
          case measure => simp [intOf]; omega
      · have g0 : M1 = n := by have := HM.out; omega
        have e2 : decide (n < T1) = false := decide_eq_false (by have := HQ.out; omega)
        by_cases g2 : 1099511627776 < n
        · have e4 : decide ((1099511627776 : Int) < n) = true := decide_eq_true g2
          have e5 : decide (T1 < (1099511627776 : Int)) = false := decide_eq_false (by have := HQ.out; omega)
          clear g0
          go_wp2_with fail
          refine (read_to (t := T1) (d := T1 - T0) HS.out.ck HI1.out HI2.out n rfl HTk2.out (by rw [HTk2.out, HTk.out])).mono ?_
          rintro e w4 ⟨rfl, hc, ha⟩
          have HS2 := Lib.hid (HS.out.turn hc ha)
          have HSb2 := Lib.hid (HSb.out.other ha HNE.out.symm HS.out.new)
          clear hc ha
          go_wp2_with fail
          go_roundw
          case rel => exact ⟨k + 1, by omega, by go_num, by rw [ET1.out], by rw [← EM1.out, HM.out, show max M0 n = n by omega], by rw [HE.out]; exact HS2, HSb2⟩
          case measure => simp [intOf]; omega
        · have e4 : decide ((1099511627776 : Int) < n) = false := decide_eq_false g2
          have e5 : decide (T1 < n) = false := decide_eq_false (by have := HQ.out; omega)
          clear g0
          go_wp2_with fail
          refine (read_to (t := T1) (d := T1 - T0) HS.out.ck HI1.out HI2.out n rfl HTk2.out (by rw [HTk2.out, HTk.out])).mono ?_
          rintro e w4 ⟨rfl, hc, ha⟩
          have HS2 := Lib.hid (HS.out.turn hc ha)
          have HSb2 := Lib.hid (HSb.out.other ha HNE.out.symm HS.out.new)
          clear hc ha
          go_wp2_with fail
          go_roundw
          case rel => exact ⟨k + 1, by omega, by go_num, by rw [ET1.out], by rw [← EM1.out, HM.out, show max M0 n = n by omega], by rw [HE.out]; exact HS2, HSb2⟩
          case measure => simp [intOf]; omega
    · have e : l.take k = l := List.take_of_length_le (by omega)
      rw [e] at HS
      rw [e]
      have HTk := Lib.hid (show (rdL (newK m 1) l).tick = tickK m l by rw [rdL_e]; rfl)
      have HRT := Lib.hid (rot_tick m l (t % l.length) (fun h => Nat.mod_lt _ h))
      clear e
      go_wp2_with fail
      go_loopw [16] (fun i wx => ∃ j : Nat, j ≤ l.length ∧ i = .int .i64 j ∧ Hid (SA W wx a (rdL (newK m 1) l)) ∧ Hid (SA W wx b (rdL (newK m 1) (rotL l (t % l.length) j)))) (fun i _ => l.length - (intOf i).toNat)
      case atStart => exact ⟨0, Nat.zero_le _, rfl, HS, HSb⟩
      case round =>
        obtain ⟨j, hj, rfl, HX, HXb⟩ := hrel
        by_cases hlt : j < l.length
        · have hn := rot_get (l := l) (t % l.length) j (by omega)
          obtain ⟨ad, rfl, hab, c00⟩ := HR.out _ _ hn
          have hm := Nat.mod_lt t (show 0 < l.length by omega)
          have hm2 := Nat.mod_lt (j + t % l.length) (show 0 < l.length by omega)
          have c0 := (HX.out.below.cell (p := ad.add ((j + t % l.length) % l.length)) (by rw [add_block]; exact hab)).trans c00
          have r1 : Int.tmod (t : Int) (l.length : Int) = ((t % l.length : Nat) : Int) := by rw [Int.ofNat_tmod]
          have r2 : Int.tmod ((j : Int) + ((t % l.length : Nat) : Int)) (l.length : Int) = (((j + t % l.length) % l.length : Nat) : Int) := by rw [← Int.natCast_add, Int.ofNat_tmod]
          have HE := Lib.hid (show rdL (newK m 1) (rotL l (t % l.length) (j + 1)) = rdK (rdL (newK m 1) (rotL l (t % l.length) j)) (rotF l (t % l.length) j) by rw [rot_snoc, rdL_snoc])
          generalize ((j + t % l.length) % l.length) = z at c0 r2 hm2
          generalize (t % l.length) = q at *
          clear hab c00 hn
          go_wp2_with fail
          refine (read_x HXb.out.ck (HIk.out _ (by rw [rot_len]; omega)) (HIa.out _ (by rw [rot_len]; omega)) _).mono ?_
          rintro e w5 ⟨rfl, hc, ha⟩
          have HX2 := Lib.hid (HX.out.other ha HNE.out HXb.out.new)
          have HXb2 := Lib.hid (HXb.out.turn hc ha)
          clear hc ha
          go_wp2_with fail
          go_roundw
          case rel => exact ⟨j + 1, by omega, by go_num, HX2, by rw [HE.out]; exact HXb2⟩
          case measure => simp [intOf]; omega
        · have e : j = l.length := by omega
          have HXc := HXb.out
          rw [e] at HXc
          have HTb := Lib.hid (show (rdL (newK m 1) (rotL l (t % l.length) l.length)).tick = tickK m l by rw [rdL_e]; exact HRT.out)
          have HXd := Lib.hid HXc
          clear HXc HXb e
          go_wp2_with fail
          refine (tick_to HX.out.ck HTk.out).mono ?_
          rintro e w5 ⟨rfl, rfl⟩
          go_wp2_with fail
          refine (tick_to HXd.out.ck HTb.out).mono ?_
          rintro e w6 ⟨rfl, rfl⟩
          go_wp2_with fail
          go_ret
          exact ⟨rfl, HX.out.below⟩
end Go.Proofs.Ytokpenkkgbnioaa
