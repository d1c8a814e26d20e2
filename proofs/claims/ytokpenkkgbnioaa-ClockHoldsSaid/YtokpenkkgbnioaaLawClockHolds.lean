/-
  The walk of ClockHolds.
-/
import Derived.Test.YtokpenkkgbnioaaCkAwake
import Derived.Test.YtokpenkkgbnioaaCkRef
namespace Go.Proofs.Ytokpenkkgbnioaa
set_option maxRecDepth 100000
open Go.RowKit
theorem lit_len (k : Nat) (l : List Int) (h : k < l.length) : ∃ n, l[k]? = some n := ⟨_, List.getElem?_eq_getElem h⟩
set_option maxHeartbeats 4000000 in
theorem clockHolds_x (m : Int) (v : Value) (l : List Int) (r : Int) (W : World) (_ : IntKind.i64.min ≤ m) (_ : m ≤ IntKind.i64.max) (y1 : RowAt W v (intsV l)) (_ : ∀ n ∈ l, -9223372036854775808 ≤ n ∧ n ≤ 9223372036854775807) (_ : IntKind.i64.min ≤ r) (_ : r ≤ IntKind.i64.max) :
    Calls Try.prog 6 #[.int .i64 m, v, .int .i64 r] W fun e w' => e = .returned (.bool true) ∧ Below W.heap.size W w' := by
  obtain ⟨A, c, hv, hcap, hc⟩ := y1.ints
  have HR := Lib.hid hc
  have HV := Lib.hid y1
  subst hv
  clear hc y1
  have HAw := Lib.hid (awake_x W)
  by_cases h1 : m < 0
  · have d1 : decide (m < 0) = true := decide_eq_true h1
    go_enter Try.func6, Try.ntmps6
    go_wp2_with fail
    refine HAw.out.mono ?_
    rintro e w1 ⟨rfl, hb⟩
    go_wp2_with fail
    go_ret
    exact ⟨rfl, hb⟩
  have d1 : decide (m < 0) = false := decide_eq_false h1
  by_cases h2 : 1099511627776 < m
  · have d2 : decide ((1099511627776 : Int) < m) = true := decide_eq_true h2
    go_enter Try.func6, Try.ntmps6
    go_wp2_with fail
    refine HAw.out.mono ?_
    rintro e w1 ⟨rfl, hb⟩
    go_wp2_with fail
    go_ret
    exact ⟨rfl, hb⟩
  have d2 : decide ((1099511627776 : Int) < m) = false := decide_eq_false h2
  by_cases h3 : 200 < l.length
  · have d3 : decide ((200 : Int) < (l.length : Int)) = true := decide_eq_true (by omega)
    go_enter Try.func6, Try.ntmps6
    go_wp2_with fail
    refine HAw.out.mono ?_
    rintro e w1 ⟨rfl, hb⟩
    go_wp2_with fail
    go_ret
    exact ⟨rfl, hb⟩
  have d3 : decide ((200 : Int) < (l.length : Int)) = false := decide_eq_false (by omega)
  have HN := Lib.hid (show 0 ≤ m ∧ m ≤ 1099511627776 ∧ (1 : Int) ≤ 9 ∧ (9 : Int) ≤ 1048576 by omega)
  have HL := Lib.hid (show l.length ≤ 200 by omega)
  have HIk := Lib.hid (fun k => (inv_new HN.out).rdL (l.take k) (by show (0 : Int) + _ ≤ _; have := HL.out; rw [List.length_take]; omega))
  have HIa := Lib.hid (fun k => show (rdL (newK m 9) (l.take k)).all < 1000000 by rw [rdL_e]; show (0 : Int) + _ < _; have := HL.out; rw [List.length_take]; omega)
  clear h1 h2 h3
  go_enter Try.func6, Try.ntmps6
  go_wp2_with fail
  refine HAw.out.mono ?_
  rintro e w1 ⟨rfl, hb⟩
  have HB := Lib.hid hb
  clear hb
  go_wp2_with fail
  refine (new_x m 9 w1 HN.out).mono ?_
  rintro e w2 ⟨rfl, rfl⟩
  have HA := Lib.hid (SA.made HB.out (newK m 9))
  generalize (w1.alloc (.cells (ckC (newK m 9)) 38)) = w2 at HA
  generalize w1.heap.size = b at HA
  go_wp2_with fail
  go_loopw [9] (fun i wr => ∃ k : Nat, k ≤ l.length ∧ i = .int .i64 k ∧ Hid (SA W wr b (rdL (newK m 9) (l.take k)))) (fun i _ => l.length - (intOf i).toNat)
  case atStart => exact ⟨0, Nat.zero_le _, rfl, HA⟩
  case round =>
    obtain ⟨k, hk, rfl, HS⟩ := hrel
    have hl := HL.out
    by_cases hlt : k < l.length
    · obtain ⟨n, hn⟩ := lit_len k l hlt
      obtain ⟨ad, rfl, hab, c00⟩ := HR.out k n hn
      have c0 : wr.cell? (ad.add k) = some (.int .i64 n) := (HS.out.below.cell (by rw [add_block]; exact hab)).trans c00
      have HE := Lib.hid (show rdL (newK m 9) (l.take (k + 1)) = rdK (rdL (newK m 9) (l.take k)) n by rw [take_snoc hn, rdL_snoc])
      clear hab c00 hn
      go_wp2_with fail
      refine (read_x HS.out.ck (HIk.out k) (HIa.out k) n).mono ?_
      rintro e w3 ⟨rfl, hc, ha⟩
      have HS2 := Lib.hid (HS.out.turn hc ha)
      clear hc ha
      go_wp2_with fail
      go_roundw
      case rel => exact ⟨k + 1, by omega, by go_num, by rw [HE.out]; exact HS2⟩
      case measure => simp [intOf]; omega
    · have e : l.take k = l := List.take_of_length_le (by omega)
      have HSS : Hid (SA W wr b ⟨tickK m l, m, 9, (l.length : Int), backK m l⟩) := by
        have := HS.out
        rw [e, rdL_e] at this
        show SA W wr b _
        simpa [newK] using this
      have HII : Hid (Inv ⟨tickK m l, m, 9, (l.length : Int), backK m l⟩) := by
        have := HIk.out k
        rw [e, rdL_e] at this
        show Inv _
        simpa [newK] using this
      have hb := back_le m l
      clear HS e HIk HIa
      obtain ⟨t0, t1, -, -, -, -, -, -, -, -⟩ := HII.out
      have e0 : (⟨tickK m l, m, 9, (l.length : Int), backK m l⟩ : Ck).tick = tickK m l := rfl
      rw [e0] at t0 t1
      clear e0
      generalize tickK m l = T at HSS HII t0 t1
      generalize backK m l = K at HSS HII hb
      obtain ⟨b0, b1⟩ := hb
      go_wp2_with fail
      refine (tick_to HSS.out.ck rfl).mono ?_
      rintro e w3 ⟨rfl, rfl⟩
      go_wp2_with fail
      refine (readings_to HSS.out.ck rfl rfl).mono ?_
      rintro e w4 ⟨rfl, hk4⟩
      have HS4 := Lib.hid (HSS.out.keep hk4)
      clear hk4
      go_wp2_with fail
      by_cases g1 : r < T
      · have d1 : decide (r < T) = true := decide_eq_true g1
        have d2 : decide (T < r) = false := decide_eq_false (by omega)
        refine (read_to (S' := ⟨T, m, 9, (l.length : Int) + 1, K + 1⟩) (t := T) (d := 0) HS4.out.ck HII.out (by show (l.length : Int) < _; omega) r (by simp only [rdK, if_pos g1]; rw [show max T (min r 1099511627776) = T by omega]) rfl (by show T - T = 0; omega)).mono ?_
        rintro e w5 ⟨rfl, hc, ha⟩
        have HS5 := Lib.hid (HS4.out.turn hc ha)
        clear hc ha
        go_wp2_with fail
        refine (readings_to HS5.out.ck rfl rfl).mono ?_
        rintro e w6 ⟨rfl, hk6⟩
        have HS6 := Lib.hid (HS5.out.keep hk6)
        clear hk6
        go_wp2_with fail
        refine (tick_to HS6.out.ck rfl).mono ?_
        rintro e w7 ⟨rfl, rfl⟩
        go_wp2_with fail
        go_ret
        exact ⟨rfl, HS6.out.below⟩
      have d1 : decide (r < T) = false := decide_eq_false g1
      by_cases g2 : T < r
      · have d2 : decide (T < r) = true := decide_eq_true g2
        by_cases g3 : 1099511627776 < r
        · have d3 : decide ((1099511627776 : Int) < r) = true := decide_eq_true g3
          refine (read_to (S' := ⟨1099511627776, m, 9, (l.length : Int) + 1, K⟩) (t := 1099511627776) (d := 1099511627776 - T) HS4.out.ck HII.out (by show (l.length : Int) < _; omega) r (by simp only [rdK, if_neg g1]; rw [show max T (min r 1099511627776) = 1099511627776 by omega]) rfl (by rfl)).mono ?_
          rintro e w5 ⟨rfl, hc, ha⟩
          have HS5 := Lib.hid (HS4.out.turn hc ha)
          clear hc ha
          go_wp2_with fail
          refine (readings_to HS5.out.ck rfl rfl).mono ?_
          rintro e w6 ⟨rfl, hk6⟩
          have HS6 := Lib.hid (HS5.out.keep hk6)
          clear hk6
          go_wp2_with fail
          refine (tick_to HS6.out.ck rfl).mono ?_
          rintro e w7 ⟨rfl, rfl⟩
          go_wp2_with fail
          go_ret
          exact ⟨rfl, HS6.out.below⟩
        · have d3 : decide ((1099511627776 : Int) < r) = false := decide_eq_false g3
          refine (read_to (S' := ⟨r, m, 9, (l.length : Int) + 1, K⟩) (t := r) (d := r - T) HS4.out.ck HII.out (by show (l.length : Int) < _; omega) r (by simp only [rdK, if_neg g1]; rw [show max T (min r 1099511627776) = r by omega]) rfl (by rfl)).mono ?_
          rintro e w5 ⟨rfl, hc, ha⟩
          have HS5 := Lib.hid (HS4.out.turn hc ha)
          clear hc ha
          go_wp2_with fail
          refine (readings_to HS5.out.ck rfl rfl).mono ?_
          rintro e w6 ⟨rfl, hk6⟩
          have HS6 := Lib.hid (HS5.out.keep hk6)
          clear hk6
          go_wp2_with fail
          refine (tick_to HS6.out.ck rfl).mono ?_
          rintro e w7 ⟨rfl, rfl⟩
          go_wp2_with fail
          go_ret
          exact ⟨rfl, HS6.out.below⟩
      · have d2 : decide (T < r) = false := decide_eq_false g2
        refine (read_to (S' := ⟨T, m, 9, (l.length : Int) + 1, K⟩) (t := T) (d := 0) HS4.out.ck HII.out (by show (l.length : Int) < _; omega) r (by simp only [rdK, if_neg g1]; rw [show max T (min r 1099511627776) = T by omega]) rfl (by show T - T = 0; omega)).mono ?_
        rintro e w5 ⟨rfl, hc, ha⟩
        have HS5 := Lib.hid (HS4.out.turn hc ha)
        clear hc ha
        go_wp2_with fail
        refine (readings_to HS5.out.ck rfl rfl).mono ?_
        rintro e w6 ⟨rfl, hk6⟩
        have HS6 := Lib.hid (HS5.out.keep hk6)
        clear hk6
        go_wp2_with fail
        refine (tick_to HS6.out.ck rfl).mono ?_
        rintro e w7 ⟨rfl, rfl⟩
        go_wp2_with fail
        go_ret
        exact ⟨rfl, HS6.out.below⟩
end Go.Proofs.Ytokpenkkgbnioaa
