/-
  The walk of ClockTells.
-/
import Derived.Test.YtokpenkkgbnioaaCkAwake
import Derived.Test.YtokpenkkgbnioaaCkRef
namespace Go.Proofs.Ytokpenkkgbnioaa
set_option maxRecDepth 100000
open Go.RowKit
/-- The mark behind readings, where it is marked as the row says. -/
def mkT (m : Int) (l : List Int) (q : List Bool) (k : Nat) : Int := (List.range k).foldl (fun a i => if q[i]? = some true then tickK m (l.take (i + 1)) else a) m
theorem mkT_snoc (m : Int) (l : List Int) (q : List Bool) (k : Nat) : mkT m l q (k + 1) = if q[k]? = some true then tickK m (l.take (k + 1)) else mkT m l q k := by
  rw [mkT, List.range_succ, List.foldl_append]
  rfl
theorem tick_mono (m : Int) (l : List Int) {k : Nat} : tickK m (l.take k) ≤ tickK m (l.take (k + 1)) := by
  by_cases h : k < l.length
  · rw [take_snoc (List.getElem?_eq_getElem h), tick_snoc]
    omega
  · rw [List.take_of_length_le (by omega), List.take_of_length_le (by omega)]
    exact Int.le_refl _
theorem mkT_le (m : Int) (l : List Int) (q : List Bool) (hm : 0 ≤ m) (k : Nat) : 0 ≤ mkT m l q k ∧ mkT m l q k ≤ tickK m (l.take k) := by
  induction k with
  | zero => exact ⟨hm, tick_ge m _⟩
  | succ k ih =>
    have h1 := tick_mono m l (k := k)
    rw [mkT_snoc]
    split <;> omega
/-- The clock ahead of reading k. -/
def tlK (m s : Int) (l : List Int) (q : List Bool) (k : Nat) : Ck := ⟨tickK m (l.take k), mkT m l q k, s, (k : Int), backK m (l.take k)⟩
theorem tl_inv {m s : Int} (h : 0 ≤ m ∧ m ≤ 1099511627776 ∧ 1 ≤ s ∧ s ≤ 1048576) (l : List Int) (q : List Bool) (k : Nat) (hk : k ≤ l.length) (hl : l.length ≤ 150) : Inv (tlK m s l q k) := by
  have h1 := tick_ge m (l.take k)
  have h2 := tick_le m (l.take k) h.2.1
  have h3 := mkT_le m l q h.1 k
  have h4 := back_le m (l.take k)
  rw [List.length_take] at h4
  refine ⟨?_, h2, h3.1, h3.2, h.2.2.1, h.2.2.2, ?_, ?_, h4.1, ?_⟩ <;> simp only [tlK] <;> omega
theorem tl_read (m s : Int) (l : List Int) (q : List Bool) (k : Nat) {n : Int} (h : l[k]? = some n) : rdK (tlK m s l q k) n = ⟨tickK m (l.take (k + 1)), mkT m l q k, s, (k : Int) + 1, backK m (l.take (k + 1))⟩ := by
  rw [take_snoc h, tick_snoc, back_snoc]
  simp only [rdK, tlK, Ck.mk.injEq, true_and]
  split <;> omega
set_option maxHeartbeats 8000000 in
theorem clockTells_x (m s : Int) (v : Value) (l : List Int) (v3 : Value) (q : List Bool) (W : World) (_ : IntKind.i64.min ≤ m) (_ : m ≤ IntKind.i64.max) (_ : IntKind.i64.min ≤ s) (_ : s ≤ IntKind.i64.max) (y1 : RowAt W v (intsV l)) (_ : ∀ n ∈ l, -9223372036854775808 ≤ n ∧ n ≤ 9223372036854775807) (y3 : RowAt W v3 (boolsV q)) :
    Calls Try.prog 3 #[.int .i64 m, .int .i64 s, v, v3] W fun e w' => e = .returned (.bool true) ∧ Below W.heap.size W w' := by
  obtain ⟨A, c, hv, hcap, hc⟩ := y1.ints
  obtain ⟨A3, c3, hv3, hcap3, hc3⟩ := y3.bools
  have HR := Lib.hid hc
  have HQ := Lib.hid hc3
  have HV := Lib.hid y1
  subst hv hv3
  clear hc hc3 y1 y3
  have HAw := Lib.hid (awake_x W)
  by_cases h3 : 150 < l.length
  · have d3 : decide ((150 : Int) < (l.length : Int)) = true := decide_eq_true (by omega)
    go_enter Try.func3, Try.ntmps3
    go_wp2_with fail
    refine HAw.out.mono ?_
    rintro e w1 ⟨rfl, hb⟩
    go_wp2_with fail
    go_ret
    exact ⟨rfl, hb⟩
  have d3 : decide ((150 : Int) < (l.length : Int)) = false := decide_eq_false (by omega)
  by_cases h4 : 1000 < q.length
  · have d4 : decide ((1000 : Int) < (q.length : Int)) = true := decide_eq_true (by omega)
    go_enter Try.func3, Try.ntmps3
    go_wp2_with fail
    refine HAw.out.mono ?_
    rintro e w1 ⟨rfl, hb⟩
    go_wp2_with fail
    go_ret
    exact ⟨rfl, hb⟩
  have d4 : decide ((1000 : Int) < (q.length : Int)) = false := decide_eq_false (by omega)
  by_cases hno : ¬ (0 ≤ m ∧ m ≤ 1099511627776 ∧ 1 ≤ s ∧ s ≤ 1048576)
  · have HNo := Lib.hid hno
    by_cases h1 : m < 0
    · have d1 : decide (m < 0) = true := decide_eq_true h1
      clear hno
      go_enter Try.func3, Try.ntmps3
      go_wp2_with fail
      refine HAw.out.mono ?_
      rintro e w1 ⟨rfl, hb⟩
      go_wp2_with fail
      refine (new_no m s w1 HNo.out).mono ?_
      rintro e w2 ⟨rfl, rfl⟩
      go_wp2_with fail
      go_ret
      exact ⟨rfl, hb⟩
    have d1 : decide (m < 0) = false := decide_eq_false h1
    by_cases h2 : 1099511627776 < m
    · have d2 : decide ((1099511627776 : Int) < m) = true := decide_eq_true h2
      clear hno
      go_enter Try.func3, Try.ntmps3
      go_wp2_with fail
      refine HAw.out.mono ?_
      rintro e w1 ⟨rfl, hb⟩
      go_wp2_with fail
      refine (new_no m s w1 HNo.out).mono ?_
      rintro e w2 ⟨rfl, rfl⟩
      go_wp2_with fail
      go_ret
      exact ⟨rfl, hb⟩
    have d2 : decide ((1099511627776 : Int) < m) = false := decide_eq_false h2
    by_cases h5 : s < 1
    · have d5 : decide (s < 1) = true := decide_eq_true h5
      clear hno
      go_enter Try.func3, Try.ntmps3
      go_wp2_with fail
      refine HAw.out.mono ?_
      rintro e w1 ⟨rfl, hb⟩
      go_wp2_with fail
      refine (new_no m s w1 HNo.out).mono ?_
      rintro e w2 ⟨rfl, rfl⟩
      go_wp2_with fail
      go_ret
      exact ⟨rfl, hb⟩
    · have d5 : decide (s < 1) = false := decide_eq_false h5
      have d6 : decide ((1048576 : Int) < s) = true := decide_eq_true (by omega)
      clear hno
      go_enter Try.func3, Try.ntmps3
      go_wp2_with fail
      refine HAw.out.mono ?_
      rintro e w1 ⟨rfl, hb⟩
      go_wp2_with fail
      refine (new_no m s w1 HNo.out).mono ?_
      rintro e w2 ⟨rfl, rfl⟩
      go_wp2_with fail
      go_ret
      exact ⟨rfl, hb⟩
  have HN := Lib.hid (show 0 ≤ m ∧ m ≤ 1099511627776 ∧ 1 ≤ s ∧ s ≤ 1048576 by omega)
  have HL := Lib.hid (show l.length ≤ 150 by omega)
  have HLq := Lib.hid (show q.length ≤ 1000 by omega)
  have d1 : decide (m < 0) = false := decide_eq_false (by omega)
  have d2 : decide ((1099511627776 : Int) < m) = false := decide_eq_false (by omega)
  have d5 : decide (s < 1) = false := decide_eq_false (by omega)
  have d6 : decide ((1048576 : Int) < s) = false := decide_eq_false (by omega)
  clear hno h3 h4
  go_enter Try.func3, Try.ntmps3
  go_wp2_with fail
  refine HAw.out.mono ?_
  rintro e w1 ⟨rfl, hb⟩
  have HB := Lib.hid hb
  clear hb
  go_wp2_with fail
  refine (new_x m s w1 HN.out).mono ?_
  rintro e w2 ⟨rfl, rfl⟩
  have HA := Lib.hid (SA.made HB.out (newK m s))
  generalize (w1.alloc (.cells (ckC (newK m s)) 38)) = w2 at HA
  generalize w1.heap.size = b at HA
  go_wp2_with fail
  go_loopw [11, 12] (fun mk i wr => ∃ k : Nat, k ≤ l.length ∧ i = .int .i64 k ∧ mk = .int .i64 (mkT m l q k) ∧ Hid (SA W wr b (tlK m s l q k))) (fun _ i _ => l.length - (intOf i).toNat)
  case atStart => exact ⟨0, Nat.zero_le _, rfl, rfl, HA⟩
  case round =>
    obtain ⟨k, hk, rfl, rfl, HS⟩ := hrel
    have hl := HL.out
    by_cases hlt : k < l.length
    · obtain ⟨n, hn⟩ : ∃ n, l[k]? = some n := ⟨_, List.getElem?_eq_getElem hlt⟩
      obtain ⟨ad, rfl, hab, c00⟩ := HR.out k n hn
      have HC0 := Lib.hid (fun (w' : World) (hw : Below W.heap.size W w') => show w'.cell? (ad.add k) = some (.int .i64 n) from (hw.cell (by rw [add_block]; exact hab)).trans c00)
      have c0 := HC0.out wr HS.out.below
      have HI1 := Lib.hid (tl_inv HN.out l q k (by omega) hl)
      have HRd := Lib.hid (tl_read m s l q k hn)
      have HMk := Lib.hid (mkT_snoc m l q k)
      have HI2 := Lib.hid (HI1.out.read n (by show (k : Int) < _; omega))
      rw [HRd.out] at HI2
      have HTs := Lib.hid (fun (j : Nat) (hj : j ≤ l.length) (w' : World) (hw : Below W.heap.size W w') => rtick_x m (.slice (some ad) j c) (l.take j) w' (by rw [← ints_take]; exact RowAt.take (n := l.length) (HV.out.below hw (Nat.le_refl _)) (by simp [intsV]; omega)) (by rw [List.length_take]; omega))
      have HBk := Lib.hid (fun (w' : World) (hw : Below W.heap.size W w') => rback_x m (.slice (some ad) (k + 1) c) (l.take (k + 1)) w' (by rw [← ints_take]; exact RowAt.take (n := l.length) (HV.out.below hw (Nat.le_refl _)) (by simp [intsV]; omega)) (by rw [List.length_take]; omega))
      clear hab c00 hn
      have HS1 : Hid (SA W wr b ⟨tickK m (l.take k), mkT m l q k, s, (k : Int), backK m (l.take k)⟩) := HS
      have HI3 : Hid (Inv ⟨tickK m (l.take k), mkT m l q k, s, (k : Int), backK m (l.take k)⟩) := HI1
      have HRe : Hid (rdK ⟨tickK m (l.take k), mkT m l q k, s, (k : Int), backK m (l.take k)⟩ n = ⟨tickK m (l.take (k + 1)), mkT m l q k, s, (k : Int) + 1, backK m (l.take (k + 1))⟩) := HRd
      have HT0 := Lib.hid (HTs.out k (by omega))
      have HT1 := Lib.hid (HTs.out (k + 1) (by omega))
      clear HS HI1 HRd HTs
      obtain ⟨T0, eT0⟩ : ∃ x, x = tickK m (l.take k) := ⟨_, rfl⟩
      obtain ⟨T1, eT1⟩ : ∃ x, x = tickK m (l.take (k + 1)) := ⟨_, rfl⟩
      obtain ⟨B0, eB0⟩ : ∃ x, x = backK m (l.take k) := ⟨_, rfl⟩
      obtain ⟨B1, eB1⟩ : ∃ x, x = backK m (l.take (k + 1)) := ⟨_, rfl⟩
      obtain ⟨M0, eM0⟩ : ∃ x, x = mkT m l q k := ⟨_, rfl⟩
      rw [← eT1, ← eM0] at HMk
      rw [← eT0, ← eM0, ← eB0] at HS1 HI3 HRe
      rw [← eT1, ← eB1] at HRe
      rw [← eT1, ← eB1, ← eM0] at HI2
      rw [← eT0] at HT0
      rw [← eT1] at HT1
      rw [← eB1] at HBk
      rw [← eM0]
      have ET1 := Lib.hid eT1
      have EB1 := Lib.hid eB1
      clear eT0 eT1 eB0 eB1 eM0
      have p0 : 0 ≤ T0 := HI3.out.t0
      have p1 : 0 ≤ T1 := HI2.out.t0
      have p2 : T1 ≤ 1099511627776 := HI2.out.t1
      have p3 : 0 ≤ M0 := HI2.out.m0
      have p4 : M0 ≤ T1 := HI2.out.m1
      have p5 : T0 ≤ 1099511627776 := HI3.out.t1
      go_wp2_with fail
      refine (HT0.out wr HS1.out.below).mono ?_
      rintro e w3 ⟨rfl, rfl⟩
      go_wp2_with fail
      refine (HT1.out w3 HS1.out.below).mono ?_
      rintro e w4 ⟨rfl, rfl⟩
      go_wp2_with fail
      refine (read_to (t := T1) (d := T1 - T0) HS1.out.ck HI3.out (by show (k : Int) < _; omega) n HRe.out rfl rfl).mono ?_
      rintro e w5 ⟨rfl, hc, ha⟩
      have HS2 := Lib.hid (HS1.out.turn hc ha)
      clear hc ha
      go_wp2_with fail
      refine (readings_to HS2.out.ck rfl rfl).mono ?_
      rintro e w6 ⟨rfl, hk6⟩
      have HS3 := Lib.hid (HS2.out.keep hk6)
      clear hk6
      go_wp2_with fail
      refine (tick_to (x := T1) HS3.out.ck rfl).mono ?_
      rintro e w7 ⟨rfl, rfl⟩
      go_wp2_with fail
      refine (HBk.out w7 HS3.out.below).mono ?_
      rintro e w8 ⟨rfl, nd, hk8⟩
      have HS4 := Lib.hid (HS3.out.keep (hk8 ▸ Kept.drew w7 nd))
      clear hk8
      go_wp2_with fail
      refine (mark_to (x := M0) HS4.out.ck rfl).mono ?_
      rintro e w9 ⟨rfl, rfl⟩
      go_wp2_with fail
      refine (due_to (d := decide (s ≤ T1 - M0)) HS4.out.ck HI2.out rfl).mono ?_
      rintro e w10 ⟨rfl, hk10⟩
      have HS5 := Lib.hid (HS4.out.keep hk10)
      clear hk10
      by_cases hq : k < q.length
      · obtain ⟨x, hx⟩ : ∃ x, q[k]? = some x := ⟨_, List.getElem?_eq_getElem hq⟩
        obtain ⟨ad3, rfl, hab3, c30⟩ := HQ.out k x hx
        have HX := Lib.hid hx
        have c3k : w10.cell? (ad3.add k) = some (.bool x) := (HS5.out.below.cell (p := ad3.add k) (by rw [add_block]; exact hab3)).trans c30
        have hq2 := HLq.out
        clear hab3 c30 hx
        cases x
        · have HM1 := Lib.hid (show M0 = mkT m l q (k + 1) by rw [HMk.out, HX.out]; simp)
          go_wp2_with fail
          go_roundw
          case rel => exact ⟨k + 1, by omega, by go_num, by rw [← HM1.out], Lib.hid (by rw [tlK, ← ET1.out, ← EB1.out, ← HM1.out]; exact HS5.out)⟩
          case measure => simp [intOf]; omega
        · have HM1 := Lib.hid (show T1 = mkT m l q (k + 1) by rw [HMk.out, HX.out]; simp)
          go_wp2_with fail
          refine (marked_to (x := T1) (S' := ⟨T1, T1, s, (k : Int) + 1, B1⟩) HS5.out.ck rfl rfl).mono ?_
          rintro e w11 ⟨rfl, hc, ha⟩
          have HS6 := Lib.hid (HS5.out.turn hc ha)
          have HI6 : Hid (Inv ⟨T1, T1, s, (k : Int) + 1, B1⟩) := Lib.hid HI2.out.marked
          clear hc ha
          go_wp2_with fail
          refine (mark_to (x := T1) HS6.out.ck rfl).mono ?_
          rintro e w12 ⟨rfl, rfl⟩
          go_wp2_with fail
          refine (due_to (d := false) HS6.out.ck HI6.out (decide_eq_false (by show ¬ s ≤ T1 - T1; have := HN.out; omega))).mono ?_
          rintro e w13 ⟨rfl, hk13⟩
          have HS7 := Lib.hid (HS6.out.keep hk13)
          clear hk13
          go_wp2_with fail
          go_roundw
          case rel => exact ⟨k + 1, by omega, by go_num, by rw [← HM1.out], Lib.hid (by rw [tlK, ← ET1.out, ← EB1.out, ← HM1.out]; exact HS7.out)⟩
          case measure => simp [intOf]; omega
      · have HM1 := Lib.hid (show M0 = mkT m l q (k + 1) by rw [HMk.out, List.getElem?_eq_none (by omega)]; simp)
        have hq2 := HLq.out
        go_wp2_with fail
        go_roundw
        case rel => exact ⟨k + 1, by omega, by go_num, by rw [← HM1.out], Lib.hid (by rw [tlK, ← ET1.out, ← EB1.out, ← HM1.out]; exact HS5.out)⟩
        case measure => simp [intOf]; omega
    · have e : l.take k = l := List.take_of_length_le (by omega)
      go_wp2_with fail
      go_ret
      exact ⟨rfl, HS.out.below⟩
end Go.Proofs.Ytokpenkkgbnioaa
