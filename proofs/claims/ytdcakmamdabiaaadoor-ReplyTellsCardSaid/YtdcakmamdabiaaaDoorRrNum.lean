/-
  The walk of the reference's number.
-/
import Derived.Test.YtdcakmamdabiaaaDoorRrSmall
namespace Go.Proofs.YtdcakmamdabiaaaDoor
set_option maxRecDepth 100000
open Go.RowKit
def nrV (l : Txt) : Int := if rnOk l then (valX (l.take (rnN l)) : Int) else 0
def nrA (at' : Nat) (l : Txt) : Int := if rnOk l then ((at' + rnN l : Nat) : Int) else -1
def NrPost (t : Txt) (at' : Nat) (w : World) (e : Ending) (w' : World) : Prop := e = .returned (.tuple #[.int .i64 (nrV (t.drop at')), .int .i64 (nrA at' (t.drop at'))]) ∧ w = w'
theorem nr_no {t : Txt} {at' : Nat} {w : World} (h : rnOk (t.drop at') = false) : NrPost t at' w (.returned (.tuple #[.int .i64 0, .int .i64 (-1)])) w := ⟨by rw [nrV, nrA, h]; rfl, rfl⟩
theorem nr_yes {t : Txt} {at' v k : Nat} {w : World} (h : rnOk (t.drop at') = true) (hv : v = valX ((t.drop at').take (rnN (t.drop at')))) (hk : k = at' + rnN (t.drop at')) : NrPost t at' w (.returned (.tuple #[.int .i64 (v : Int), .int .i64 (k : Int)])) w := ⟨by rw [nrV, nrA, h, hv, hk]; rfl, rfl⟩
theorem ok_no1 {l : Txt} (h : rnN l = 0) : rnOk l = false := by rw [rn_ok_parts, h]; rfl
theorem ok_no2 {l : Txt} (h : rnN l = 4) : rnOk l = false := by rw [rn_ok_parts, h]; simp
theorem ok_no3 {l : Txt} {j : Nat} {x : UInt8} (h : rnN l = j) (h1 : 1 < j) (hx : l[0]? = some x) (h48 : (x == 48) = true) : rnOk l = false := by
  rw [rn_ok_parts, h, hx, decide_eq_false (by omega : ¬ j ≤ 1)]
  rw [beq_iff_eq] at h48
  subst h48
  simp
theorem ok_yes1 {l : Txt} (h : rnN l = 1) : rnOk l = true := by rw [rn_ok_parts, h]; rfl
theorem ok_yes2 {l : Txt} {j : Nat} {x : UInt8} (h : rnN l = j) (h1 : 1 < j) (h3 : j ≤ 3) (hx : l[0]? = some x) (h48 : (x == 48) = false) : rnOk l = true := by
  rw [rn_ok_parts, h, hx, decide_eq_true (by omega : 0 < j), decide_eq_true h3]
  have : (some x != some (48 : UInt8)) = true := by rw [bne_iff_ne]; intro e; injection e with e; rw [e] at h48; cases h48
  rw [this]
  simp
set_option maxHeartbeats 8000000 in
theorem rnumber_x (t : Txt) (at' : Nat) (w : World) (hl : t.length ≤ 1000000000000) (ha : at' ≤ t.length) :
    Calls Tryd.prog 42 #[.string (mkS t), .int .i64 (at' : Int)] w (NrPost t at' w) := by
  have hms := mkS_size t
  have hrl : (t.drop at').length = t.length - at' := List.length_drop
  have HG := Lib.hid (show ∀ j, (t.drop at')[j]? = t[at' + j]? from fun j => List.getElem?_drop)
  obtain ⟨l, hL⟩ : ∃ l, t.drop at' = l := ⟨_, rfl⟩
  rw [hL] at hrl HG
  have HL := Lib.hid hL
  clear hL
  go_enter Tryd.func42, Tryd.ntmps42
  go_wp2_with fail
  go_loop [6, 7] (fun n i => ∃ k v : Nat, at' ≤ k ∧ k ≤ t.length ∧ k ≤ at' + 4 ∧ i = .int .i64 (k : Int) ∧ n = .int .i64 (v : Int) ∧ v < 10000 ∧ Hid (v = valX (l.take (k - at'))) ∧ Hid ((l.take (k - at')).all digB = true)) (fun _ i => at' + 4 - (intOf i).toNat)
  case atStart => exact ⟨at', 0, Nat.le_refl _, ha, by omega, rfl, rfl, by decide, Lib.hid (by rw [Nat.sub_self]; rfl), Lib.hid (by rw [Nat.sub_self]; rfl)⟩
  case round =>
    obtain ⟨k, v, hk0, hk1, hk4, rfl, rfl, hv, HVV, HC⟩ := hrel
    by_cases hlt : k < t.length
    · by_cases hk5 : k < at' + 4
      · have d5 : decide ((k : Int) < (at' : Int) + 4) = true := decide_eq_true (by omega)
        obtain ⟨x, hx⟩ : ∃ x : UInt8, (mkS t)[k]'(by omega) = x := ⟨_, rfl⟩
        have hX : l[k - at']? = some x := by
          rw [HG.out, show at' + (k - at') = k by omega, ← hx]
          have := Lib.data_getElem? (mkS t) k (by omega)
          rwa [mkS_data] at this
        by_cases h1 : 48 ≤ x.toNat
        · have d1 : decide ((48 : Int) ≤ (x.toNat : Int)) = true := decide_eq_true (by omega)
          by_cases h2 : x.toNat ≤ 57
          · have d2 : decide ((x.toNat : Int) ≤ 57) = true := decide_eq_true (by omega)
            have HN := Lib.hid (all_take (p := digB) hX HC.out (by rw [digB, decide_eq_true h1, decide_eq_true h2]; rfl))
            have hv2 := val_take hX
            have hbd := val_bd 3 (l.take (k - at')) (by rw [List.length_take]; omega) HC.out
            rw [← HVV.out] at hv2 hbd
            have HV2 := Lib.hid (show v * 10 + (x.toNat - 48) = valX (l.take (k + 1 - at')) by rw [show k + 1 - at' = k - at' + 1 by omega]; exact hv2.symm)
            have HN2 := Lib.hid (show (l.take (k + 1 - at')).all digB = true by rw [show k + 1 - at' = k - at' + 1 by omega]; exact HN.out)
            have c1 : IntKind.u8.wrap ((x.toNat : Int) - 48) = ((x.toNat - 48 : Nat) : Int) := by
              have := x.toNat_lt
              rw [IntWalk.u8_in _ (by omega)]; omega
            have hx9 : x.toNat - 48 ≤ 9 := by omega
            clear hX hv2 HN
            go_wp2_with fail
            go_round
            case rel => exact ⟨k + 1, v * 10 + (x.toNat - 48), by omega, by omega, by omega, by go_num, by go_num, by omega, HV2, HN2⟩
            case measure => simp [intOf]; omega
          · have d2 : decide ((x.toNat : Int) ≤ 57) = false := decide_eq_false (by omega)
            have HXD := Lib.hid (show ∃ x, l[k - at']? = some x ∧ digB x = false from ⟨x, hX, by rw [digB, decide_eq_false h2, Bool.and_false]⟩)
            clear hX
            have HN := Lib.hid (show rnN l = k - at' from rn_stop HC.out (by omega) (by omega) (.inr (.inr HXD.out)))
            rcases (show k = at' ∨ k = at' + 1 ∨ k = at' + 4 ∨ (1 < k - at' ∧ k - at' ≤ 3) by omega) with rfl | h1 | h4 | ⟨h23, h23'⟩
            · have e1 : ((k : Int) == (k : Int)) = true := beq_self_eq_true _
              have HNN := Lib.hid (ok_no1 (l := l) (by rw [HN.out]; omega))
              go_wp2_with fail
              go_ret2
              exact nr_no (by rw [HL.out]; exact HNN.out)
            · have e1 : ((k : Int) == (at' : Int)) = false := beq_eq_false_iff_ne.2 (by omega)
              have e3 : decide ((3 : Int) < (k : Int) - (at' : Int)) = false := decide_eq_false (by omega)
              have e4 : decide ((1 : Int) < (k : Int) - (at' : Int)) = false := decide_eq_false (by omega)
              have HNN := Lib.hid (ok_yes1 (l := l) (by rw [HN.out]; omega))
              clear h1
              go_wp2_with fail
              go_ret2
              exact nr_yes (by rw [HL.out]; exact HNN.out) (by rw [HL.out, HN.out]; exact HVV.out) (by rw [HL.out, HN.out]; omega)
            · exact absurd h4 (by omega)
            · have e1 : ((k : Int) == (at' : Int)) = false := beq_eq_false_iff_ne.2 (by omega)
              have e3 : decide ((3 : Int) < (k : Int) - (at' : Int)) = false := decide_eq_false (by omega)
              have e4 : decide ((1 : Int) < (k : Int) - (at' : Int)) = true := decide_eq_true (by omega)
              obtain ⟨y, hy⟩ : ∃ y : UInt8, (mkS t)[at']'(by omega) = y := ⟨_, rfl⟩
              have hY : l[0]? = some y := by rw [HG.out 0, Nat.add_zero, ← hy]; have := Lib.data_getElem? (mkS t) at' (by omega); rwa [mkS_data] at this
              have HY := Lib.hid hY
              clear hY
              cases hq : (y == 48)
              · have d4 : ((y.toNat : Int) == 48) = false := (b48 y).trans hq
                have HNN := Lib.hid (ok_yes2 HN.out h23 h23' HY.out hq)
                clear hq
                go_wp2_with fail
                go_ret2
                exact nr_yes (by rw [HL.out]; exact HNN.out) (by rw [HL.out, HN.out]; exact HVV.out) (by rw [HL.out, HN.out]; omega)
              · have d4 : ((y.toNat : Int) == 48) = true := (b48 y).trans hq
                have HNN := Lib.hid (ok_no3 HN.out h23 HY.out hq)
                clear hq
                go_wp2_with fail
                go_ret2
                exact nr_no (by rw [HL.out]; exact HNN.out)
        · have d1 : decide ((48 : Int) ≤ (x.toNat : Int)) = false := decide_eq_false (by omega)
          have HXD := Lib.hid (show ∃ x, l[k - at']? = some x ∧ digB x = false from ⟨x, hX, by rw [digB, decide_eq_false h1]; rfl⟩)
          clear hX
          have HN := Lib.hid (show rnN l = k - at' from rn_stop HC.out (by omega) (by omega) (.inr (.inr HXD.out)))
          rcases (show k = at' ∨ k = at' + 1 ∨ k = at' + 4 ∨ (1 < k - at' ∧ k - at' ≤ 3) by omega) with rfl | h1 | h4 | ⟨h23, h23'⟩
          · have e1 : ((k : Int) == (k : Int)) = true := beq_self_eq_true _
            have HNN := Lib.hid (ok_no1 (l := l) (by rw [HN.out]; omega))
            go_wp2_with fail
            go_ret2
            exact nr_no (by rw [HL.out]; exact HNN.out)
          · have e1 : ((k : Int) == (at' : Int)) = false := beq_eq_false_iff_ne.2 (by omega)
            have e3 : decide ((3 : Int) < (k : Int) - (at' : Int)) = false := decide_eq_false (by omega)
            have e4 : decide ((1 : Int) < (k : Int) - (at' : Int)) = false := decide_eq_false (by omega)
            have HNN := Lib.hid (ok_yes1 (l := l) (by rw [HN.out]; omega))
            clear h1
            go_wp2_with fail
            go_ret2
            exact nr_yes (by rw [HL.out]; exact HNN.out) (by rw [HL.out, HN.out]; exact HVV.out) (by rw [HL.out, HN.out]; omega)
          · exact absurd h4 (by omega)
          · have e1 : ((k : Int) == (at' : Int)) = false := beq_eq_false_iff_ne.2 (by omega)
            have e3 : decide ((3 : Int) < (k : Int) - (at' : Int)) = false := decide_eq_false (by omega)
            have e4 : decide ((1 : Int) < (k : Int) - (at' : Int)) = true := decide_eq_true (by omega)
            obtain ⟨y, hy⟩ : ∃ y : UInt8, (mkS t)[at']'(by omega) = y := ⟨_, rfl⟩
            have hY : l[0]? = some y := by rw [HG.out 0, Nat.add_zero, ← hy]; have := Lib.data_getElem? (mkS t) at' (by omega); rwa [mkS_data] at this
            have HY := Lib.hid hY
            clear hY
            cases hq : (y == 48)
            · have d4 : ((y.toNat : Int) == 48) = false := (b48 y).trans hq
              have HNN := Lib.hid (ok_yes2 HN.out h23 h23' HY.out hq)
              clear hq
              go_wp2_with fail
              go_ret2
              exact nr_yes (by rw [HL.out]; exact HNN.out) (by rw [HL.out, HN.out]; exact HVV.out) (by rw [HL.out, HN.out]; omega)
            · have d4 : ((y.toNat : Int) == 48) = true := (b48 y).trans hq
              have HNN := Lib.hid (ok_no3 HN.out h23 HY.out hq)
              clear hq
              go_wp2_with fail
              go_ret2
              exact nr_no (by rw [HL.out]; exact HNN.out)
      · have d5 : decide ((k : Int) < (at' : Int) + 4) = false := decide_eq_false (by omega)
        have h4 : k = at' + 4 := by omega
        have HN := Lib.hid (show rnN l = k - at' from rn_stop HC.out (by omega) (by omega) (.inl (by omega)))
        have e1 : ((k : Int) == (at' : Int)) = false := beq_eq_false_iff_ne.2 (by omega)
        have e3 : decide ((3 : Int) < (k : Int) - (at' : Int)) = true := decide_eq_true (by omega)
        have HNN := Lib.hid (ok_no2 (l := l) (by rw [HN.out]; omega))
        clear h4
        go_wp2_with fail
        go_ret2
        exact nr_no (by rw [HL.out]; exact HNN.out)
    · have hlen : l.length ≤ k - at' := by omega
      have HN := Lib.hid (show rnN l = k - at' from rn_stop HC.out (by omega) (by omega) (.inr (.inl hlen)))
      rcases (show k = at' ∨ k = at' + 1 ∨ k = at' + 4 ∨ (1 < k - at' ∧ k - at' ≤ 3) by omega) with rfl | h1 | h4 | ⟨h23, h23'⟩
      · have e1 : ((k : Int) == (k : Int)) = true := beq_self_eq_true _
        have HNN := Lib.hid (ok_no1 (l := l) (by rw [HN.out]; omega))
        go_wp2_with fail
        go_ret2
        exact nr_no (by rw [HL.out]; exact HNN.out)
      · have e1 : ((k : Int) == (at' : Int)) = false := beq_eq_false_iff_ne.2 (by omega)
        have e3 : decide ((3 : Int) < (k : Int) - (at' : Int)) = false := decide_eq_false (by omega)
        have e4 : decide ((1 : Int) < (k : Int) - (at' : Int)) = false := decide_eq_false (by omega)
        have HNN := Lib.hid (ok_yes1 (l := l) (by rw [HN.out]; omega))
        clear h1
        go_wp2_with fail
        go_ret2
        exact nr_yes (by rw [HL.out]; exact HNN.out) (by rw [HL.out, HN.out]; exact HVV.out) (by rw [HL.out, HN.out]; omega)
      · have e1 : ((k : Int) == (at' : Int)) = false := beq_eq_false_iff_ne.2 (by omega)
        have e3 : decide ((3 : Int) < (k : Int) - (at' : Int)) = true := decide_eq_true (by omega)
        have HNN := Lib.hid (ok_no2 (l := l) (by rw [HN.out]; omega))
        clear h4
        go_wp2_with fail
        go_ret2
        exact nr_no (by rw [HL.out]; exact HNN.out)
      · have e1 : ((k : Int) == (at' : Int)) = false := beq_eq_false_iff_ne.2 (by omega)
        have e3 : decide ((3 : Int) < (k : Int) - (at' : Int)) = false := decide_eq_false (by omega)
        have e4 : decide ((1 : Int) < (k : Int) - (at' : Int)) = true := decide_eq_true (by omega)
        obtain ⟨y, hy⟩ : ∃ y : UInt8, (mkS t)[at']'(by omega) = y := ⟨_, rfl⟩
        have hY : l[0]? = some y := by rw [HG.out 0, Nat.add_zero, ← hy]; have := Lib.data_getElem? (mkS t) at' (by omega); rwa [mkS_data] at this
        have HY := Lib.hid hY
        clear hY
        cases hq : (y == 48)
        · have d4 : ((y.toNat : Int) == 48) = false := (b48 y).trans hq
          have HNN := Lib.hid (ok_yes2 HN.out h23 h23' HY.out hq)
          clear hq
          go_wp2_with fail
          go_ret2
          exact nr_yes (by rw [HL.out]; exact HNN.out) (by rw [HL.out, HN.out]; exact HVV.out) (by rw [HL.out, HN.out]; omega)
        · have d4 : ((y.toNat : Int) == 48) = true := (b48 y).trans hq
          have HNN := Lib.hid (ok_no3 HN.out h23 HY.out hq)
          clear hq
          go_wp2_with fail
          go_ret2
          exact nr_no (by rw [HL.out]; exact HNN.out)
end Go.Proofs.YtdcakmamdabiaaaDoor
