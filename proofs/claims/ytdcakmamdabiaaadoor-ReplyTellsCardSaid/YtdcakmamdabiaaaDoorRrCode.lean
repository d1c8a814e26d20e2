/-
  The walk of the reference's code; a line's form in its words.
-/
import Derived.Test.YtdcakmamdabiaaaDoorRrSmall
import Derived.Test.YtdcakmamdabiaaaDoorRpFormed
namespace Go.Proofs.YtdcakmamdabiaaaDoor
set_option maxRecDepth 100000
open Go.RowKit
def rcd (t : Txt) : Int := if 3 ≤ t.length ∧ (t.take 3).all digB = true then (valX (t.take 3) : Int) else 0
theorem rcd_no1 {t : Txt} (h : t.length < 3) : rcd t = 0 := if_neg (fun h2 => by omega)
theorem rcd_no2 {t : Txt} {j : Nat} {x : UInt8} (hj : j < 3) (hx : t[j]? = some x) (hd : digB x = false) : rcd t = 0 := if_neg (fun h2 => by
  have hm : x ∈ t.take 3 := List.mem_of_getElem? (i := j) (by rw [List.getElem?_take_of_lt hj]; exact hx)
  have := (List.all_eq_true.1 h2.2) x hm
  rw [hd] at this
  cases this)
theorem rcd_yes {t : Txt} (h : 3 ≤ t.length) (hd : (t.take 3).all digB = true) : rcd t = (valX (t.take 3) : Int) := if_pos ⟨h, hd⟩
set_option maxHeartbeats 4000000 in
theorem code_x (t : Txt) (w : World) (hl : t.length ≤ 1000000000000) :
    Calls Tryd.prog 22 #[.string (mkS t)] w fun e w' => e = .returned (.int .i64 (rcd t)) ∧ w = w' := by
  have hms := mkS_size t
  by_cases h3 : t.length < 3
  · have d3 : decide ((t.length : Int) < 3) = true := decide_eq_true (by omega)
    have HN := Lib.hid (rcd_no1 h3)
    clear h3
    go_enter Tryd.func22, Tryd.ntmps22
    go_wp2_with fail
    go_ret
    exact ⟨ret_int HN.out.symm, rfl⟩
  · have d3 : decide ((t.length : Int) < 3) = false := decide_eq_false (by omega)
    go_enter Tryd.func22, Tryd.ntmps22
    go_wp2_with fail
    go_loop [3, 4] (fun n i => ∃ k v : Nat, k ≤ 3 ∧ i = .int .i64 (k : Int) ∧ n = .int .i64 (v : Int) ∧ v < 1000 ∧ Hid (v = valX (t.take k)) ∧ Hid ((t.take k).all digB = true)) (fun _ i => 3 - (intOf i).toNat)
    case atStart => exact ⟨0, 0, by omega, rfl, rfl, by decide, Lib.hid rfl, Lib.hid rfl⟩
    case round =>
      obtain ⟨k, v, hk, rfl, rfl, hv, HVV, HC⟩ := hrel
      by_cases hlt : k < 3
      · obtain ⟨x, hx⟩ : ∃ x : UInt8, (mkS t)[k]'(by omega) = x := ⟨_, rfl⟩
        have hX : t[k]? = some x := by rw [← hx]; have := Lib.data_getElem? (mkS t) k (by omega); rwa [mkS_data] at this
        by_cases h1 : x.toNat < 48
        · have d1 : decide ((x.toNat : Int) < 48) = true := decide_eq_true (by omega)
          have HN := Lib.hid (rcd_no2 hlt hX (by rw [digB, decide_eq_false (by omega)]; rfl))
          clear hX h1
          go_wp2_with fail
          go_ret
          exact ⟨ret_int HN.out.symm, rfl⟩
        · have d1 : decide ((x.toNat : Int) < 48) = false := decide_eq_false (by omega)
          by_cases h2 : 57 < x.toNat
          · have d2 : decide ((57 : Int) < (x.toNat : Int)) = true := decide_eq_true (by omega)
            have HN := Lib.hid (rcd_no2 hlt hX (by rw [digB, decide_eq_false (p := x.toNat ≤ 57) (by omega), Bool.and_false]))
            clear hX h1 h2
            go_wp2_with fail
            go_ret
            exact ⟨ret_int HN.out.symm, rfl⟩
          · have d2 : decide ((57 : Int) < (x.toNat : Int)) = false := decide_eq_false (by omega)
            have HN := Lib.hid (all_take (p := digB) hX HC.out (by rw [digB, decide_eq_true (p := 48 ≤ x.toNat) (by omega), decide_eq_true (p := x.toNat ≤ 57) (by omega)]; rfl))
            have hv2 := val_take hX
            have hbd := val_bd 3 (t.take (k + 1)) (by rw [List.length_take]; omega) HN.out
            rw [← HVV.out] at hv2
            rw [hv2] at hbd
            have HV2 := Lib.hid hv2
            have c1 : IntKind.u8.wrap ((x.toNat : Int) - 48) = ((x.toNat - 48 : Nat) : Int) := by
              have := x.toNat_lt
              rw [IntWalk.u8_in _ (by omega)]; omega
            have hx9 : x.toNat - 48 ≤ 9 := by omega
            clear hX hv2 h1 h2
            go_wp2_with fail
            go_round
            case rel => exact ⟨k + 1, v * 10 + (x.toNat - 48), by omega, by go_num, by go_num, by omega, Lib.hid HV2.out.symm, HN⟩
            case measure => simp [intOf]; omega
      · obtain rfl : k = 3 := by omega
        have HE := Lib.hid (show rcd t = (v : Int) by rw [rcd_yes (by omega) HC.out, ← HVV.out])
        go_wp2_with fail
        go_ret
        exact ⟨ret_int HE.out.symm, rfl⟩
theorem dig3 {t : Txt} (h : rpCls (rcd t) ≠ 0) : 3 ≤ t.length ∧ (t.take 3).all digB = true ∧ rcd t = (valX (t.take 3) : Int) ∧ 200 ≤ valX (t.take 3) := by
  obtain ⟨h1, _, _⟩ := cls_code h
  unfold rcd at h1 ⊢
  split at h1
  · rename_i h2
    rw [if_pos h2]
    exact ⟨h2.1, h2.2, rfl, by omega⟩
  · omega
theorem take3_shape {t : Txt} (h : 3 ≤ t.length) : ∃ a b c, t.take 3 = [a, b, c] := by
  match t, h with
  | a :: b :: c :: r, _ => exact ⟨a, b, c, rfl⟩
theorem val3 (a b c : UInt8) : valX [a, b, c] = ((a.toNat - 48) * 10 + (b.toNat - 48)) * 10 + (c.toNat - 48) := by simp [valX]
theorem dig_in {a b c : UInt8} (h : [a, b, c].all digB = true) : (48 ≤ a.toNat ∧ a.toNat ≤ 57) ∧ (48 ≤ b.toNat ∧ b.toNat ≤ 57) ∧ (48 ≤ c.toNat ∧ c.toNat ≤ 57) := by
  simp only [List.all_cons, List.all_nil, Bool.and_true, Bool.and_eq_true] at h
  exact ⟨digB_bd h.1, digB_bd h.2.1, digB_bd h.2.2⟩
/-- A line's form, and that its code is the first one's, in the reference's words. -/
theorem form_code (t l0 : Txt) : (rpFm t && t.take 3 == l0.take 3) = (rpCls (rcd t) != 0 && (rcd t == rcd l0) && t.all rpPr && (decide (t.length ≤ 3) || t[3]? == some 45 || t[3]? == some 32)) := by
  have hs : (t[3]? == none || t[3]? == some 45 || t[3]? == some 32) = (decide (t.length ≤ 3) || t[3]? == some 45 || t[3]? == some 32) := by
    by_cases h : t.length ≤ 3
    · rw [List.getElem?_eq_none h, decide_eq_true h]; rfl
    · rw [decide_eq_false h, List.getElem?_eq_getElem (by omega)]; rfl
  unfold rpFm
  rw [hs]
  by_cases hc : rpCls (rcd t) = 0
  · rw [show (rpCls (rcd t) != 0) = false by rw [hc]; rfl]
    simp only [Bool.false_and]
    by_cases h3 : 3 ≤ t.length
    · by_cases hd : rpNm (t.take 3) = true
      · rw [rcd_yes h3 (nm_dig hd)] at hc
        rw [show (rpCls (valX (t.take 3)) != 0) = false by rw [hc]; rfl]
        simp
      · rw [Bool.not_eq_true] at hd
        rw [hd]; simp
    · rw [decide_eq_false h3]; simp
  · obtain ⟨h3, hd, hv, h200⟩ := dig3 hc
    obtain ⟨a, b, c, ha⟩ := take3_shape h3
    have hnm : rpNm (t.take 3) = true := by
      rw [ha] at hd h200 ⊢
      obtain ⟨h1, h2, h4⟩ := dig_in hd
      rw [val3] at h200
      unfold rpNm
      rw [hd]
      have : a ≠ 48 := fun e => by subst e; simp at h200; omega
      simp [this]
    have he : (t.take 3 == l0.take 3) = (rcd t == rcd l0) := by
      rw [Bool.eq_iff_iff, beq_iff_eq, beq_iff_eq]
      constructor
      · intro e
        have hl : 3 ≤ l0.length := by
          have := congrArg List.length e
          rw [ha, List.length_take] at this
          simp at this
          omega
        rw [hv, rcd_yes hl (by rw [← e]; exact hd), e]
      · intro e
        obtain ⟨k3, kd, kv, _⟩ := dig3 (t := l0) (by rw [← e]; exact hc)
        obtain ⟨x, y, z, hx⟩ := take3_shape k3
        rw [hv, kv] at e
        rw [ha] at hd e ⊢
        rw [hx] at kd e ⊢
        obtain ⟨p1, p2, p3⟩ := dig_in hd
        obtain ⟨q1, q2, q3⟩ := dig_in kd
        rw [val3, val3] at e
        have e1 : a = x := UInt8.toNat_inj.1 (by omega)
        have e2 : b = y := UInt8.toNat_inj.1 (by omega)
        have e3 : c = z := UInt8.toNat_inj.1 (by omega)
        rw [e1, e2, e3]
    rw [he, hnm, decide_eq_true h3, ← hv, show (rpCls (rcd t) != 0) = true from bne_iff_ne.2 hc]
    generalize t.all rpPr = p1
    generalize (rcd t == rcd l0) = p2
    generalize (decide (t.length ≤ 3) || t[3]? == some 45 || t[3]? == some 32) = p3
    cases p1 <;> cases p2 <;> cases p3 <;> rfl
end Go.Proofs.YtdcakmamdabiaaaDoor
