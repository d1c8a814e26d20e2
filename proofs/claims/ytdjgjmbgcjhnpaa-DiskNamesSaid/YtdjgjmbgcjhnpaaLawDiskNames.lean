/-
  The walk of DiskNames.
-/
import Derived.Test.YtdjgjmbgcjhnpaaDkAwake
namespace Go.Proofs.Ytdjgjmbgcjhnpaa
set_option maxRecDepth 100000
open Go.RowKit
def N1 (n : Txt) : Dk := ⟨100, [⟨n, [120], 0⟩], false, 0, 0, 1⟩
def N2 (n : Txt) : Dk := ⟨100, [⟨n, [120], 1⟩], false, 0, 0, 2⟩
def N3 : Dk := ⟨100, [], false, 0, 0, 3⟩
theorem bad_r {n : Txt} (h : okN n = false) : readyE (newD 100) n = 2 := by rw [readyE, h]; rfl
theorem bad_f {n : Txt} (h : okN n = false) : findE (newD 100) n = 2 := by rw [findE, bad_r h]; rfl
theorem bad_a {n : Txt} (h : okN n = false) : appD (newD 100) n [120] = (2, newD 100) := by rw [appD, bad_r h]; rfl
theorem bad_s {n : Txt} (h : okN n = false) : synD (newD 100) n = (2, newD 100) := by rw [synD, bad_f h]; rfl
theorem bad_m {n : Txt} (h : okN n = false) : remD (newD 100) n = (2, newD 100) := by rw [remD, bad_f h]; rfl
theorem bad_n {n : Txt} (h : okN n = false) : renD (newD 100) n [120] = (2, newD 100) := by rw [renD, bad_f h]; rfl
theorem bad_t {n : Txt} (h : okN n = false) : renD (newD 100) [120] n = (2, newD 100) := by rw [renD, bad_r h]; rfl
theorem ok_a {n : Txt} (h : okN n = true) : appD (newD 100) n [120] = (0, N1 n) := by
  rw [appD, show readyE (newD 100) n = 0 by rw [readyE, h]; rfl]
  rfl
theorem ok_h (n : Txt) (x : Txt) (k : Nat) : hasF [⟨n, x, k⟩] n = true := by simp [hasF]
theorem ok_f {n : Txt} (h : okN n = true) : findE (N1 n) n = 0 := by
  rw [findE, show readyE (N1 n) n = 0 by rw [readyE, h]; rfl, show hasF (N1 n).fs n = true from ok_h _ _ _]; rfl
theorem ok_s {n : Txt} (h : okN n = true) : synD (N1 n) n = (0, N2 n) := by
  rw [synD, ok_f h, show setL (N1 n).fs n = [⟨n, [120], 1⟩] by simp [setL, N1]]
  rfl
theorem ok_m {n : Txt} (h : okN n = true) : remD (N2 n) n = (0, N3) := by
  rw [remD, show findE (N2 n) n = 0 by rw [findE, show readyE (N2 n) n = 0 by rw [readyE, h]; rfl, show hasF (N2 n).fs n = true from ok_h _ _ _]; rfl, show delL (N2 n).fs n = [] by simp [delL, N2]]
  rfl
theorem inv_N0 : Inv (newD 100) 10 := (inv_new (by decide)).mono (by decide)
theorem inv_N1 {n : Txt} (h : okN n = true) : Inv (N1 n) 10 := ⟨by show 100 ≤ _; decide, by show ([120] : Txt).length + 0 ≤ 100; decide, by show 1 ≤ 128; decide, fun f hf => by rw [List.mem_singleton.1 hf]; exact ok_len h, by show 1 ≤ 10; decide⟩
theorem inv_N2 {n : Txt} (h : okN n = true) : Inv (N2 n) 10 := ⟨by show 100 ≤ _; decide, by show ([120] : Txt).length + 0 ≤ 100; decide, by show 1 ≤ 128; decide, fun f hf => by rw [List.mem_singleton.1 hf]; exact ok_len h, by show 2 ≤ 10; decide⟩
theorem inv_N3 : Inv N3 10 := inv_dec (by decide)
set_option maxHeartbeats 4000000 in
theorem diskNames_x (n : Txt) (w : World) (hnl : n.length ≤ 140737488355328) : Calls Try.prog 6 #[.string (mkS n)] w fun e w' => e = .returned (.bool true) ∧ Below w.heap.size w w' := by
  have hms := mkS_size n
  have HA := Lib.hid (awake_x w)
  go_enter Try.func6, Try.ntmps6
  go_wp2_with fail
  refine HA.out.mono ?_
  rintro e w1 ⟨rfl, hb⟩
  have B1 := Lib.hid hb
  clear hb
  by_cases h2 : 200 < n.length
  · have d1 : decide ((200 : Int) < (n.length : Int)) = true := decide_eq_true (by omega)
    clear h2
    go_wp2_with fail
    go_ret
    exact ⟨rfl, B1.out⟩
  · have d1 : decide ((200 : Int) < (n.length : Int)) = false := decide_eq_false (by omega)
    have hl : n.length ≤ 200 := by omega
    clear h2
    go_wp2_with fail
    refine (new_l 100 w1 (by decide) (by decide)).mono ?_
    rintro e w2 ⟨b, m, rfl, hlv, hb⟩
    have L2 := Lib.hid hlv
    have B2 := Lib.hid (below_next B1.out hb)
    have S2 := Lib.hid B1.out.size
    clear hlv hb d1
    have HQ := Lib.hid (show okN n = (decide (1 ≤ n.length) && decide (n.length ≤ 32) && n.all okC) from rfl)
    obtain ⟨q0, hq0⟩ : ∃ q0, (decide (1 ≤ n.length) && decide (n.length ≤ 32)) = q0 := ⟨_, rfl⟩
    have HQ0 := Lib.hid hq0
    go_upto_region 8 with fail
    go_cut [5] from 10 (fun v wc => v = .bool q0 ∧ wc = w2)
    case first =>
      by_cases h1 : 1 ≤ n.length
      · have e1 : decide ((1 : Int) ≤ (n.length : Int)) = true := decide_eq_true (by omega)
        by_cases h3 : n.length ≤ 32
        · have e2 : decide ((n.length : Int) ≤ 32) = true := decide_eq_true (by omega)
          have HE := Lib.hid (show true = q0 by rw [← hq0, decide_eq_true h1, decide_eq_true h3]; rfl)
          clear h1 h3 hq0
          go_wp2_with fail
          go_meet
          case rel => exact ⟨by rw [← HE.out], rfl⟩
        · have e2 : decide ((n.length : Int) ≤ 32) = false := decide_eq_false (by omega)
          have HE := Lib.hid (show false = q0 by rw [← hq0, decide_eq_false h3, Bool.and_false])
          clear h1 h3 hq0
          go_wp2_with fail
          go_meet
          case rel => exact ⟨by rw [← HE.out], rfl⟩
      · have e1 : decide ((1 : Int) ≤ (n.length : Int)) = false := decide_eq_false (by omega)
        have HE := Lib.hid (show false = q0 by rw [← hq0, decide_eq_false h1]; rfl)
        clear h1 hq0
        go_wp2_with fail
        go_meet
        case rel => exact ⟨by rw [← HE.out], rfl⟩
    case rest =>
      obtain ⟨rfl, rfl⟩ := hcut
      clear hq0
      go_wp2_with fail
      go_loop [5, 6] (fun v i => ∃ k : Nat, ∃ q : Bool, k ≤ n.length ∧ i = .int .i64 k ∧ v = .bool q ∧ Hid (q = (q0 && (n.take k).all okC))) (fun _ i => n.length - (intOf i).toNat)
      case atStart => exact ⟨0, q0, Nat.zero_le _, rfl, rfl, by show _ = _; simp⟩
      case round =>
        obtain ⟨k, q, hk, rfl, rfl, HQk⟩ := hrel
        by_cases hlt : k < n.length
        · obtain ⟨x, hx⟩ : ∃ x : UInt8, (mkS n)[k]'(by omega) = x := ⟨_, rfl⟩
          have hX : n[k]? = some x := by rw [← hx]; have := Lib.data_getElem? (mkS n) k (by omega); rwa [mkS_data] at this
          have HS := Lib.hid (show (n.take (k + 1)).all okC = ((n.take k).all okC && okC x) by
            obtain ⟨h1, h2⟩ := List.getElem?_eq_some_iff.1 hX
            rw [List.take_succ_eq_append_getElem h1, List.all_append, h2]
            simp)
          have HO := Lib.hid (show okC x = (decide (33 ≤ x.toNat) && decide (x.toNat ≤ 126)) from rfl)
          clear hX
          cases q
          · have HN := Lib.hid (show false = (q0 && (n.take (k + 1)).all okC) by rw [HS.out, ← Bool.and_assoc, ← HQk.out]; rfl)
            go_wp2_with fail
            go_round
            case rel => exact ⟨k + 1, false, by omega, by go_num, rfl, HN⟩
            case measure => simp [intOf]; omega
          · have HN := Lib.hid (show (decide (33 ≤ x.toNat) && decide (x.toNat ≤ 126)) = (q0 && (n.take (k + 1)).all okC) by rw [HS.out, ← Bool.and_assoc, ← HQk.out, HO.out]; rfl)
            by_cases h1 : 33 ≤ x.toNat
            · have e1 : decide ((33 : Int) ≤ (x.toNat : Int)) = true := decide_eq_true (by omega)
              by_cases h3 : x.toNat ≤ 126
              · have e2 : decide ((x.toNat : Int) ≤ 126) = true := decide_eq_true (by omega)
                have HN2 := Lib.hid (show true = (q0 && (n.take (k + 1)).all okC) by rw [← HN.out, decide_eq_true h1, decide_eq_true h3]; rfl)
                clear h1 h3
                go_wp2_with fail
                go_round
                case rel => exact ⟨k + 1, true, by omega, by go_num, rfl, HN2⟩
                case measure => simp [intOf]; omega
              · have e2 : decide ((x.toNat : Int) ≤ 126) = false := decide_eq_false (by omega)
                have HN2 := Lib.hid (show false = (q0 && (n.take (k + 1)).all okC) by rw [← HN.out, decide_eq_false h3, Bool.and_false])
                clear h1 h3
                go_wp2_with fail
                go_round
                case rel => exact ⟨k + 1, false, by omega, by go_num, rfl, HN2⟩
                case measure => simp [intOf]; omega
            · have e1 : decide ((33 : Int) ≤ (x.toNat : Int)) = false := decide_eq_false (by omega)
              have HN2 := Lib.hid (show false = (q0 && (n.take (k + 1)).all okC) by rw [← HN.out, decide_eq_false h1]; rfl)
              clear h1
              go_wp2_with fail
              go_round
              case rel => exact ⟨k + 1, false, by omega, by go_num, rfl, HN2⟩
              case measure => simp [intOf]; omega
        · have HQE := Lib.hid (show q = okN n by have h := HQk.out; rw [List.take_of_length_le (by omega)] at h; rw [h, HQ.out, HQ0.out])
          have hln : n.length ≤ 1000000000000 := by omega
          clear HQk
          cases q
          · have hb := HQE.out.symm
            go_wp2_with fail
            refine (Did.to (app_l L2.out inv_N0 (by decide) n [120] hln (by decide)) (bad_a hb)).mono ?_
            rintro e w3 ⟨rfl, hv, h3⟩
            have L3 := Lib.hid hv
            have B3 := Lib.hid (B2.out.trans (h3.mono S2.out))
            clear hv h3
            go_wp2_with fail
            refine (read_l L3.out n hln).mono ?_
            rw [bad_f hb]
            rintro e w4 ⟨rfl, h3⟩
            have L4 := Lib.hid (L3.out.next h3)
            have B4 := Lib.hid (B3.out.trans ((L3.out.base h3).mono S2.out))
            clear h3
            go_wp2_with fail
            refine (Did.to (syn_l L4.out inv_N0 (by decide) n hln) (bad_s hb)).mono ?_
            rintro e w5 ⟨rfl, hv, h3⟩
            have L5 := Lib.hid hv
            have B5 := Lib.hid (B4.out.trans (h3.mono S2.out))
            clear hv h3
            go_wp2_with fail
            refine (Did.to (rem_l L5.out inv_N0 (by decide) n hln) (bad_m hb)).mono ?_
            rintro e w6 ⟨rfl, hv, h3⟩
            have L6 := Lib.hid hv
            have B6 := Lib.hid (B5.out.trans (h3.mono S2.out))
            clear hv h3
            go_wp2_with fail
            refine (Did.to (ren_l L6.out inv_N0 (by decide) n [120] hln (by decide)) (bad_n hb)).mono ?_
            rintro e w7 ⟨rfl, hv, h3⟩
            have L7 := Lib.hid hv
            have B7 := Lib.hid (B6.out.trans (h3.mono S2.out))
            clear hv h3
            go_wp2_with fail
            refine (Did.to (ren_l L7.out inv_N0 (by decide) [120] n (by decide) hln) (bad_t hb)).mono ?_
            rintro e w8 ⟨rfl, hv, h3⟩
            have L8 := Lib.hid hv
            have B8 := Lib.hid (B7.out.trans (h3.mono S2.out))
            clear hv h3
            go_wp2_with fail
            refine (used_l L8.out inv_N0).mono ?_
            rw [show usedF (newD 100).fs = 0 from rfl]
            rintro e w9 ⟨rfl, h3⟩
            have B9 := Lib.hid (B8.out.trans ((L8.out.base h3).mono S2.out))
            clear h3
            go_wp2_with fail
            go_ret
            exact ⟨rfl, B9.out⟩
          · have hb := HQE.out.symm
            go_wp2_with fail
            refine (Did.to (app_l L2.out inv_N0 (by decide) n [120] hln (by decide)) (ok_a hb)).mono ?_
            rintro e w3 ⟨rfl, hv, h3⟩
            have L3 := Lib.hid hv
            have B3 := Lib.hid (B2.out.trans (h3.mono S2.out))
            clear hv h3
            go_wp2_with fail
            refine (read_l L3.out n hln).mono ?_
            rw [ok_f hb]
            rintro e w4 ⟨rfl, h3⟩
            have L4 := Lib.hid (L3.out.next h3)
            have B4 := Lib.hid (B3.out.trans ((L3.out.base h3).mono S2.out))
            clear h3
            go_wp2_with fail
            refine (Did.to (syn_l L4.out (inv_N1 hb) (by decide) n hln) (ok_s hb)).mono ?_
            rintro e w5 ⟨rfl, hv, h3⟩
            have L5 := Lib.hid hv
            have B5 := Lib.hid (B4.out.trans (h3.mono S2.out))
            clear hv h3
            go_wp2_with fail
            refine (Did.to (rem_l L5.out (inv_N2 hb) (by decide) n hln) (ok_m hb)).mono ?_
            rintro e w6 ⟨rfl, hv, h3⟩
            have L6 := Lib.hid hv
            have B6 := Lib.hid (B5.out.trans (h3.mono S2.out))
            clear hv h3
            go_wp2_with fail
            refine (list_l L6.out inv_N3).mono ?_
            rintro e w7 ⟨v, ts, rfl, hrow, hperm, h3⟩
            have hts : ts = [] := List.perm_nil.1 hperm
            subst hts
            obtain ⟨A, c, rfl⟩ := own_slice hrow
            have B7 := Lib.hid (B6.out.trans ((L6.out.base h3).mono S2.out))
            clear hrow hperm h3
            go_wp2_with fail
            go_ret
            exact ⟨rfl, B7.out⟩
end Go.Proofs.Ytdjgjmbgcjhnpaa
