/-
  The walk of DiskCounts.
-/
import Derived.Test.YtdjgjmbgcjhnpaaDkAct
namespace Go.Proofs.Ytdjgjmbgcjhnpaa
set_option maxRecDepth 100000
open Go.RowKit
theorem ready_cases {S : Dk} (h : S.off = false) (n : Txt) : readyE S n = 0 ∨ readyE S n = 2 := by
  rw [readyE, h]
  cases okN n
  · exact .inr rfl
  · exact .inl rfl
theorem find_cases {S : Dk} (h : S.off = false) (n : Txt) : findE S n = 0 ∨ findE S n = 2 ∨ findE S n = 4 := by
  rw [findE]
  rcases ready_cases h n with e | e
  · rw [e, if_neg (by simp)]
    cases hasF S.fs n
    · exact .inr (.inr rfl)
    · exact .inl rfl
  · rw [e, if_pos (by simp)]; exact .inr (.inl rfl)
theorem do_cases {S : Dk} (hoff : S.off = false) (hu : uniq S.fs) (c : Ac) (h0 : 0 ≤ c.kind) (h3 : c.kind ≤ 3) :
    (∃ e : Nat, doD S c = (e, S) ∧ e ≠ 0 ∧ e ≠ 7) ∨ ∃ l1 l2, doD S c = chgD S l1 l2 ∧ usedF l1 ≤ usedF S.fs + c.s.length ∧ usedF l2 ≤ usedF S.fs + c.s.length := by
  obtain ⟨kd, n, s, a, q⟩ := c
  simp only at h0 h3
  have hk : kd = 0 ∨ kd = 1 ∨ kd = 2 ∨ kd = 3 := by omega
  rcases hk with rfl | rfl | rfl | rfl
  · show (∃ e : Nat, appD S n s = (e, S) ∧ e ≠ 0 ∧ e ≠ 7) ∨ ∃ l1 l2, appD S n s = chgD S l1 l2 ∧ _
    rw [appD]
    rcases ready_cases hoff n with e | e
    · rw [e, if_neg (by simp)]
      cases fullB S n s
      · exact .inr ⟨_, _, rfl, by rw [used_add hu]; exact Nat.le_refl _, by rw [used_add hu]; exact Nat.le_refl _⟩
      · exact .inl ⟨6, rfl, by decide, by decide⟩
    · rw [e]; exact .inl ⟨2, rfl, by decide, by decide⟩
  · show (∃ e : Nat, synD S n = (e, S) ∧ e ≠ 0 ∧ e ≠ 7) ∨ ∃ l1 l2, synD S n = chgD S l1 l2 ∧ _
    rw [synD]
    rcases find_cases hoff n with e | e | e
    · rw [e, if_neg (by simp)]; exact .inr ⟨_, _, rfl, Nat.le_add_right _ _, by rw [used_set]; exact Nat.le_add_right _ _⟩
    · rw [e]; exact .inl ⟨2, rfl, by decide, by decide⟩
    · rw [e]; exact .inl ⟨4, rfl, by decide, by decide⟩
  · show (∃ e : Nat, renD S n s = (e, S) ∧ e ≠ 0 ∧ e ≠ 7) ∨ ∃ l1 l2, renD S n s = chgD S l1 l2 ∧ _
    rw [renD]
    rcases ready_cases hoff s with e | e
    · rw [e, if_neg (by simp)]
      rcases find_cases hoff n with e | e | e
      · rw [e, if_neg (by simp)]; exact .inr ⟨_, _, rfl, Nat.le_add_right _ _, Nat.le_trans (used_mov_le _ _ _) (Nat.le_add_right _ _)⟩
      · rw [e]; exact .inl ⟨2, rfl, by decide, by decide⟩
      · rw [e]; exact .inl ⟨4, rfl, by decide, by decide⟩
    · rw [e]; exact .inl ⟨2, rfl, by decide, by decide⟩
  · show (∃ e : Nat, remD S n = (e, S) ∧ e ≠ 0 ∧ e ≠ 7) ∨ ∃ l1 l2, remD S n = chgD S l1 l2 ∧ _
    rw [remD]
    rcases find_cases hoff n with e | e | e
    · rw [e, if_neg (by simp)]; exact .inr ⟨_, _, rfl, Nat.le_add_right _ _, Nat.le_trans (used_del_le _ _) (Nat.le_add_right _ _)⟩
    · rw [e]; exact .inl ⟨2, rfl, by decide, by decide⟩
    · rw [e]; exact .inl ⟨4, rfl, by decide, by decide⟩
theorem do_down {S : Dk} (hoff : S.off = true) (c : Ac) (h0 : 0 ≤ c.kind) (h3 : c.kind ≤ 3) : doD S c = (7, S) := by
  obtain ⟨kd, n, s, a, q⟩ := c
  simp only at h0 h3
  have hr : ∀ n, readyE S n = 7 := fun n => by rw [readyE, hoff]; rfl
  have hf : ∀ n, findE S n = 7 := fun n => by rw [findE, hr]; rfl
  have hk : kd = 0 ∨ kd = 1 ∨ kd = 2 ∨ kd = 3 := by omega
  rcases hk with rfl | rfl | rfl | rfl
  · show appD S n s = _; rw [appD, hr]; rfl
  · show synD S n = _; rw [synD, hf]; rfl
  · show renD S n s = _; rw [renD, hr]; rfl
  · show remD S n = _; rw [remD, hf]; rfl
theorem again_ok {S : Dk} (h1 : S.off = false) (h2 : usedF S.fs + 1 ≤ S.room) (h3 : S.fs.length ≠ 128) (h4 : S.at_ = 0) : ∃ S', appD S [97, 103, 97, 105, 110] [120] = (0, S') := by
  refine ⟨putD (tickD S) (addL S.fs [97, 103, 97, 105, 110] [120]), ?_⟩
  rw [appD, show readyE S [97, 103, 97, 105, 110] = 0 by rw [readyE, h1]; rfl, if_neg (by simp), show fullB S [97, 103, 97, 105, 110] [120] = false by
    rw [fullB, decide_eq_false (by show ¬ S.room < usedF S.fs + 1; omega), decide_eq_false h3, Bool.and_false]; rfl, if_neg (by simp), chgD, if_neg (by rw [h4]; omega)]
/-- How far DiskCounts is. -/
structure CI (B b m : Nat) (at_ : Int) (S : Dk) (k n : Nat) (w wr : World) : Prop where
  live : Live B b m S wr
  inv : Inv S k
  off : S.off = false
  at' : S.at_ = at_
  chg : S.chg = n
  lt : (n : Int) < at_
  used : usedF S.fs ≤ 2000 * k
  room : S.room = 1048576
  below : Below w.heap.size w wr
  base : w.heap.size ≤ B
set_option maxHeartbeats 8000000 in
theorem diskCounts_x (at_ keep : Int) (v : Value) (l : List Ac) (w : World) (ya : -9223372036854775808 ≤ at_) (yb : at_ ≤ 9223372036854775807) (_ : -9223372036854775808 ≤ keep) (_ : keep ≤ 9223372036854775807) (hs : ActsAt w v l) : Calls Try.prog 3 #[.int .i64 at_, .int .i64 keep, v] w fun e w' => e = .returned (.bool true) ∧ Below w.heap.size w w' := by
  have HS0 := Lib.hid hs
  have HA := Lib.hid (awake_x w)
  obtain ⟨A, cap, rfl, hcp, hcl⟩ := hs
  have HS := Lib.hid hcl
  clear hcl hcp
  go_enter Try.func3, Try.ntmps3
  go_wp2_with fail
  refine HA.out.mono ?_
  rintro e w1 ⟨rfl, hb⟩
  have B1 := Lib.hid hb
  have HS1 := Lib.hid (HS0.out.below hb)
  clear hb
  go_wp2_with fail
  refine (fewA_x _ l w1 HS1.out).mono ?_
  cases hfew : fewA l
  · rintro e w1' ⟨rfl, rfl⟩
    go_wp2_with fail
    go_ret
    exact ⟨rfl, B1.out⟩
  · rintro e w1' ⟨rfl, rfl⟩
    have HF := Lib.hid (few_a hfew)
    clear hfew
    by_cases ha : at_ < 1
    · have d1 : decide (at_ < 1) = true := decide_eq_true ha
      clear ha
      go_wp2_with fail
      go_ret
      exact ⟨rfl, B1.out⟩
    · have d1 : decide (at_ < 1) = false := decide_eq_false ha
      go_wp2_with fail
      refine (new_l 1048576 w1 (by decide) (by decide)).mono ?_
      rintro e w2 ⟨b, m, rfl, hv, hb⟩
      have L2 := Lib.hid hv
      have B2 := Lib.hid (below_next B1.out hb)
      have S2 := Lib.hid B1.out.size
      clear hv hb d1
      go_wp2_with fail
      refine (arm_l L2.out at_ keep).mono ?_
      rintro e w3 ⟨rfl, hv, hb⟩
      have H3 : Hid (CI w1.heap.size b m at_ (armD (newD 1048576) at_ keep) 0 0 w w3) := Lib.hid ⟨hv, inv_arm (inv_new (by decide)) _ _, rfl, rfl, rfl, by omega, Nat.le_refl _, rfl, B2.out.trans (hb.mono S2.out), S2.out⟩
      clear hv hb L2 B2
      go_wp2_with fail
      go_loopw [9, 10] (fun nv iv wr => ∃ k n : Nat, ∃ S, k ≤ l.length ∧ iv = .int .i64 k ∧ nv = .int .i64 n ∧ n ≤ k ∧ Hid (CI w1.heap.size b m at_ S k n w wr)) (fun _ iv _ => l.length - (intOf iv).toNat)
      case atStart => exact ⟨0, 0, _, Nat.zero_le _, rfl, rfl, Nat.le_refl _, H3⟩
      case round =>
        obtain ⟨k, n, S, hk, rfl, rfl, hn, HC⟩ := hrel
        have hl200 := HF.out.1
        by_cases hlt : k < l.length
        · obtain ⟨c, hcx⟩ : ∃ c, l[k]? = some c := ⟨_, List.getElem?_eq_getElem hlt⟩
          obtain ⟨ad, rfl, hab, hat⟩ := HS.out k c hcx
          have HAT := Lib.hid (fun w' (hb : Below w.heap.size w w') => hat.below hb hat.lt)
          have HSZ := Lib.hid (HF.out.2 c (List.mem_of_getElem? hcx))
          obtain ⟨_, c0, c1, c2, c3, c4⟩ := HAT.out wr HC.out.below
          clear hcx hat
          by_cases hk0 : c.kind < 0
          · have d1 : decide (c.kind < 0) = true := decide_eq_true hk0
            have HC2 : Hid (CI w1.heap.size b m at_ S (k + 1) n w wr) := Lib.hid ⟨HC.out.live, HC.out.inv.mono (Nat.le_succ _), HC.out.off, HC.out.at', HC.out.chg, HC.out.lt, by have := HC.out.used; omega, HC.out.room, HC.out.below, HC.out.base⟩
            clear hk0
            go_wp2_with fail
            go_round
            case rel => exact ⟨k + 1, n, S, by omega, by go_num, rfl, by omega, HC2⟩
            case measure => simp [intOf]; omega
          · have d1 : decide (c.kind < 0) = false := decide_eq_false hk0
            by_cases hk3 : 3 < c.kind
            · have d2 : decide (3 < c.kind) = true := decide_eq_true hk3
              have HC2 : Hid (CI w1.heap.size b m at_ S (k + 1) n w wr) := Lib.hid ⟨HC.out.live, HC.out.inv.mono (Nat.le_succ _), HC.out.off, HC.out.at', HC.out.chg, HC.out.lt, by have := HC.out.used; omega, HC.out.room, HC.out.below, HC.out.base⟩
              clear hk0 hk3
              go_wp2_with fail
              go_round
              case rel => exact ⟨k + 1, n, S, by omega, by go_num, rfl, by omega, HC2⟩
              case measure => simp [intOf]; omega
            · have d2 : decide (3 < c.kind) = false := decide_eq_false hk3
              have HK0 := Lib.hid (show 0 ≤ c.kind by omega)
              have HK3 := Lib.hid (show c.kind ≤ 3 by omega)
              have HID := Lib.hid (inv_do HC.out.inv HC.out.live.uniq c)
              have hkk : k ≤ 200 := by omega
              have dn : decide (at_ ≤ (n : Int)) = false := decide_eq_false (by have := HC.out.lt; omega)
              have HDo := Lib.hid (does_x HC.out.live HC.out.inv (by omega) c (by have := HSZ.out.1; omega) (by have := HSZ.out.2; omega))
              clear hk0 hk3
              rcases do_cases HC.out.off HC.out.live.uniq c HK0.out HK3.out with ⟨ec, hdo, he0, he7⟩ | ⟨l1, l2, hdo, hu1, hu2⟩
              · have hz0 : ((ec : Int) == 0) = false := by rw [beq_eq_false_iff_ne]; omega
                have hz7 : ((ec : Int) == 7) = false := by rw [beq_eq_false_iff_ne]; omega
                have HD2 := Lib.hid (Did.to HDo.out hdo)
                clear HDo hdo HID
                go_wp2_with fail
                refine HD2.out.mono ?_
                rintro e w4 ⟨rfl, hl, hb⟩
                have HC2 : Hid (CI w1.heap.size b m at_ S (k + 1) n w w4) := Lib.hid ⟨hl, HC.out.inv.mono (Nat.le_succ _), HC.out.off, HC.out.at', HC.out.chg, HC.out.lt, by have := HC.out.used; omega, HC.out.room, HC.out.below.trans (hb.mono HC.out.base), HC.out.base⟩
                clear hl hb c0 c1 c2 c3 c4
                go_wp2_with fail
                refine (down_l HC2.out.live).mono ?_
                rw [HC2.out.off]
                rintro e w5 ⟨rfl, rfl⟩
                go_wp2_with fail
                refine (down_l HC2.out.live).mono ?_
                rw [HC2.out.off]
                rintro e w5 ⟨rfl, rfl⟩
                go_wp2_with fail
                refine (changes_l HC2.out.live).mono ?_
                rw [HC2.out.chg]
                rintro e w5 ⟨rfl, rfl⟩
                go_wp2_with fail
                go_round
                case rel => exact ⟨k + 1, n, S, by omega, by go_num, rfl, by omega, HC2⟩
                case measure => simp [intOf]; omega
              · by_cases hat1 : (n : Int) + 1 = at_
                · have hdo2 : doD S c = (7, failD S.keep (putD (tickD S) l1)) := by rw [hdo, chgD, if_pos (by rw [HC.out.at', HC.out.chg, ← hat1]; omega)]
                  have HD2 := Lib.hid (Did.to HDo.out hdo2)
                  have hiv := HID.out
                  rw [hdo2] at hiv
                  obtain ⟨S4, hS4⟩ : ∃ S4, failD S.keep (putD (tickD S) l1) = S4 := ⟨_, rfl⟩
                  have HIV := Lib.hid (show Inv S4 (k + 1) by rw [← hS4]; exact hiv)
                  have hoff : S4.off = true := by rw [← hS4]; rfl
                  have hchg : (S4.chg : Int) = at_ := by rw [← hS4, ← hat1]; show ((S.chg + 1 : Nat) : Int) = _; rw [HC.out.chg]; omega
                  have hroom : S4.room = 1048576 := by rw [← hS4]; exact HC.out.room
                  have hus : usedF S4.fs ≤ 2000 * (k + 1) := by
                    rw [← hS4]
                    have h1 := used_cut_le l1 S.keep
                    have h2 := HC.out.used
                    have h3 := HSZ.out.2
                    show usedF (l1.map (cutF S.keep)) ≤ _
                    omega
                  have hat0 : S4.at_ = 0 := by rw [← hS4]; rfl
                  rw [hS4] at HD2
                  have HOF := Lib.hid hoff
                  have HCH := Lib.hid hchg
                  have HRM := Lib.hid hroom
                  have HUS := Lib.hid hus
                  have HA0 := Lib.hid hat0
                  have hne : ((n : Int) != at_ - 1) = false := by rw [bne_eq_false_iff_eq]; omega
                  have hwr : IntKind.i64.wrap (at_ - 1) = at_ - 1 := IntWalk.i64_in _ (by omega)
                  clear HDo hdo hdo2 HID hiv hS4 hoff hchg hroom hus hat0 hat1
                  go_wp2_with fail
                  refine HD2.out.mono ?_
                  rintro e w4 ⟨rfl, hl, hb⟩
                  have L4 := Lib.hid hl
                  have B4 := Lib.hid (HC.out.below.trans (hb.mono HC.out.base))
                  have HBS := Lib.hid HC.out.base
                  clear hl hb c0 c1 c2 c3 c4
                  obtain ⟨_, c0, c1, c2, c3, c4⟩ := HAT.out w4 B4.out
                  go_wp2_with fail
                  refine (down_l L4.out).mono ?_
                  rw [HOF.out]
                  rintro e w5 ⟨rfl, rfl⟩
                  go_wp2_with fail
                  refine (down_l L4.out).mono ?_
                  rw [HOF.out]
                  rintro e w5 ⟨rfl, rfl⟩
                  go_wp2_with fail
                  refine (changes_l L4.out).mono ?_
                  rw [HCH.out]
                  rintro e w5 ⟨rfl, rfl⟩
                  go_wp2_with fail
                  refine (Did.to (does_x L4.out HIV.out (by omega) c (by have := HSZ.out.1; omega) (by have := HSZ.out.2; omega)) (do_down HOF.out c HK0.out HK3.out)).mono ?_
                  rintro e w6 ⟨rfl, hl, hb⟩
                  have L6 := Lib.hid hl
                  have B6 := Lib.hid (B4.out.trans (hb.mono HBS.out))
                  clear hl hb c0 c1 c2 c3 c4
                  go_wp2_with fail
                  refine (changes_l L6.out).mono ?_
                  rw [HCH.out]
                  rintro e w7 ⟨rfl, rfl⟩
                  go_wp2_with fail
                  refine (start_l L6.out).mono ?_
                  rintro e w8 ⟨rfl, hl, hb⟩
                  have L8 := Lib.hid hl
                  have B8 := Lib.hid (B6.out.trans (hb.mono HBS.out))
                  have I8 := Lib.hid (inv_start HIV.out)
                  clear hl hb
                  go_wp2_with fail
                  refine (list_l L8.out I8.out).mono ?_
                  rintro e w9 ⟨u, ts, rfl, hrow, hperm, hb⟩
                  have HLN := Lib.hid (show ts.length = S4.fs.length by have := hperm.length_eq; rw [List.length_map] at this; exact this)
                  obtain ⟨A9, c9, rfl⟩ := own_slice hrow
                  have L9 := Lib.hid (L8.out.next hb)
                  have B9 := Lib.hid (B8.out.trans ((L8.out.base hb).mono HBS.out))
                  clear hrow hperm hb
                  by_cases hfull : ts.length = 128
                  · have hf : ((ts.length : Int) == 128) = true := by rw [beq_iff_eq]; omega
                    clear hfull
                    go_wp2_with fail
                    refine (down_l L9.out).mono ?_
                    rw [show (startD S4).off = false from rfl]
                    rintro e w10 ⟨rfl, rfl⟩
                    go_wp2_with fail
                    go_ret
                    exact ⟨rfl, B9.out⟩
                  · have hf : ((ts.length : Int) == 128) = false := by rw [beq_eq_false_iff_ne]; omega
                    obtain ⟨S5, hag⟩ := again_ok (S := startD S4) rfl (by show usedF S4.fs + 1 ≤ S4.room; have := HUS.out; have := HRM.out; omega) (by show S4.fs.length ≠ 128; rw [← HLN.out]; exact hfull) HA0.out
                    have HAG := Lib.hid (Did.to (app_l L9.out I8.out (by omega) [97, 103, 97, 105, 110] [120] (by decide) (by decide)) hag)
                    clear hfull hag
                    go_wp2_with fail
                    refine (down_l L9.out).mono ?_
                    rw [show (startD S4).off = false from rfl]
                    rintro e w10 ⟨rfl, rfl⟩
                    go_wp2_with fail
                    refine HAG.out.mono ?_
                    rintro e w11 ⟨rfl, hl, hb⟩
                    have B11 := Lib.hid (B9.out.trans (hb.mono HBS.out))
                    clear hl hb
                    go_wp2_with fail
                    go_ret
                    exact ⟨rfl, B11.out⟩
                · have hdo2 : doD S c = (0, putD (tickD S) l2) := by rw [hdo, chgD, if_neg (by rw [HC.out.at', HC.out.chg]; omega)]
                  have HD2 := Lib.hid (Did.to HDo.out hdo2)
                  have hiv := HID.out
                  rw [hdo2] at hiv
                  have hlt1 : (n : Int) + 1 < at_ := by have := HC.out.lt; omega
                  have hge : decide (at_ ≤ (n : Int) + 1) = false := decide_eq_false (by omega)
                  have HLT := Lib.hid hlt1
                  have HIV := Lib.hid hiv
                  have HU2 := Lib.hid hu2
                  clear HDo hdo hdo2 HID hiv hat1 hlt1
                  go_wp2_with fail
                  refine HD2.out.mono ?_
                  rintro e w4 ⟨rfl, hl, hb⟩
                  have HC2 : Hid (CI w1.heap.size b m at_ (putD (tickD S) l2) (k + 1) (n + 1) w w4) := Lib.hid ⟨hl, HIV.out, HC.out.off, HC.out.at', by show S.chg + 1 = n + 1; rw [HC.out.chg], by have := HLT.out; omega, by have h1 := HU2.out; have h2 := HC.out.used; have h3 := HSZ.out.2; show usedF l2 ≤ _; omega, HC.out.room, HC.out.below.trans (hb.mono HC.out.base), HC.out.base⟩
                  clear hl hb c0 c1 c2 c3 c4
                  go_wp2_with fail
                  refine (down_l HC2.out.live).mono ?_
                  rw [HC2.out.off]
                  rintro e w5 ⟨rfl, rfl⟩
                  go_wp2_with fail
                  refine (down_l HC2.out.live).mono ?_
                  rw [HC2.out.off]
                  rintro e w5 ⟨rfl, rfl⟩
                  go_wp2_with fail
                  refine (changes_l HC2.out.live).mono ?_
                  rw [HC2.out.chg, Int.natCast_add]
                  rintro e w5 ⟨rfl, rfl⟩
                  go_wp2_with fail
                  go_round
                  case rel => exact ⟨k + 1, n + 1, _, by omega, by go_num, by go_num, by omega, HC2⟩
                  case measure => simp [intOf]; omega
        · have dn : decide ((n : Int) < at_) = true := decide_eq_true HC.out.lt
          go_wp2_with fail
          go_ret
          exact ⟨rfl, HC.out.below⟩
end Go.Proofs.Ytdjgjmbgcjhnpaa
