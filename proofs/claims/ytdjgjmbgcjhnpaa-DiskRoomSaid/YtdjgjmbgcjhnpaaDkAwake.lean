/-
  The walk of awake.
-/
import Derived.Test.YtdjgjmbgcjhnpaaDkLive
namespace Go.Proofs.Ytdjgjmbgcjhnpaa
set_option maxRecDepth 100000
open Go.RowKit
theorem Did.to {B b m : Nat} {r : Nat × Dk} {c : Nat} {S : Dk} {w : World} {f : FuncId} {args : Array Value} (h : Calls Try.prog f args w (Did B b m r w)) (e : r = (c, S)) :
    Calls Try.prog f args w fun e w' => e = .returned (.int .i64 (c : Int)) ∧ Live B b m S w' ∧ Below B w w' := by subst e; exact h
def KA : Txt := [97]
def KB : Txt := [98]
def K1 : Dk := ⟨10, [⟨[97], [120, 121], 0⟩], false, 0, 0, 1⟩
def K2 : Dk := ⟨10, [⟨[97], [120, 121], 2⟩], false, 0, 0, 2⟩
def K3 : Dk := ⟨10, [⟨[97], [120, 121, 122, 119], 2⟩], false, 0, 0, 3⟩
def K4 : Dk := ⟨10, [⟨[97], [120, 121, 122], 3⟩], true, 0, 0, 3⟩
def K5 : Dk := ⟨10, [⟨[97], [120, 121, 122], 3⟩], false, 0, 0, 3⟩
def K6 : Dk := ⟨10, [⟨[98], [120, 121, 122], 3⟩], false, 0, 0, 4⟩
def K7 : Dk := ⟨10, [⟨[98], [120, 121, 122], 3⟩], false, 1, 9, 0⟩
def K8 : Dk := ⟨10, [⟨[98], [120, 121, 122, 49], 4⟩], true, 0, 0, 1⟩
theorem inv_dec {S : Dk} (h : decide (S.room ≤ 1048576 ∧ usedF S.fs ≤ S.room ∧ S.fs.length ≤ 128 ∧ (∀ f ∈ S.fs, f.name.length ≤ 32) ∧ S.chg ≤ 10) = true) : Inv S 10 := by
  rw [decide_eq_true_eq] at h
  exact ⟨h.1, h.2.1, h.2.2.1, h.2.2.2.1, h.2.2.2.2⟩
theorem k1_e : appD (newD 10) [97] [120, 121] = (0, K1) := by decide
theorem k2_e : synD K1 [97] = (0, K2) := by decide
theorem k3_e : appD K2 [97] [122, 119] = (0, K3) := by decide
theorem k3_w : waitF K3.fs [97] = 2 := by decide
theorem k4_e : crashD K3 1 = K4 := by decide
theorem k4_s : synD K4 [97] = (7, K4) := by decide
theorem k5_e : startD K4 = K5 := by decide
theorem k5_r : readD K5 [97] = [120, 121, 122] ∧ findE K5 [97] = 0 := by decide
theorem k6_e : renD K5 [97] [98] = (0, K6) := by decide
theorem k6_r : remD K6 [97] = (4, K6) := by decide
theorem k6_a : appD K6 [98] [49, 50, 51, 52, 53, 54, 55, 56] = (6, K6) := by decide
theorem k7_e : armD K6 1 9 = K7 := by decide
theorem k8_e : appD K7 [98] [49] = (7, K8) := by decide
theorem k8_u : usedF K8.fs = 4 := by decide
set_option maxHeartbeats 4000000 in
theorem awake_x (w : World) : Calls Try.prog 7 #[] w fun e w' => e = .returned (.bool true) ∧ Below w.heap.size w w' := by
  have i0 := Lib.hid (inv_dec (S := newD 10) (by decide))
  have i1 := Lib.hid (inv_dec (S := K1) (by decide))
  have i2 := Lib.hid (inv_dec (S := K2) (by decide))
  have i3 := Lib.hid (inv_dec (S := K3) (by decide))
  have i4 := Lib.hid (inv_dec (S := K4) (by decide))
  have i5 := Lib.hid (inv_dec (S := K5) (by decide))
  have i6 := Lib.hid (inv_dec (S := K6) (by decide))
  have i7 := Lib.hid (inv_dec (S := K7) (by decide))
  have i8 := Lib.hid (inv_dec (S := K8) (by decide))
  have HN := Lib.hid (new_l 10 w (by decide) (by decide))
  go_enter Try.func7, Try.ntmps7
  go_wp2_with fail
  refine HN.out.mono ?_
  rintro e w1 ⟨b, m, rfl, hl, hb⟩
  have L1 := Lib.hid hl
  have B1 := Lib.hid hb
  clear hl hb
  go_wp2_with fail
  refine (new_no 0 w1 (.inl (by decide))).mono ?_
  rintro e w1' ⟨rfl, rfl⟩
  go_wp2_with fail
  refine (Did.to (app_l L1.out i0.out (by decide) [97] [120, 121] (by decide) (by decide)) k1_e).mono ?_
  rintro e w2 ⟨rfl, hl, hb⟩
  have L2 := Lib.hid hl
  have B2 := Lib.hid (B1.out.trans hb)
  clear hl hb
  go_wp2_with fail
  refine (Did.to (syn_l L2.out i1.out (by decide) [97] (by decide)) k2_e).mono ?_
  rintro e w3 ⟨rfl, hl, hb⟩
  have L3 := Lib.hid hl
  have B3 := Lib.hid (B2.out.trans hb)
  clear hl hb
  go_wp2_with fail
  refine (Did.to (app_l L3.out i2.out (by decide) [97] [122, 119] (by decide) (by decide)) k3_e).mono ?_
  rintro e w4 ⟨rfl, hl, hb⟩
  have L4 := Lib.hid hl
  have B4 := Lib.hid (B3.out.trans hb)
  clear hl hb
  go_wp2_with fail
  refine (waits_l L4.out i3.out [97] (by decide)).mono ?_
  rw [k3_w]
  rintro e w5 ⟨rfl, hb⟩
  have L5 := Lib.hid (L4.out.next hb)
  have B5 := Lib.hid (B4.out.trans (L4.out.base hb))
  clear hb
  go_wp2_with fail
  refine (crash_l L5.out i3.out 1).mono ?_
  rw [k4_e]
  rintro e w6 ⟨rfl, hl, hb⟩
  have L6 := Lib.hid hl
  have B6 := Lib.hid (B5.out.trans hb)
  clear hl hb
  go_wp2_with fail
  refine (Did.to (syn_l L6.out i4.out (by decide) [97] (by decide)) k4_s).mono ?_
  rintro e w7 ⟨rfl, hl, hb⟩
  have L7 := Lib.hid hl
  have B7 := Lib.hid (B6.out.trans hb)
  clear hl hb
  go_wp2_with fail
  refine (start_l L7.out).mono ?_
  rw [k5_e]
  rintro e w8 ⟨rfl, hl, hb⟩
  have L8 := Lib.hid hl
  have B8 := Lib.hid (B7.out.trans hb)
  clear hl hb
  go_wp2_with fail
  refine (read_l L8.out [97] (by decide)).mono ?_
  rw [k5_r.1, k5_r.2, show mkS [120, 121, 122] = { data := #[120, 121, 122] } from rfl]
  rintro e w9 ⟨rfl, hb⟩
  have L9 := Lib.hid (L8.out.next hb)
  have B9 := Lib.hid (B8.out.trans (L8.out.base hb))
  clear hb
  go_wp2_with fail
  refine (Did.to (ren_l L9.out i5.out (by decide) [97] [98] (by decide) (by decide)) k6_e).mono ?_
  rintro e w10 ⟨rfl, hl, hb⟩
  obtain ⟨F, hd⟩ := hl
  have D10 := Lib.hid hd
  have B10 := Lib.hid (B9.out.trans hb)
  clear hd hb
  go_wp2_with fail
  refine (list_l ⟨F, D10.out⟩ i6.out).mono ?_
  rintro e w11 ⟨v, ts, rfl, hrow, hperm, hb⟩
  have hts : ts = [[98]] := List.perm_singleton.1 hperm
  subst hts
  have R11 := Lib.hid hrow
  have D11 := Lib.hid (D10.out.next hb)
  have B11 := Lib.hid (B10.out.trans (D10.out.base hb))
  have Z11 := Lib.hid hb.size
  clear hrow hperm hb
  go_wp2_with fail
  refine (remove_x D11.out [97] (by decide) (by decide) (by decide)).mono ?_
  rw [k6_r]
  rintro e w12 ⟨rfl, -, hb, -⟩
  have hb := hb rfl
  have R12 := Lib.hid (own_below R11.out hb)
  have D12 := Lib.hid (D11.out.next hb)
  have B12 := Lib.hid (B11.out.trans (D11.out.base hb))
  have Z12 := Lib.hid (Nat.le_trans Z11.out hb.size)
  clear hb
  go_wp2_with fail
  refine (append_x D12.out [98] [49, 50, 51, 52, 53, 54, 55, 56] (by decide) (by decide) (by decide) (by decide) (by decide) (by decide)).mono ?_
  rw [k6_a]
  rintro e w13 ⟨rfl, -, -, hb⟩
  have hb := hb rfl
  have R13 := Lib.hid (own_below R12.out hb)
  have D13 := Lib.hid (D12.out.next hb)
  have B13 := Lib.hid (B12.out.trans (D12.out.base hb))
  have Z13 := Lib.hid (Nat.le_trans Z12.out hb.size)
  clear hb
  go_wp2_with fail
  refine (arm_x D13.out 1 9).mono ?_
  rw [k7_e]
  rintro e w14 ⟨rfl, hd, hb⟩
  have D14 := Lib.hid hd
  have R14 := Lib.hid (own_of R13.out fun k hk => hb.block k (R13.out.lt k hk).2 (.inr (by have := (R13.out.lt k hk).1; omega)))
  have B14 := Lib.hid (B13.out.trans (hb.below (Nat.le_refl _) (Nat.le_trans D13.out.low (Nat.le_trans (Nat.le_of_lt D13.out.lt) D13.out.lim))))
  have Z14 := Lib.hid (Nat.le_trans Z13.out hb.size)
  clear hd hb
  go_wp2_with fail
  refine (append_x D14.out [98] [49] (by decide) (by decide) (by decide) (by decide) (by decide) (by decide)).mono ?_
  rw [k8_e]
  rintro e w15 ⟨rfl, hl, hk, -⟩
  have L15 := Lib.hid hl.live
  have R15 := Lib.hid (own_of R14.out fun k hk2 => hk k ⟨by have := (R14.out.lt k hk2).1; omega, (R14.out.lt k hk2).2⟩)
  have B15 := Lib.hid (B14.out.trans hl.below)
  clear hl hk
  go_wp2_with fail
  have T1 := Lib.hid (one_txts w15 [98])
  have HBx := below_box w15 (.cells #[.string (mkS [98])] 9)
  have T2 := Lib.hid (own_txts (own_below R15.out HBx))
  have L16 := Lib.hid (L15.out.next HBx)
  have B16 := Lib.hid (B15.out.trans (L15.out.base HBx))
  clear HBx
  refine (same_x v (.slice (some ⟨w15.heap.size, 0, none⟩) 1 1) [[98]] [[98]] (w15.alloc (.cells #[.string (mkS [98])] 9)) T2.out T1.out (by decide)).mono ?_
  rw [show (([[98]] : List Txt) == [[98]]) = true by decide]
  rintro e w16 ⟨rfl, n, hw⟩
  have L17 := Lib.hid (show Live w.heap.size b m K8 w16 by rw [hw]; exact L16.out.next (below_drewN (Below.refl _ _) n))
  have B17 := Lib.hid (show Below w.heap.size w w16 by rw [hw]; exact below_drewN B16.out n)
  clear hw
  go_wp2_with fail
  refine (down_l L17.out).mono ?_
  rw [show K8.off = true from rfl]
  rintro e w17 ⟨rfl, rfl⟩
  go_wp2_with fail
  refine (used_l L17.out i8.out).mono ?_
  rw [k8_u]
  rintro e w18 ⟨rfl, hb⟩
  have L18 := Lib.hid (L17.out.next hb)
  have B18 := Lib.hid (B17.out.trans (L17.out.base hb))
  clear hb
  go_wp2_with fail
  refine (changes_l L18.out).mono ?_
  rw [show K8.chg = 1 from rfl]
  rintro e w19 ⟨rfl, rfl⟩
  go_wp2_with fail
  go_ret
  exact ⟨rfl, B18.out⟩
end Go.Proofs.Ytdjgjmbgcjhnpaa
