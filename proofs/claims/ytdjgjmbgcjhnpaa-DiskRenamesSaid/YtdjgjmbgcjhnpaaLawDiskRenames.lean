/-
  The walk of DiskRenames.
-/
import Derived.Test.YtdjgjmbgcjhnpaaDkAwake
namespace Go.Proofs.Ytdjgjmbgcjhnpaa
set_option maxRecDepth 100000
open Go.RowKit
theorem app_ok {S : Dk} {n s : Txt} (hr : readyE S n = 0) (hf : fullB S n s = false) (hc : ((S.chg + 1 : Nat) : Int) ≠ S.at_) : appD S n s = (0, putD (tickD S) (addL S.fs n s)) := by
  rw [appD, if_neg (by simp [hr]), hf, if_neg (by simp), chgD, if_neg hc]
def R1 (a : Txt) : Dk := ⟨1048576, [⟨[97], a, 0⟩], false, 0, 0, 1⟩
def R2 (a : Txt) : Dk := ⟨1048576, [⟨[97], a, a.length⟩], false, 0, 0, 2⟩
def R3 (a c : Txt) : Dk := ⟨1048576, [⟨[97], a ++ c, a.length⟩], false, 0, 0, 3⟩
def R4 (a b c : Txt) : Dk := ⟨1048576, [⟨[98], b, 0⟩, ⟨[97], a ++ c, a.length⟩], false, 0, 0, 4⟩
def R5 (a c : Txt) : Dk := ⟨1048576, [⟨[98], a ++ c, a.length⟩], false, 0, 0, 5⟩
def R6 (a : Txt) : Dk := ⟨1048576, [⟨[98], a, a.length⟩], true, 0, 0, 5⟩
def R7 (a : Txt) : Dk := ⟨1048576, [⟨[98], a, a.length⟩], false, 0, 0, 5⟩
theorem full_no {S : Dk} {n s : Txt} (h1 : usedF S.fs + s.length ≤ S.room) (h2 : S.fs.length ≠ 128) : fullB S n s = false := by
  rw [fullB, decide_eq_false (by omega), decide_eq_false h2, Bool.and_false]; rfl
theorem r1_e {a : Txt} (h : a.length ≤ 5000) : appD (newD 1048576) [97] a = (0, R1 a) :=
  app_ok (by decide) (full_no (by show 0 + a.length ≤ 1048576; omega) (by decide)) (by decide)
theorem r2_e (a : Txt) : synD (R1 a) [97] = (0, R2 a) := by
  rw [synD, show findE (R1 a) [97] = 0 from rfl, show setL (R1 a).fs [97] = [⟨[97], a, a.length⟩] from rfl]
  rfl
theorem r3_e {a c : Txt} (h : a.length + c.length ≤ 5000) : appD (R2 a) [97] c = (0, R3 a c) :=
  app_ok rfl (full_no (by show a.length + 0 + c.length ≤ 1048576; omega) (by show 1 ≠ 128; decide)) (by show ((3 : Nat) : Int) ≠ 0; decide)
theorem r4_e {a b c : Txt} (h : a.length + b.length + c.length ≤ 5000) : appD (R3 a c) [98] b = (0, R4 a b c) :=
  app_ok rfl (full_no (by show (a ++ c).length + 0 + b.length ≤ 1048576; rw [List.length_append]; omega) (by show 1 ≠ 128; decide)) (by show ((4 : Nat) : Int) ≠ 0; decide)
theorem r5_e (a b c : Txt) : renD (R4 a b c) [97] [98] = (0, R5 a c) := by
  rw [renD, show readyE (R4 a b c) [98] = 0 from rfl, show findE (R4 a b c) [97] = 0 from rfl, show movL (R4 a b c).fs [97] [98] = [⟨[98], a ++ c, a.length⟩] from rfl]
  rfl
theorem r5_n (a c : Txt) : renD (R5 a c) [97] [98] = (4, R5 a c) := by
  rw [renD, show readyE (R5 a c) [98] = 0 from rfl, show findE (R5 a c) [97] = 4 from rfl]
  rfl
theorem r5_w (a c : Txt) : waitF (R5 a c).fs [98] = c.length := by
  show (a ++ c).length - a.length = c.length
  rw [List.length_append]; omega
theorem r5_u (a c : Txt) : usedF (R5 a c).fs = a.length + c.length := by
  show (a ++ c).length + 0 = _
  rw [List.length_append]; omega
theorem r5_r (a c : Txt) : readD (R5 a c) [98] = a ++ c ∧ findE (R5 a c) [98] = 0 ∧ findE (R5 a c) [97] = 4 := ⟨rfl, rfl, rfl⟩
theorem r6_e (a c : Txt) : crashD (R5 a c) 0 = R6 a := by
  have h1 : stayF 0 ⟨[98], a ++ c, a.length⟩ = a.length := by show a.length + min 0 _ = a.length; omega
  have h2 : cutF 0 ⟨[98], a ++ c, a.length⟩ = ⟨[98], a, a.length⟩ := by rw [cutF, h1, List.take_left]
  show failD 0 (R5 a c) = R6 a
  rw [failD, show (R5 a c).fs.map (cutF 0) = [cutF 0 ⟨[98], a ++ c, a.length⟩] from rfl, h2]
  rfl
theorem r7_e (a : Txt) : startD (R6 a) = R7 a := rfl
theorem r7_r (a : Txt) : readD (R7 a) [98] = a ∧ findE (R7 a) [98] = 0 := ⟨rfl, rfl⟩
theorem inv_one {S : Dk} {n x : Txt} {k : Nat} (h : S.fs = [⟨n, x, k⟩]) (hr : S.room = 1048576) (hn : n.length ≤ 32) (hx : x.length ≤ 5000) (hc : S.chg ≤ 10) : Inv S 10 :=
  ⟨by rw [hr]; exact Nat.le_refl _, by rw [h, hr]; show x.length + 0 ≤ _; omega, by rw [h]; show 1 ≤ 128; decide, fun f hf => by rw [h] at hf; rw [List.mem_singleton.1 hf]; exact hn, hc⟩
theorem inv_R4 {a b c : Txt} (h : a.length + b.length + c.length ≤ 5000) : Inv (R4 a b c) 10 :=
  ⟨Nat.le_refl _, by show b.length + ((a ++ c).length + 0) ≤ 1048576; rw [List.length_append]; omega, by show 2 ≤ 128; decide, fun f hf => by
    rcases List.mem_cons.1 hf with rfl | hf
    · show 1 ≤ 32; decide
    · rw [List.mem_singleton.1 hf]; show 1 ≤ 32; decide, by show 4 ≤ 10; decide⟩
set_option maxHeartbeats 4000000 in
theorem diskRenames_x (a b more : Txt) (w : World) (z0 : a.length ≤ 140737488355328) (z1 : b.length ≤ 140737488355328) (z2 : more.length ≤ 140737488355328) : Calls Try.prog 5 #[.string (mkS a), .string (mkS b), .string (mkS more)] w fun e w' => e = .returned (.bool true) ∧ Below w.heap.size w w' := by
  have hm0 := mkS_size a
  have hm1 := mkS_size b
  have hm2 := mkS_size more
  have HA := Lib.hid (awake_x w)
  go_enter Try.func5, Try.ntmps5
  go_wp2_with fail
  refine HA.out.mono ?_
  rintro e w1 ⟨rfl, hb⟩
  have B1 := Lib.hid hb
  clear hb
  by_cases h5 : 5000 < a.length + b.length + more.length
  · have d1 : decide ((5000 : Int) < (a.length : Int) + (b.length : Int) + (more.length : Int)) = true := decide_eq_true (by omega)
    clear h5
    go_wp2_with fail
    go_ret
    exact ⟨rfl, B1.out⟩
  · have d1 : decide ((5000 : Int) < (a.length : Int) + (b.length : Int) + (more.length : Int)) = false := decide_eq_false (by omega)
    have HT := Lib.hid (show a.length + b.length + more.length ≤ 5000 by omega)
    have s1 : ¬ 9223372036854775807 < a.length + more.length := by omega
    clear h5
    go_wp2_with fail
    refine (new_l 1048576 w1 (by decide) (by decide)).mono ?_
    rintro e w2 ⟨q, m, rfl, hv, hb⟩
    have L2 := Lib.hid hv
    have B2 := Lib.hid (below_next B1.out hb)
    have S2 := Lib.hid B1.out.size
    clear hv hb d1
    go_wp2_with fail
    refine (Did.to (app_l L2.out (inv_new (by decide)) (by decide) [97] a (by decide) (by have := HT.out; omega)) (r1_e (by have := HT.out; omega))).mono ?_
    rintro e w3 ⟨rfl, hv, h3⟩
    have L3 := Lib.hid hv
    have B3 := Lib.hid (B2.out.trans (h3.mono S2.out))
    clear hv h3
    go_wp2_with fail
    refine (Did.to (syn_l L3.out (inv_one (S := R1 a) rfl rfl (by decide) (by have := HT.out; omega) (by show 1 ≤ 10; decide)) (by decide) [97] (by decide)) (r2_e a)).mono ?_
    rintro e w4 ⟨rfl, hv, h3⟩
    have L4 := Lib.hid hv
    have B4 := Lib.hid (B3.out.trans (h3.mono S2.out))
    clear hv h3
    go_wp2_with fail
    refine (Did.to (app_l L4.out (inv_one (S := R2 a) rfl rfl (by decide) (by have := HT.out; omega) (by show 2 ≤ 10; decide)) (by decide) [97] more (by decide) (by have := HT.out; omega)) (r3_e (by have := HT.out; omega))).mono ?_
    rintro e w5 ⟨rfl, hv, h3⟩
    have L5 := Lib.hid hv
    have B5 := Lib.hid (B4.out.trans (h3.mono S2.out))
    clear hv h3
    go_wp2_with fail
    refine (Did.to (app_l L5.out (inv_one (S := R3 a more) rfl rfl (by decide) (by have := HT.out; rw [List.length_append]; omega) (by show 3 ≤ 10; decide)) (by decide) [98] b (by decide) (by have := HT.out; omega)) (r4_e HT.out)).mono ?_
    rintro e w6 ⟨rfl, hv, h3⟩
    have L6 := Lib.hid hv
    have B6 := Lib.hid (B5.out.trans (h3.mono S2.out))
    clear hv h3
    have I5 := Lib.hid (inv_one (S := R5 a more) rfl rfl (by decide) (by have := HT.out; rw [List.length_append]; omega) (by show 5 ≤ 10; decide))
    go_wp2_with fail
    refine (Did.to (ren_l L6.out (inv_R4 HT.out) (by decide) [97] [98] (by decide) (by decide)) (r5_e a b more)).mono ?_
    rintro e w7 ⟨rfl, hv, h3⟩
    have L7 := Lib.hid hv
    have B7 := Lib.hid (B6.out.trans (h3.mono S2.out))
    clear hv h3
    go_wp2_with fail
    refine (Did.to (ren_l L7.out I5.out (by decide) [97] [98] (by decide) (by decide)) (r5_n a more)).mono ?_
    rintro e w8 ⟨rfl, hv, h3⟩
    have L8 := Lib.hid hv
    have B8 := Lib.hid (B7.out.trans (h3.mono S2.out))
    clear hv h3
    go_wp2_with fail
    refine (waits_l L8.out I5.out [98] (by decide)).mono ?_
    rw [r5_w]
    rintro e w9 ⟨rfl, h3⟩
    have L9 := Lib.hid (L8.out.next h3)
    have B9 := Lib.hid (B8.out.trans ((L8.out.base h3).mono S2.out))
    clear h3
    go_wp2_with fail
    refine (used_l L9.out I5.out).mono ?_
    rw [r5_u, Int.natCast_add]
    rintro e w10 ⟨rfl, h3⟩
    have L10 := Lib.hid (L9.out.next h3)
    have B10 := Lib.hid (B9.out.trans ((L9.out.base h3).mono S2.out))
    clear h3
    go_wp2_with fail
    refine (read_l L10.out [98] (by decide)).mono ?_
    rw [(r5_r a more).1, (r5_r a more).2.1]
    rintro e w11 ⟨rfl, h3⟩
    have L11 := Lib.hid (L10.out.next h3)
    have B11 := Lib.hid (B10.out.trans ((L10.out.base h3).mono S2.out))
    clear h3
    go_wp2_with fail
    refine (read_l L11.out [97] (by decide)).mono ?_
    rw [(r5_r a more).2.2]
    rintro e w12 ⟨rfl, h3⟩
    have L12 := L11.out.next h3
    obtain ⟨F, hd⟩ := L12
    have D12 := Lib.hid hd
    have B12 := Lib.hid (B11.out.trans ((L11.out.base h3).mono S2.out))
    clear h3 hd
    go_wp2_with fail
    refine (list_l ⟨F, D12.out⟩ I5.out).mono ?_
    rintro e w13 ⟨v, ts, rfl, hrow, hperm, h3⟩
    have hts : ts = [[98]] := List.perm_singleton.1 hperm
    subst hts
    have RW13 := Lib.hid hrow
    have D13 := Lib.hid (D12.out.next h3)
    have B13 := Lib.hid (B12.out.trans ((D12.out.base h3).mono S2.out))
    clear hrow hperm h3
    go_wp2_with fail
    refine (crash_x D13.out 0 (by rw [r5_u]; have := HT.out; omega)).mono ?_
    rw [r6_e]
    rintro e w14 ⟨rfl, F', hd, ho⟩
    have D14 := Lib.hid hd
    have RW14 := Lib.hid (own_of RW13.out fun k hk => ho.block k (RW13.out.lt k hk).2 (.inr (by have := (RW13.out.lt k hk).1; omega)))
    have B14 := Lib.hid (B13.out.trans ((ho.below (Nat.le_refl _) (by have := D13.out.low; have := D13.out.lt; have := D13.out.lim; omega)).mono S2.out))
    clear hd ho
    go_wp2_with fail
    refine (start_x D14.out).mono ?_
    rw [r7_e]
    rintro e w15 ⟨rfl, hd, hot, ho⟩
    have D15 := Lib.hid hd
    have RW15 := Lib.hid (own_of RW14.out fun k hk => hot k (by have := (RW14.out.lt k hk).1; have := D14.out.lt; omega))
    have B15 := Lib.hid (B14.out.trans ((ho.below (Nat.le_refl _) (by have := D14.out.low; have := D14.out.lt; have := D14.out.lim; omega)).mono S2.out))
    clear hd hot ho
    go_wp2_with fail
    refine (read_x D15.out [98] (by decide)).mono ?_
    rw [(r7_r a).1, (r7_r a).2]
    rintro e w16 ⟨rfl, h3⟩
    have B16 := Lib.hid (B15.out.trans ((D15.out.base h3).mono S2.out))
    obtain ⟨A, cap, hvv, hc0, -, hc⟩ := own_txts (own_below RW15.out h3)
    obtain ⟨ad, rfl, hab, hcl⟩ := hc 0 [98] rfl
    subst hvv
    have hcl2 : w16.cell? (ad.add 0) = some (.string { data := #[98] }) := hcl
    have hcl3 : w16.cell? ad = some (.string { data := #[98] }) := by rw [← hcl2]; congr 1
    have hcat := mkS_cat a more
    clear h3 hc hcl
    go_wp2_with fail
    go_ret
    exact ⟨rfl, B16.out⟩
end Go.Proofs.Ytdjgjmbgcjhnpaa
