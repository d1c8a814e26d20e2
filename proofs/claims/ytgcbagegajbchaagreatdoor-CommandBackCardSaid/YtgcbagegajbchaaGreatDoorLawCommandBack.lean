/-
  The walk of the law CommandBack.
-/
import Derived.Test.YtgcbagegajbchaaGreatDoorCmArg
import Derived.Deep.Cut
namespace Go.Proofs.YtgcbagegajbchaaGreatDoor
set_option maxRecDepth 100000
open Go.RowKit Go.Shelf
theorem right_short {p : P.Pth} (h : P.rightE p = 0) : p.1.length ≤ 1000000000 ∧ p.2.length ≤ 1000000000 := by
  have := (P.right_ok h).1
  unfold P.longB at this
  simp only [Bool.or_eq_false_iff, decide_eq_false_iff_not] at this
  omega
theorem fit_of {c : CL} (hk : kindV c.verb ≠ 0) (h : bE (kindV c.verb) c = 0) (ha : c.arg.length ≤ 1000000000) : Fit c := by
  have hv : c.verb.length ≤ 1000000000 := by rw [kind_len hk]; decide
  have hle := kind_le c.verb
  generalize kindV c.verb = k at hk h hle
  have hk6 : k = 1 ∨ k = 2 ∨ k = 3 ∨ k = 4 ∨ k = 5 ∨ k = 6 := by omega
  have z : ∀ {c : CL}, c.p = ([], []) → c.r = zeroR → c.p.1.length ≤ 1000000000 ∧ c.p.2.length ≤ 1000000000 ∧ c.r.kind.length ≤ 1000000000 := fun h1 h2 => by rw [h1, h2]; decide
  rcases hk6 with rfl | rfl | rfl | rfl | rfl | rfl
  · have e := (bE_1.1 h).1
    obtain ⟨a1, a2, a3⟩ := z (c := c) (by rw [e]; rfl) (by rw [e]; rfl)
    exact ⟨hv, ha, a1, a2, a3⟩
  · obtain ⟨⟨e, _⟩, hp, _⟩ := bE_2.1 h
    obtain ⟨a1, a2⟩ := right_short hp
    exact ⟨hv, ha, a1, a2, by rw [show c.r = zeroR by rw [show c = _ from e]; rfl]; decide⟩
  · obtain ⟨_, hp, hr⟩ := bE_3.1 h
    obtain ⟨a1, a2⟩ := right_short hp
    have := (rightR_len hr).1
    exact ⟨hv, ha, a1, a2, by omega⟩
  · have e := bE_4.1 h
    obtain ⟨a1, a2, a3⟩ := z (c := c) (by rw [show c = _ from e]; rfl) (by rw [show c = _ from e]; rfl)
    exact ⟨hv, ha, a1, a2, a3⟩
  · have e := (bE_5.1 h).1
    obtain ⟨a1, a2, a3⟩ := z (c := c) (by rw [show c = _ from e]; rfl) (by rw [show c = _ from e]; rfl)
    exact ⟨hv, ha, a1, a2, a3⟩
  · have e := (bE_6.1 h).2.1
    obtain ⟨a1, a2, a3⟩ := z (c := c) (by rw [show c = _ from e]; rfl) (by rw [show c = _ from e]; rfl)
    exact ⟨hv, ha, a1, a2, a3⟩
theorem arg_le (s : Txt) : (cpV s).arg.length ≤ s.length := by
  have h1 := trR_le s
  have h2 : ((trR s).drop (vbV (trR s)).length).length ≤ s.length := by rw [List.length_drop]; omega
  unfold cpV
  split
  · have h3 := cutP_le ((trR s).drop (vbV (trR s)).length)
    have h4 := domV_le (cutP 32 ((trR s).drop (vbV (trR s)).length)).1
    unfold rS
    split
    · show (P.domainV _).length ≤ _
      omega
    · split
      · exact Nat.zero_le _
      · split
        · exact Nat.zero_le _
        · split
          · exact Nat.zero_le _
          · show (cutP 32 _).1.length ≤ _
            omega
  · exact Nat.zero_le _
/-- What is parsed, printed and parsed again. -/
theorem round_x {s : Txt} (hs : s.length ≤ 100000) (hE : cpE s = 0) : Fit (cpV s) ∧ ((prE (cpV s) = 0 ∧ cpE (prV (cpV s)) = 0 ∧ cpV (prV (cpV s)) = cpV s) ∨ prE (cpV s) = 3) := by
  obtain ⟨h1, h2⟩ := cp_right hE
  have h3 := arg_le s
  refine ⟨fit_of h1 h2 (by omega), ?_⟩
  rcases prE_of h1 h2 with h | h
  · obtain ⟨e1, e2⟩ := cp_back h 0
    rw [List.replicate_zero, List.append_nil] at e1 e2
    exact .inl ⟨h, e1, e2⟩
  · exact .inr h
set_option maxHeartbeats 16000000 in
theorem commandBack_x (s : Txt) (c : CL) (b : UInt8) (w : World) (hR : Ready w) (hN : NotR w) (hz : s.length ≤ 140737488355328) (hc : ShortC c) :
    Calls Tryz.prog 3 #[.string (mkS s), .agg #[.string (mkS c.verb), .string (mkS c.arg), .string (mkS c.p.1), .string (mkS c.p.2), .bool c.m.hs, .bool c.m.hf, .bool c.m.hu, .bool c.m.hb, .bool c.m.hp, .int .i64 c.m.sz, .int .i64 c.m.fo, .int .i64 c.m.un, .int .i64 c.m.by_, .int .i64 c.m.pr, .string (mkS c.m.body), .string (mkS c.m.ret), .string (mkS c.m.env), .string (mkS c.m.mode), .string (mkS c.r.no), .string (mkS c.r.kind), .string (mkS c.r.oc)], .int .u8 (b.toNat : Int)] w fun e w' => e = .returned (.bool true) ∧ Below w.heap.size w w' := by
  have K0 := Lib.hid (show KB w w.heap.size c (w.alloc (.cells #[.string (mkS c.verb), .string (mkS c.arg), .string (mkS c.p.1), .string (mkS c.p.2), .bool c.m.hs, .bool c.m.hf, .bool c.m.hu, .bool c.m.hb, .bool c.m.hp, .int .i64 c.m.sz, .int .i64 c.m.fo, .int .i64 c.m.un, .int .i64 c.m.by_, .int .i64 c.m.pr, .string (mkS c.m.body), .string (mkS c.m.ret), .string (mkS c.m.env), .string (mkS c.m.mode), .string (mkS c.r.no), .string (mkS c.r.kind), .string (mkS c.r.oc)] 31)) from ⟨newOf w _, P.below_box w _⟩)
  have HA := Lib.hid (fun w' (h : Below w.heap.size w w') => awake_x w' (hR.below h) (hN.below h))
  have HR := Lib.hid (fun w' (h : Below w.heap.size w w') => hR.below h)
  have HN := Lib.hid (fun w' (h : Below w.heap.size w w') => hN.below h)
  have HS := Lib.hid (fun w => csmall_x c w hc)
  have HF := Lib.hid (csm_fit (c := c))
  generalize csmB c = q at HS HF
  have z1 := mkS_size s
  clear hR hN hc
  go_enter Tryz.func3, Tryz.ntmps3
  go_wp2_with fail
  generalize w.alloc (.cells #[.string (mkS c.verb), .string (mkS c.arg), .string (mkS c.p.1), .string (mkS c.p.2), .bool c.m.hs, .bool c.m.hf, .bool c.m.hu, .bool c.m.hb, .bool c.m.hp, .int .i64 c.m.sz, .int .i64 c.m.fo, .int .i64 c.m.un, .int .i64 c.m.by_, .int .i64 c.m.pr, .string (mkS c.m.body), .string (mkS c.m.ret), .string (mkS c.m.env), .string (mkS c.m.mode), .string (mkS c.r.no), .string (mkS c.r.kind), .string (mkS c.r.oc)] 31) = W0 at K0 ⊢
  generalize hg : w.heap.size = g at K0 ⊢
  have HG := Lib.hid hg
  clear hg
  refine (HA.out _ (by have := K0.out.below; exact this)).mono ?_
  rintro e w1 ⟨rfl, hb⟩
  have K1 := Lib.hid (K0.out.next hb)
  clear hb K0 HA
  by_cases hl : 3000 < s.length
  · have hlI : (3000 : Int) < (s.length : Int) := by omega
    have HB := Lib.hid K1.out.below
    go_wp2_with fail
    go_ret
    exact ⟨rfl, HB.out⟩
  have hlI : ¬ (3000 : Int) < (s.length : Int) := by omega
  go_wp2_with (refine wpList_load_want (by first | rfl | go_simp) 31 _ rfl g 0 31 (CC c) (CC c) _ rfl K1.out.box Tryz.underlying31 rfl size_cmd (fun j _ => by rw [Nat.zero_add]) ?_)
  refine (HS.out _).mono ?_
  rintro e w2 ⟨rfl, hb⟩
  have K2 := Lib.hid (K1.out.next hb)
  clear hb K1 HS
  cases q
  · have HB := Lib.hid K2.out.below
    go_wp2_with fail
    go_ret
    exact ⟨rfl, HB.out⟩
  have HFc := Lib.hid (HF.out rfl)
  have HP := Lib.hid (fun w hR hN => cparse_x s w (by omega) hR hN)
  unfold CpPost at HP
  have HRX := Lib.hid (fun hE => round_x (s := s) (by omega) hE)
  have HQ := Lib.hid (fun (u : Txt) (hu : u.length ≤ 100000) w hR hN => cparse_x u w hu hR hN)
  unfold CpPost at HQ
  clear HF
  generalize cpE s = E at HP HRX
  generalize cpV s = X at HP HRX
  clear hl hz
  go_wp2_with fail
  refine (HP.out _ (HR.out _ K2.out.below) (HN.out _ K2.out.below)).mono ?_
  rintro e w3 ⟨rfl, hb⟩
  have K3 := Lib.hid (K2.out.next hb)
  clear hb K2 HP
  have heX : ∀ w, (Op.equalIn 10000 31 (.agg (CC X)) (.agg (CC X))).run Tryz.prog w = .ok true w := fun w => (eqCmd X X w).trans (by rw [eqCL_iff.2 rfl])
  go_upto_if 34 with (first | (refine wpList_store_blk rfl 31 _ _ rfl w3.heap.size 0 31 (CC zeroC) (CC X) (CC X) rfl rfl (newOf w3 _) size_cmd (one_CC _) (Nat.le_of_eq rfl) (whole_CC zeroC _) ?_; intro w4 hB2 hA2; have K4 := Lib.hid (K3.out.sto hA2); have K7 := Lib.hid (KB.new K3.out.below hB2 hA2); clear hB2 hA2 K3) | fail)
  generalize w3.heap.size = b7 at K7 ⊢
  go_cut [] from 7 (fun wc => Hid (KB w g c wc))
  case first =>
    by_cases hE : E = 0
    · subst hE
      obtain ⟨hfx, hor⟩ := HRX.out rfl
      have HPX := Lib.hid (fun w hR hN => cprint_x X w hfx hR hN)
      unfold CrPost at HPX
      have hlen := prV_len (c := X)
      have HQX := Lib.hid (fun w hR hN => HQ.out (prV X) (by omega) w hR hN)
      have HOR := Lib.hid hor
      clear hor hfx hlen HRX HQ
      generalize cpE (prV X) = e2 at HQX HOR
      generalize cpV (prV X) = Y at HQX HOR
      generalize prE X = pe at HPX HOR
      generalize prV X = t at HPX HQX
      go_wp2_with (refine wpList_load_blk rfl 31 _ rfl b7 0 31 (CC X) (CC X) _ rfl K7.out.box Tryz.underlying31 rfl size_cmd (fun j _ => by rw [Nat.zero_add]) ?_)
      refine (HPX.out _ (HR.out _ K4.out.below) (HN.out _ K4.out.below)).mono ?_
      rintro e w5 ⟨rfl, hb⟩
      have K4 := Lib.hid (K4.out.next hb)
      have K7 := Lib.hid (K7.out.next hb)
      clear hb HPX
      go_wp2_with fail
      refine (HQX.out _ (HR.out _ K4.out.below) (HN.out _ K4.out.below)).mono ?_
      rintro e w6 ⟨rfl, hb⟩
      have K4 := Lib.hid (K4.out.next hb)
      have K7 := Lib.hid (K7.out.next hb)
      clear hb HQX
      rcases HOR.out with ⟨h1, h2, h3⟩ | h1
      · subst h1
        subst h2
        subst h3
        clear HOR
        go_wp2_with (first | (refine wpList_store_blk rfl 31 _ _ rfl w6.heap.size 0 31 (CC zeroC) (CC Y) (CC Y) rfl rfl (newOf w6 _) size_cmd (one_CC _) (Nat.le_of_eq rfl) (whole_CC zeroC _) ?_; intro w7 hB2 hA2; have K4 := Lib.hid (K4.out.sto hA2); have K7 := Lib.hid (K7.out.sto hA2)) | (refine wpList_load_want (by first | rfl | go_simp) 31 _ rfl w6.heap.size 0 31 (CC Y) (CC Y) _ rfl hB2 Tryz.underlying31 rfl size_cmd (fun j _ => by rw [Nat.zero_add]) ?_) | (refine wpList_load_want (by first | rfl | go_simp) 31 _ rfl b7 0 31 (CC Y) (CC Y) _ rfl K7.out.box Tryz.underlying31 rfl size_cmd (fun j _ => by rw [Nat.zero_add]) ?_))
        go_meet
        case rel => exact K4
      · subst h1
        clear HOR
        go_wp2_with (first | (refine wpList_store_blk rfl 31 _ _ rfl w6.heap.size 0 31 (CC zeroC) (CC Y) (CC Y) rfl rfl (newOf w6 _) size_cmd (one_CC _) (Nat.le_of_eq rfl) (whole_CC zeroC _) ?_; intro w7 hB2 hA2; have K4 := Lib.hid (K4.out.sto hA2)) | fail)
        go_meet
        case rel => exact K4
    · have hEb : (E == 0) = false := beq_eq_false_iff_ne.2 hE
      go_wp2_with fail
      go_meet
      case rel => exact K4
  case rest =>
    have K8 := Lib.hid hcut.out
    clear hcut K4 K7 HRX heX
    have hec : ∀ w, (Op.equalIn 10000 31 (.agg (CC c)) (.agg (CC c))).run Tryz.prog w = .ok true w := fun w => (eqCmd c c w).trans (by rw [eqCL_iff.2 rfl])
    have HPC := Lib.hid (fun w hR hN => cprint_x c w HFc.out hR hN)
    unfold CrPost at HPC
    have hlen := prV_len (c := c)
    have HNO := Lib.hid (fun h => prV_no (c := c) h)
    have HBK := Lib.hid (fun (h : prE c = 0) n => cp_back h n)
    generalize prE c = pe at HPC HNO HBK
    generalize prV c = t at HPC HNO HBK hlen
    go_wp2_with (refine wpList_load_blk rfl 31 _ rfl g 0 31 (CC c) (CC c) _ rfl K8.out.box Tryz.underlying31 rfl size_cmd (fun j _ => by rw [Nat.zero_add]) ?_)
    refine (HPC.out _ (HR.out _ K8.out.below) (HN.out _ K8.out.below)).mono ?_
    rintro e w9 ⟨rfl, hb⟩
    have K9 := Lib.hid (K8.out.next hb)
    clear hb HPC K8
    by_cases hpe : pe = 0
    rotate_left
    · have d9 : (pe != 0) = true := bne_iff_ne.2 hpe
      obtain rfl := HNO.out hpe
      have e0 : (mkS ([] : Txt)).toList = [] := mkS_toList []
      have HB := Lib.hid K9.out.below
      clear hpe
      go_wp2_with fail
      go_ret
      exact ⟨rfl, HB.out⟩
    subst hpe
    have HBZ := Lib.hid (HBK.out rfl)
    clear HNO HBK
    have hbt := b.toNat_lt
    have hm1 : Int.tmod (b.toNat : Int) 5 = ((b.toNat % 5 : Nat) : Int) := by rw [Int.tmod_eq_emod_of_nonneg (by omega)]; omega
    have hm2 : (b.toNat : Int) % 5 = ((b.toNat % 5 : Nat) : Int) := by omega
    have hN5 : b.toNat % 5 < 5 := Nat.mod_lt _ (by decide)
    generalize b.toNat % 5 = N at hm1 hm2 hN5
    go_wp2_with fail
    go_loop [15, 13] (fun i u => ∃ j : Nat, j ≤ N ∧ i = .int .i64 j ∧ u = .string (mkS (t ++ List.replicate j 32))) (fun i _ => 5 - (intOf i).toNat)
    case atStart => exact ⟨0, Nat.zero_le _, rfl, by simp⟩
    case round =>
      obtain ⟨j, hj, rfl, rfl⟩ := hrel
      have zz : (mkS (t ++ List.replicate j 32)).size = t.length + j := by rw [mkS_size]; simp
      have hu1 : mkS (t ++ List.replicate j 32) ++ { data := #[32] } = mkS (t ++ List.replicate (j + 1) 32) := by
        rw [show ({ data := #[32] } : ByteArray) = mkS [32] from rfl, mkS_cat, List.append_assoc]
        congr 2
        exact (List.replicate_succ' ..).symm
      have y1 : ¬ 9223372036854775807 < t.length + j + 1 := by omega
      by_cases hlt : j < N
      · have hlI : (j : Int) < (N : Int) := by omega
        generalize t ++ List.replicate j 32 = u0 at zz hu1 ⊢
        generalize hu2 : t ++ List.replicate (j + 1) 32 = u1 at hu1
        have HU := Lib.hid hu2
        clear hu2
        go_wp2_with fail
        go_round
        case rel => exact ⟨j + 1, by omega, by go_num, by rw [HU.out]⟩
        case measure => simp [intOf]; omega
      · obtain rfl : j = N := by omega
        have hlI : ¬ (j : Int) < (j : Int) := by omega
        have HQC := Lib.hid (fun w hR hN => HQ.out (t ++ List.replicate j 32) (by simp; omega) w hR hN)
        rw [(HBZ.out j).1, (HBZ.out j).2] at HQC
        generalize t ++ List.replicate j 32 = u0 at zz hu1 HQC ⊢
        clear HBZ HQ
        go_wp2_with fail
        refine (HQC.out _ (HR.out _ K9.out.below) (HN.out _ K9.out.below)).mono ?_
        rintro e w10 ⟨rfl, hb⟩
        have K10 := Lib.hid (K9.out.next hb)
        clear hb HQC
        go_wp2_with (first | (refine wpList_store_blk rfl 31 _ _ rfl w10.heap.size 0 31 (CC zeroC) (CC c) (CC c) rfl rfl (newOf w10 _) size_cmd (one_CC _) (Nat.le_of_eq rfl) (whole_CC zeroC _) ?_; intro w11 hB2 hA2; have K11 := Lib.hid (K10.out.sto hA2)) | (refine wpList_load_want (by first | rfl | go_simp) 31 _ rfl w10.heap.size 0 31 (CC c) (CC c) _ rfl hB2 Tryz.underlying31 rfl size_cmd (fun j _ => by rw [Nat.zero_add]) ?_) | (refine wpList_load_want (by first | rfl | go_simp) 31 _ rfl g 0 31 (CC c) (CC c) _ rfl K11.out.box Tryz.underlying31 rfl size_cmd (fun j _ => by rw [Nat.zero_add]) ?_))
        have HB := Lib.hid K11.out.below
        go_ret
        exact ⟨rfl, HB.out⟩
end Go.Proofs.YtgcbagegajbchaaGreatDoor
