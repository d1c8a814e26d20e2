import Derived.Test.YtojpkbonioglbaaGreatDoorMaRtZ
import Derived.Test.YtojpkbonioglbaaGreatDoorMaRtS
import Derived.Test.YtojpkbonioglbaaGreatDoorMaRtT
import Derived.Test.YtojpkbonioglbaaGreatDoorMaRtR
import Derived.Deep.CutBlock
namespace Go.Proofs.YtojpkbonioglbaaGreatDoor.E.T
set_option maxRecDepth 100000
set_option linter.unusedSimpArgs false
open Go.RowKit Go.Shelf
theorem RA0.below {w w' : World} {r : RT} {vr vl vt : Value} (h : RA0 w r vr vl vt) (hb : Below w.heap.size w w') : RA0 w' r vr vl vt := ⟨h.at_.below hb, h.sh, h.k, h.h, h.tl, h.ri⟩
theorem pre_get {a b : List Txt} {x : Txt} : (a ++ b ++ [x])[a.length + b.length]? = some x := by
 rw [List.getElem?_append_right (by rw [List.length_append]; omega), List.length_append, Nat.sub_self]; rfl
structure PF (r : RT) (LL : List Txt) (P Q B M N : Nat) (bt : Txt) : Prop where
 n : N = M + 1
 m : M = P + B
 p : P = Q + 1
 q : 2 ≤ Q
 last : LL[M]? = some (bt ++ [45, 45])
 none : LL[Q]? = some []
 mid : (LL.drop P).take B = rtBack r
 has : hasB LL ([65, 99, 116, 105, 111, 110, 58, 32] ++ r.kind) = true
 four : cntB bt LL = 4
theorem pf_of {r : RT} (h : OkR r) : PF r (rtLines r) (rtPre r).length ((rtPre r).length - 1) (rtBack r).length ((rtPre r).length + (rtBack r).length) (rtLines r).length ([45, 45] ++ bnd (rtBack r)) := by
 obtain ⟨l, hl, h7⟩ := pre_end r
 have hp : (rtPre r).length = l.length + 1 := by rw [hl]; simp
 have hN : (rtLines r).length = (rtPre r).length + (rtBack r).length + 1 := by unfold rtLines; simp only [List.length_append, List.length_cons, List.length_nil]
 refine ⟨hN, rfl, by omega, by omega, ?_, ?_, ?_, ?_, ?_⟩
 ·unfold rtLines
  exact pre_get
 ·unfold rtLines
  rw [List.append_assoc, List.getElem?_append_left (by omega), hl, List.getElem?_append_right (by simp)]
  rw [show (l ++ [[]] : List Txt).length - 1 - l.length = 0 by simp]
  rfl
 ·unfold rtLines
  rw [List.append_assoc, List.drop_left, List.take_left]
 ·unfold hasB
  exact List.any_eq_true.2 ⟨_, act_mem r, by simp⟩
 ·exact four (least_ok (rtBack r) (by have := back_le (r := r); have := ls_le h.ok; omega)).1
theorem cnt_more {b : Txt} {l : List Txt} {k : Nat} {t : Txt} (h : l[k]? = some t) : cntB b (l.take (k + 1)) = cntB b (l.take k) + (if b.isPrefixOf t then 1 else 0) := by
 obtain ⟨h1, rfl⟩ := List.getElem?_eq_some_iff.1 h
 rw [List.take_succ_eq_append_getElem h1, cnt_app]
 congr 1
 unfold cntB
 by_cases hq : b.isPrefixOf l[k] = true
 ·rw [if_pos hq]; simp [hq]
 ·rw [if_neg hq]; simp [hq]
theorem cnt_le (b : Txt) (l : List Txt) : cntB b l ≤ l.length := List.length_filter_le _ _
theorem txts_sub {w : World} {A : Addr} {n c P M : Nat} {l : List Txt} (h : TxtsAt w (.slice (some A) n c) l) (hP : P ≤ M) (hM : M ≤ l.length) : TxtsAt w (.slice (some (A.add P)) (M - P) (c - P)) ((l.drop P).take (M - P)) := by
 obtain ⟨a', c', hv, hc, _, hx⟩ := h
 injection hv with e1 e2 e3
 subst e1 e3
 have hl : ((l.drop P).take (M - P)).length = M - P := by rw [List.length_take, List.length_drop]; omega
 refine ⟨_, c - P, by rw [hl], by rw [hl]; omega, fun e => (by cases e), fun i t hi => ?_⟩
 rw [List.getElem?_take] at hi
 split at hi
 ·rw [List.getElem?_drop] at hi
  obtain ⟨A', hA', hb, hcl⟩ := hx (P + i) t hi
  injection hA' with hA'
  subst hA'
  refine ⟨_, rfl, by rw [add_block]; exact hb, ?_⟩
  rw [Addr.add_add]
  exact hcl
 ·cases hi
structure GB (w5 : World) (l : List Txt) (k : Nat) (full : Bool) (v : Value) (w : World) : Prop where
 own : w.ownsRow w5.heap.size 9 1 v (l.take k).length (strsV (l.take k))
 below : Below w5.heap.size w5 w
 ne : full = false → ∀ t ∈ l.take k, t ≠ []
theorem tw_all {l : List Txt} (h : ∀ t ∈ l, t ≠ []) : (l.takeWhile fun t => t != []) = l := by
 induction l with
 | nil => rfl
 | cons a l ih => rw [List.takeWhile_cons, if_pos (by simpa using h a (by simp)), ih (fun t ht => h t (by simp [ht]))]
theorem tw_at : ∀ {l : List Txt} {k : Nat}, (∀ t ∈ l.take k, t ≠ []) → l[k]? = some [] → (l.takeWhile fun t => t != []) = l.take k
 | [], k, _, h => by cases h
 | a :: l, 0, _, h => by
  injection h with h
  rw [h]; rfl
 | a :: l, k + 1, hn, h => by
  rw [List.take_succ_cons, List.takeWhile_cons, if_pos (by simpa using hn a (by simp)), tw_at (l := l) (k := k) (fun t ht => hn t (by simp [ht])) (by simpa using h)]
set_option maxHeartbeats 16000000 in
theorem reportParts_x (r : RT) (vr vl vt : Value) (w : World) (hA : RA0 w r vr vl vt) (hR : Rdy w) : Calls Tryz.prog 5 #[rtA r vr vl vt] w fun e w' => e = .returned (.bool true) ∧ Below w.heap.size w w' := by
 have HB := Lib.hid (RB.new w r vr vl vt)
 have HA := Lib.hid hA
 have HR := Lib.hid (fun w' (h : Below w.heap.size w w') => hR.below h)
 obtain ⟨ra, rcap, rfl, _, _, _⟩ := hA.at_.e.rc
 obtain ⟨la, lc, rfl⟩ := txts_slice hA.at_.e.ls
 obtain ⟨ta, tc, rfl⟩ := txts_slice hA.at_.t
 clear hA hR
 go_enter Tryz.func5, Tryz.ntmps5
 go_upto_region 1 with fail
 change Code.wp _ _ _ _ (w.alloc (.cells (RE r (.slice ra r.x.rc.length rcap) (.slice la r.x.ls.length lc) (.slice ta r.rp.text.length tc)) 39))
 generalize w.alloc (.cells (RE r (.slice ra r.x.rc.length rcap) (.slice la r.x.ls.length lc) (.slice ta r.rp.text.length tc)) 39) = w1 at *
 go_wp2_with fail
 refine (awake_x _ (HR.out _ HB.out.below)).mono ?_
 rintro e w2 ⟨rfl, hb⟩
 have HB2 := Lib.hid (HB.out.next hb)
 clear hb HB
 go_wp2_with (first | ((with_reducible refine tis_load (ty := 39) (x := .tmp 1) rfl ?_); refine tload ?_ 39 (.tmp 1) rfl w.heap.size 0 39 (RE r (.slice ra r.x.rc.length rcap) (.slice la r.x.ls.length lc) (.slice ta r.rp.text.length tc)) (RE r (.slice ra r.x.rc.length rcap) (.slice la r.x.ls.length lc) (.slice ta r.rp.text.length tc)) _ rfl HB2.out.box Tryz.underlying39 rfl size_rt (fun j _ => by rw [Nat.zero_add]) ?_; (focus (first | rfl | (go_simp; done)))))
 refine (rsmall_x r (.slice ra r.x.rc.length rcap) (.slice la r.x.ls.length lc) (.slice ta r.rp.text.length tc) _ (HA.out.below HB2.out.below)).mono ?_
 rintro e w3 ⟨q, rfl, hq, hb⟩
 have HB3 := Lib.hid (HB2.out.next hb)
 clear hb HB2
 cases q
 ·go_wp2_with fail
  go_ret
  exact ⟨rfl, HB3.out.below⟩
 have HS := Lib.hid (hq rfl)
 clear hq
 go_wp2_with (first | ((with_reducible refine tis_load (ty := 39) (x := .tmp 1) rfl ?_); refine tload ?_ 39 (.tmp 1) rfl w.heap.size 0 39 (RE r (.slice ra r.x.rc.length rcap) (.slice la r.x.ls.length lc) (.slice ta r.rp.text.length tc)) (RE r (.slice ra r.x.rc.length rcap) (.slice la r.x.ls.length lc) (.slice ta r.rp.text.length tc)) _ rfl HB3.out.box Tryz.underlying39 rfl size_rt (fun j _ => by rw [Nat.zero_add]) ?_; (focus (first | rfl | (go_simp; done)))))
 refine (lines_x r (.slice ra r.x.rc.length rcap) (.slice la r.x.ls.length lc) (.slice ta r.rp.text.length tc) _ (rp_of (HA.out.at_.below HB3.out.below) HS.out HA.out.ri (HR.out _ HB3.out.below))).mono ?_
 rintro e w4 ⟨v, rfl, hv, hb, _⟩
 have HB4 := Lib.hid (HB3.out.next hb)
 clear hb HB3
 by_cases hE : rtE r = 0
 rotate_left
 ·rw [if_neg hE] at hv
  have h1 : (rtE r != 0) = true := by simpa using hE
  have h2 : (rtE r == 0) = false := by simpa using hE
  obtain ⟨A, c, rfl⟩ := txts_slice hv
  rw [show ([] : List Txt).length = 0 from rfl]
  clear hE hv
  go_wp2_with fail
  go_ret
  exact ⟨rfl, HB4.out.below⟩
 have HOK := Lib.hid (rt_ok hE)
 rw [if_pos hE] at hv
 rw [hE]
 clear hE
 have HPF := Lib.hid (pf_of HOK.out)
 have HLF := Lib.hid (show (rtLines r).length ≤ 1000000 ∧ ∀ t ∈ rtLines r, t.length ≤ 1000000000 from lines_fit r HOK.out (rp_of (HA.out.at_.below HB4.out.below) HS.out HA.out.ri (HR.out _ HB4.out.below)))
 have HBL := Lib.hid (bnd_len (l := rtBack r) (by have := back_le (r := r); have := ls_le HOK.out.ok; omega))
 have HBK := Lib.hid (show (rtBack r).length ≤ 2048 from Nat.le_trans back_le (ls_le HOK.out.ok))
 have HLS := Lib.hid (ls_le HOK.out.ok)
 obtain ⟨A, c, rfl⟩ := txts_slice hv
 have HV := Lib.hid hv
 clear hv
 generalize rtLines r = LL at HV HPF HLF ⊢
 generalize hNN : LL.length = N at HV HPF HLF ⊢
 have HNN := Lib.hid hNN
 clear hNN
 generalize (rtPre r).length + (rtBack r).length = M at HPF
 generalize (rtPre r).length - 1 = Q at HPF
 generalize (rtPre r).length = P at HPF
 go_upto_region 8 with fail
 have c17 : w4.cell? ⟨w.heap.size, 17, none⟩ = some (.string (mkS r.x.m.ret)) := cellOf HB4.out.box 17
 have c0 : w4.cell? ⟨w.heap.size, 0, none⟩ = some (.string (mkS r.kind)) := cellOf HB4.out.box 0
 go_cut [5] from 12 (fun f wc => f = .bool (rtFull r) ∧ wc = w4)
 case first =>
  have e1 : ((mkS r.kind).toList == [102, 97, 105, 108, 101, 100]) = (r.kind == kFai) := by rw [mkS_toList]; rfl
  have e2 : ((mkS r.x.m.ret).toList == [70, 85, 76, 76]) = (r.x.m.ret == [70, 85, 76, 76]) := by rw [mkS_toList]
  have HF := Lib.hid (show rtFull r = (r.kind == kFai && r.x.m.ret == [70, 85, 76, 76]) from rfl)
  generalize (r.kind == kFai) = z1 at e1 HF
  generalize (r.x.m.ret == [70, 85, 76, 76]) = z2 at e2 HF
  cases z2
  ·cases z1
   ·go_wp2_with fail
    go_meet
    case rel => exact ⟨by rw [HF.out]; rfl, rfl⟩
   ·go_wp2_with fail
    go_meet
    case rel => exact ⟨by rw [HF.out]; rfl, rfl⟩
  ·cases z1
   ·go_wp2_with fail
    go_meet
    case rel => exact ⟨by rw [HF.out]; rfl, rfl⟩
   ·go_wp2_with fail
    go_meet
    case rel => exact ⟨by rw [HF.out]; rfl, rfl⟩
 case rest =>
 obtain ⟨rfl, hw⟩ := hcut
 rw [hw]
 clear hw wc c0 c17
 have HRB := Lib.hid (show rtBack r = if rtFull r then r.x.ls else r.x.ls.takeWhile (fun t => t != []) from rfl)
 generalize rtFull r = full at HRB ⊢
 generalize hln : r.x.ls.length = n0 at *
 have HLN := Lib.hid hln
 clear hln
 have HTL := Lib.hid (HA.out.at_.e.ls.below HB4.out.below)
 have hn0 : n0 ≤ 2048 := by have h1 := HLS.out; have h2 := HLN.out; omega
 go_upto_block 0 with fail
 go_cut [6, 7] from 37 to 64 (fun v _ wc => ∃ (A6 : Option Addr) (c6 : Nat), v = .slice A6 (rtBack r).length c6 ∧ Hid (Below w4.heap.size w4 wc ∧ TxtsAt wc (.slice A6 (rtBack r).length c6) (rtBack r)))
 case first =>
  go_wp2_with fail
  go_loopw [6, 7] (fun v i wr => ∃ (k : Nat) (A6 : Option Addr) (c6 : Nat), k ≤ n0 ∧ v = .slice A6 k c6 ∧ i = .int .i64 k ∧ Hid (GB w4 r.x.ls k full (.slice A6 k c6) wr)) (fun _ i _ => n0 - (intOf i).toNat)
  case atStart => exact ⟨0, none, 0, Nat.zero_le _, rfl, rfl, Lib.hid ⟨strs_nil _ _, Below.refl _ _, fun _ t ht => by cases ht⟩⟩
  case round =>
   obtain ⟨k, A6, c6, hk, rfl, rfl, HG⟩ := hrel
   have c21 : wr.cell? ⟨w.heap.size, 21, none⟩ = some (.slice la n0 lc) := cellOf (HB4.out.next HG.out.below).box 21
   by_cases hlt : k < n0
   ·obtain ⟨t, ht⟩ : ∃ t, r.x.ls[k]? = some t := ⟨_, List.getElem?_eq_getElem (by have := HLN.out; omega)⟩
    obtain ⟨a', c', hv, _, _, hx⟩ := (HTL.out.below HG.out.below)
    injection hv with q1 q2 q3
    subst q1
    obtain ⟨ad, rfl, hab, hat⟩ := hx k t ht
    have HT := Lib.hid ht
    have HL1 := Lib.hid (show (r.x.ls.take (k + 1)).length = k + 1 by rw [List.length_take, HLN.out]; omega)
    have HL0 := Lib.hid (show (r.x.ls.take k).length = k by rw [List.length_take, HLN.out]; omega)
    have HTK := Lib.hid (show r.x.ls.take (k + 1) = r.x.ls.take k ++ [t] by
     obtain ⟨h1, h2⟩ := List.getElem?_eq_some_iff.1 ht
     rw [List.take_succ_eq_append_getElem h1, h2])
    have hcl : wr.cell? (ad.add k) = some (.string (mkS t)) := hat
    clear ht hx hab hat q2 q3
    cases full
    ·by_cases hte : t = []
     ·have e1 : (mkS t).toList.isEmpty = true := by rw [mkS_toList, hte]; rfl
      have HBE := Lib.hid (show rtBack r = r.x.ls.take k by rw [HRB.out, if_neg (by decide), tw_at (HG.out.ne rfl) (by rw [← hte]; exact HT.out)])
      clear hte
      go_wp2_with fail
      go_meet
      case rel =>
       have h := HG.out
       rw [HBE.out, HL0.out]
       exact ⟨A6, c6, rfl, Lib.hid ⟨h.below, by have k0 := own_txts h.own; exact k0⟩⟩
     ·have e1 : (mkS t).toList.isEmpty = false := by rw [mkS_toList]; cases t with | nil => exact absurd rfl hte | cons _ _ => rfl
      have HNE := Lib.hid hte
      clear hte
      go_wp2_with (at_builtin; refine app_more rfl (.tmp 56) (.tmp 63) rfl (.slice A6 k c6) (r.x.ls.take k) rfl (own_below HG.out.own (below_box wr (.cells #[.string (mkS t)] 9))) (by have := HG.out.below.size; simp; omega) (below_next HG.out.below (below_box wr (.cells #[.string (mkS t)] 9))) _ [t] rfl (one_txts wr t) (by rw [HL0.out]; simp; omega) ?_; intro v' w6 k1 k2; rw [← HTK.out] at k1; have k9 := k1; rw [HL1.out] at k9; obtain ⟨A', c', rfl⟩ := own_slice k9; clear k9; have K1 := Lib.hid k1; have K2 := Lib.hid k2; clear k1 k2)
      go_roundw
      case rel => exact ⟨k + 1, A', c', by omega, rfl, by go_num, Lib.hid ⟨K1.out, K2.out, fun h u hu => by
       rw [HTK.out, List.mem_append, List.mem_singleton] at hu
       rcases hu with hu | rfl
       ·exact HG.out.ne h u hu
       ·exact HNE.out⟩⟩
      case measure => simp [intOf]; omega
    ·go_wp2_with (at_builtin; refine app_more rfl (.tmp 56) (.tmp 63) rfl (.slice A6 k c6) (r.x.ls.take k) rfl (own_below HG.out.own (below_box wr (.cells #[.string (mkS t)] 9))) (by have := HG.out.below.size; simp; omega) (below_next HG.out.below (below_box wr (.cells #[.string (mkS t)] 9))) _ [t] rfl (one_txts wr t) (by rw [HL0.out]; simp; omega) ?_; intro v' w6 k1 k2; rw [← HTK.out] at k1; have k9 := k1; rw [HL1.out] at k9; obtain ⟨A', c', rfl⟩ := own_slice k9; clear k9; have K1 := Lib.hid k1; have K2 := Lib.hid k2; clear k1 k2)
     go_roundw
     case rel => exact ⟨k + 1, A', c', by omega, rfl, by go_num, Lib.hid ⟨K1.out, K2.out, fun h => by cases h⟩⟩
     case measure => simp [intOf]; omega
   ·obtain rfl : k = n0 := by omega
    have HL0 := Lib.hid (show r.x.ls.take k = r.x.ls by rw [← HLN.out, List.take_length])
    have HBE := Lib.hid (show rtBack r = r.x.ls by
     rw [HRB.out]
     cases full
     ·rw [if_neg (by decide)]
      have h := HG.out.ne rfl
      rw [HL0.out] at h
      exact tw_all h
     ·rw [if_pos rfl])
    go_wp2_with fail
    go_meet
    case rel =>
     have h := HG.out
     rw [HBE.out, HLN.out]
     exact ⟨A6, c6, rfl, Lib.hid ⟨h.below, by have k0 := own_txts h.own; rw [HL0.out] at k0; exact k0⟩⟩
 case rest =>
 obtain ⟨A6, c6, rfl, HC⟩ := hcut
 clear HRB HTL HLN hn0
 have HB5 := Lib.hid (HB4.out.next HC.out.1)
 have HV5 := Lib.hid (HV.out.below HC.out.1)
 have HT5 := Lib.hid HC.out.2
 clear HC HB4 HV
 generalize hB : (rtBack r).length = B at *
 have HBB := Lib.hid hB
 clear hB
 go_wp2_with (at_builtin; refine app_new rfl (.tmp 65) (.tmp 66) rfl wc.heap.size rfl rfl (.slice A6 B c6) (rtBack r) rfl HT5.out (by have h1 := HBB.out; have h2 := HBK.out; omega) ?_; intro v' w7 k1 k2; obtain ⟨A7, c7, rfl⟩ := strs_slice k1; have K1 := Lib.hid (own_txts k1); have K2 := Lib.hid k2; clear k1 k2)
 refine (boundary_x _ (rtBack r) _ K1.out (by have h1 := HBB.out; have h2 := HBK.out; omega) (HR.out _ (HB5.out.next K2.out).below).r.2).mono ?_
 rintro e w8 ⟨rfl, hb⟩
 have HB8 := Lib.hid ((HB5.out.next K2.out).next hb)
 have HV8 := Lib.hid (HV5.out.below (below_next K2.out hb))
 have HT8 := Lib.hid (HT5.out.below (below_next K2.out hb))
 clear hb K1 K2 HB5 HV5 HT5
 have hcat : (({ data := #[45, 45] } : ByteArray) ++ mkS (bnd (rtBack r))) = mkS ([45, 45] ++ bnd (rtBack r)) := mkS_cat [45, 45] _
 have hbs := mkS_size (bnd (rtBack r))
 have hbl := HBL.out
 have hbtl : ([45, 45] ++ bnd (rtBack r)).length ≤ 20 := by rw [List.length_append]; simp; omega
 generalize [45, 45] ++ bnd (rtBack r) = bt at HPF hcat hbtl
 generalize bnd (rtBack r) = bd at hcat hbs hbl ⊢
 have hbt := mkS_size bt
 have hN := HLF.out.1
 go_wp2_with fail
 go_loopw [9, 10] (fun q i wr => ∃ k : Nat, k ≤ N ∧ q = .int .i64 ((cntB bt (LL.take k) : Nat) : Int) ∧ i = .int .i64 k ∧ wr = w8) (fun _ i _ => N - (intOf i).toNat)
 case atStart => exact ⟨0, Nat.zero_le _, rfl, rfl, rfl⟩
 case round =>
  obtain ⟨k, hk, rfl, rfl, rfl⟩ := hrel
  by_cases hlt : k < N
  ·obtain ⟨a', c', hv, _, _, hx⟩ := HV8.out
   injection hv with q1 q2 q3
   subst q1
   obtain ⟨t, ht⟩ : ∃ t, LL[k]? = some t := ⟨_, List.getElem?_eq_getElem (by omega)⟩
   obtain ⟨ad, rfl, hab, hat⟩ := hx k t ht
   have hms := mkS_size t
   have htl := HLF.out.2 t (List.mem_of_getElem? ht)
   have HCM := Lib.hid (cnt_more (b := bt) ht)
   have hcn : cntB bt (LL.take k) ≤ k := Nat.le_trans (cnt_le _ _) (by rw [List.length_take]; omega)
   generalize cntB bt (LL.take k) = cn at *
   have w1 : IntKind.i64.wrap ((cn : Int) + 1) = ((cn + 1 : Nat) : Int) := (IntWalk.i64_in _ (by omega)).trans (by omega)
   have HPT := Lib.hid (pre_take bt t)
   clear ht hx hab q2 q3
   by_cases hlen : bt.length ≤ t.length
   ·have hl2 : (bt.length : Int) ≤ (t.length : Int) := by omega
    have he : (mkS t).extract 0 bt.length = mkS (t.take bt.length) := by rw [mkS_extract, List.drop_zero]
    have ee : ((mkS (t.take bt.length)).toList == (mkS bt).toList) = (t.take bt.length == bt) := mkS_eqb _ _
    rw [decide_eq_true hlen, Bool.true_and] at HPT
    generalize t.take bt.length = u at he ee HPT
    cases hq : (u == bt)
    ·rw [HPT.out, hq, if_neg (by decide), Nat.add_zero] at HCM
     rw [hq] at ee
     clear hq
     go_wp2_with fail
     go_roundw
     case rel => exact ⟨k + 1, by omega, by rw [HCM.out]; rfl, by go_num, trivial⟩
     case measure => simp [intOf]; omega
    ·rw [HPT.out, hq, if_pos rfl] at HCM
     rw [hq] at ee
     clear hq
     go_wp2_with fail
     go_roundw
     case rel => exact ⟨k + 1, by omega, by rw [HCM.out]; rfl, by go_num, trivial⟩
     case measure => simp [intOf]; omega
   ·have hl2 : ¬ (bt.length : Int) ≤ (t.length : Int) := by omega
    rw [decide_eq_false hlen, Bool.false_and] at HPT
    rw [HPT.out, if_neg (by decide), Nat.add_zero] at HCM
    go_wp2_with fail
    go_roundw
    case rel => exact ⟨k + 1, by omega, by rw [HCM.out]; rfl, by go_num, trivial⟩
    case measure => simp [intOf]; omega
  ·obtain rfl : k = N := by omega
   have HC4 := Lib.hid (show cntB bt (LL.take k) = 4 by
    have h := HPF.out.four
    rwa [List.take_of_length_le (Nat.le_of_eq HNN.out)])
   rw [HC4.out, show ((4 : Nat) : Int) = 4 from rfl]
   obtain ⟨pn, pm, pp, pq, plast, pnone, pmid, phas, _⟩ := HPF.out
   have HMID := Lib.hid pmid
   have HHAS := Lib.hid phas
   obtain ⟨a', c', hv, hcap, _, hx⟩ := HV8.out
   injection hv with q1 q2 q3
   subst q1 q3
   obtain ⟨A0, rfl, habM, hatM⟩ := hx M _ plast
   obtain ⟨A9, hA9, habQ, hatQ⟩ := hx Q _ pnone
   injection hA9 with hA9
   subst hA9
   have hcat3 : (mkS bt ++ ({ data := #[45, 45] } : ByteArray)) = mkS (bt ++ [45, 45]) := mkS_cat bt [45, 45]
   generalize bt ++ [45, 45] = zt at hcat3 hatM
   have e1 : ((mkS zt).toList == (mkS zt).toList) = true := by simp
   have e2 : (mkS []).toList.isEmpty = true := by rw [mkS_toList]; rfl
   have HSUB := Lib.hid (txts_sub HV8.out (P := P) (M := M) (by omega) (by have := HNN.out; omega))
   have hmid2 : (LL.drop P).take (M - P) = rtBack r := by rw [show M - P = B by omega]; exact pmid
   rw [hmid2] at HSUB
   clear hmid2
   have hk1 : k ≤ c := by have := HNN.out; omega
   have wN : IntKind.i64.wrap ((k : Int) - 1) = (M : Int) := (IntWalk.i64_in _ (by omega)).trans (by omega)
   have wP : IntKind.i64.wrap ((M : Int) - (B : Int)) = (P : Int) := (IntWalk.i64_in _ (by omega)).trans (by omega)
   have wQ : IntKind.i64.wrap ((P : Int) - 1) = (Q : Int) := (IntWalk.i64_in _ (by omega)).trans (by omega)
   have h2P : (2 : Int) < (P : Int) := by omega
   have hMk : (M : Int) < (k : Int) := by omega
   have hQk : (Q : Int) < (k : Int) := by omega
   have hPM : (P : Int) ≤ (M : Int) := by omega
   have hMc : (M : Int) ≤ (c : Int) := by omega
   have HMP := Lib.hid (show M - P = B by omega)
   have HMc := Lib.hid (show P ≤ M ∧ M ≤ c ∧ M < k ∧ Q < k by omega)
   clear hx habM habQ q2 hcap plast pnone pmid phas pn pm pp pq
   go_wp2_with fail
   refine (rsame_x _ _ (rtBack r) (rtBack r) _ HSUB.out HT8.out (by have h1 := HBB.out; have h2 := HBK.out; omega)).mono ?_
   rintro e w9 ⟨rfl, m, rfl⟩
   rw [show (rtBack r == rtBack r) = true by simp]
   have HB9 := Lib.hid (HB8.out.next (below_drewN (Below.refl wr.heap.size wr) m))
   have HV9 := Lib.hid (HV8.out.below (below_drewN (Below.refl wr.heap.size wr) m))
   have c0 : (wr.drewN m).cell? ⟨w.heap.size, 0, none⟩ = some (.string (mkS r.kind)) := cellOf HB9.out.box 0
   have s1 := mkS_size r.kind
   have hkk := HS.out.k
   have hcat4 : (({ data := #[65, 99, 116, 105, 111, 110, 58, 32] } : ByteArray) ++ mkS r.kind) = mkS ([65, 99, 116, 105, 111, 110, 58, 32] ++ r.kind) := mkS_cat _ _
   generalize [65, 99, 116, 105, 111, 110, 58, 32] ++ r.kind = kt at hcat4 HHAS
   go_wp2_with fail
   refine (has_x _ LL kt _ HV9.out (by have h1 := HNN.out; omega)).mono ?_
   rintro e w10 ⟨rfl, rfl⟩
   rw [HHAS.out]
   go_wp2_with fail
   go_ret
   exact ⟨rfl, HB9.out.below⟩
end Go.Proofs.YtojpkbonioglbaaGreatDoor.E.T
