/-
  The walk of JudgeNotify.
-/
import Derived.Test.YtcedhgihebollaaGreatDoorMaEvD
import Derived.Test.YtcedhgihebollaaGreatDoorJgTry
import Derived.Test.YtcedhgihebollaaGreatDoorJgFactB
import Derived.Test.YtcedhgihebollaaGreatDoorJgRow
import Derived.Deep.Cut
namespace Go.Proofs.YtcedhgihebollaaGreatDoor.E.J
set_option maxRecDepth 100000
open Go.RowKit Go.Shelf
theorem PB.setv {W w : World} {p : PJ} {x : EM} {vr vl : Value} (h : PB W p x vr vl w) (v : Value) : PB W p x v vl (w.setCell ⟨W.heap.size + 1, 19, none⟩ v) :=
  ⟨(Below.heap_setCell w ⟨W.heap.size + 1, 19, none⟩ v W.heap.size (fun e => by simp at e)).trans h.pb, setOf h.mb 19 v, Below.setCell h.below (p := ⟨W.heap.size + 1, 19, none⟩) (Nat.le_succ _) v⟩
theorem PB.setg {W w : World} {p : PJ} {x : EM} {vr vl : Value} (h : PB W p x vr vl w) {g : Nat} (hg : W.heap.size + 1 < g) (i : Nat) (v : Value) : PB W p x vr vl (w.setCell ⟨g, i, none⟩ v) :=
  ⟨(Below.heap_setCell w ⟨g, i, none⟩ v W.heap.size (fun e => by simp at e; omega)).trans h.pb, (Below.heap_setCell w ⟨g, i, none⟩ v (W.heap.size + 1) (fun e => by simp at e; omega)).trans h.mb, Below.setCell h.below (p := ⟨g, i, none⟩) (by show W.heap.size ≤ g; omega) v⟩
set_option linter.unusedSimpArgs false
set_option maxHeartbeats 16000000 in
theorem notify_x (hA : ∀ w, Calls Tryz.prog 7 #[] w fun e w' => e = .returned (.bool true) ∧ Below w.heap.size w w') (p : PJ) (x : EM) (vr vl : Value) (now o : Int) (no : Txt) (w : World) (hE : EAt w x vr vl) (hS : ShE x) (hR : Rdy w) :
    Calls Tryz.prog 5 #[plA p, msA x vr vl, .int .i64 now, .int .i64 o, .string (mkS no)] w fun e w' => e = .returned (.bool true) ∧ Below w.heap.size w w' := by
  have HE := Lib.hid hE
  obtain ⟨ra, rcap, rfl, hrc1, hrc0, hrc⟩ := hE.rc
  have H0 := Lib.hid (PB.new w p x (.slice ra x.rc.length rcap) vl)
  have HA := Lib.hid hA
  have HS := Lib.hid hS
  have HR := Lib.hid hR
  clear hA hE hS hR hrc1 hrc0 hrc
  generalize hrn : x.rc.length = rn at *
  have HRN := Lib.hid hrn
  clear hrn
  go_enter Tryz.func5, Tryz.ntmps5
  go_wp2_with fail
  refine (HA.out _).mono ?_
  rintro r w1 ⟨rfl, hb⟩
  have H1 := Lib.hid (H0.out.next hb)
  clear hb H0 HA
  go_wp2_with (((with_reducible refine jis_load (ty := 33) (x := .tmp 6) rfl ?_); refine jload ?_ 33 (.tmp 6) rfl (w.heap.size + 1) 0 33 (EC x (.slice ra rn rcap) vl) (EC x (.slice ra rn rcap) vl) _ rfl H1.out.mb Tryz.underlying33 rfl size_msg (fun j _ => by rw [Nat.zero_add]) ?_; (focus (first | rfl | (go_simp; done)))))
  refine (msmall_x x _ vl _ (HE.out.below H1.out.below) HS.out).mono ?_
  rintro r w2 ⟨q, rfl, hq, hb⟩
  have H2 := Lib.hid (H1.out.next hb)
  have HQ := Lib.hid hq
  clear hb H1 hq
  cases q with
  | false =>
    go_wp2_with fail
    go_ret
    exact ⟨rfl, H2.out.below⟩
  | true =>
  have HF := Lib.hid (HQ.out rfl)
  clear HQ
  go_wp2_with (((with_reducible refine jis_load (ty := 23) (x := .tmp 5) rfl ?_); refine jload ?_ 23 (.tmp 5) rfl (w.heap.size) 0 23 #[.int .i64 p.base, .int .i64 p.most, .int .i64 p.life, .int .i64 p.warn] #[.int .i64 p.base, .int .i64 p.most, .int .i64 p.life, .int .i64 p.warn] _ rfl H2.out.pb Tryz.underlying23 rfl jsize_plan (fun j _ => by rw [Nat.zero_add]) ?_; (focus (first | rfl | (go_simp; done)))))
  refine (jright_x p _).mono ?_
  rintro r w3 ⟨rfl, hb⟩
  have H3 := Lib.hid (H2.out.next hb)
  clear hb H2
  by_cases hok : okP p = true
  case neg =>
    rw [if_neg hok]
    go_wp2_with fail
    go_ret
    exact ⟨rfl, H3.out.below⟩
  rw [if_pos hok]
  have HOK := Lib.hid hok
  clear hok
  go_wp2_with (((with_reducible refine jis_load (ty := 33) (x := .tmp 6) rfl ?_); refine jload ?_ 33 (.tmp 6) rfl (w.heap.size + 1) 0 33 (EC x (.slice ra rn rcap) vl) (EC x (.slice ra rn rcap) vl) _ rfl H3.out.mb Tryz.underlying33 rfl size_msg (fun j _ => by rw [Nat.zero_add]) ?_; (focus (first | rfl | (go_simp; done)))))
  refine (right_x x _ vl _ (HE.out.below H3.out.below) HF.out.fit (HR.out.below H3.out.below)).mono ?_
  rintro r w4 ⟨rfl, hb⟩
  have H4 := Lib.hid (H3.out.next hb)
  clear hb H3
  by_cases hen : enE x = 0
  case neg =>
    have he : (enE x == 0) = false := by simpa using hen
    have he2 : (enE x != 0) = true := by simpa using hen
    clear hen
    go_wp2_with fail
    go_ret
    exact ⟨rfl, H4.out.below⟩
  rw [hen]
  have HEN := Lib.hid (en_iff.1 hen)
  clear hen
  rcases Bool.eq_false_or_eq_true (decide (now < 0)) with n1 | n1
  · go_wp2_with fail
    go_ret
    exact ⟨rfl, H4.out.below⟩
  rcases Bool.eq_false_or_eq_true (decide (1099511627776 < now)) with n2 | n2
  · go_wp2_with fail
    go_ret
    exact ⟨rfl, H4.out.below⟩
  have HW := Lib.hid (⟨by have := of_decide_eq_false n1; omega, by have := of_decide_eq_false n2; omega⟩ : 0 ≤ now ∧ now ≤ 1099511627776)
  go_upto_region 5 with fail
  clear n1 n2
  have e0 : ((mkS no).toList == []) = (no == []) := by rw [mkS_toList]
  have ee : (mkS no).toList.isEmpty = (no == []) := by rw [mkS_toList]; cases no <;> rfl
  have e1 : ((mkS no).toList == [78]) = (no == [78]) := by rw [mkS_toList]
  have e2 : ((mkS no).toList == [83]) = (no == [83]) := by rw [mkS_toList]
  have e3 : ((mkS no).toList == [70]) = (no == [70]) := by rw [mkS_toList]
  have e4 : ((mkS no).toList == [68]) = (no == [68]) := by rw [mkS_toList]
  have HNO := Lib.hid (show ((no == []) || ((no == [78]) || ((no == [83]) || ((no == [70]) || (no == [68]))))) = true → no = [] ∨ no = [78] ∨ no = [83] ∨ no = [70] ∨ no = [68] by simp)
  generalize hz0 : (no == ([] : Txt)) = z0 at *
  generalize hz1 : (no == [78]) = z1 at *
  generalize hz2 : (no == [83]) = z2 at *
  generalize hz3 : (no == [70]) = z3 at *
  generalize hz4 : (no == [68]) = z4 at *
  have HZ := Lib.hid (And.intro hz0 (And.intro hz1 (And.intro hz2 (And.intro hz3 hz4))))
  clear hz0 hz1 hz2 hz3 hz4
  go_cut [57] from 40 (fun c wc => c = .bool (!(z0 || (z1 || (z2 || (z3 || z4))))) ∧ Hid (PB w p x (.slice ra rn rcap) vl wc))
  case first =>
    cases z0
    rotate_left
    · go_wp2_with fail
      go_meet
      case rel => exact ⟨rfl, H4⟩
    cases z1
    rotate_left
    · go_wp2_with fail
      go_meet
      case rel => exact ⟨rfl, H4⟩
    cases z2
    rotate_left
    · go_wp2_with fail
      go_meet
      case rel => exact ⟨rfl, H4⟩
    cases z3
    rotate_left
    · go_wp2_with fail
      go_meet
      case rel => exact ⟨rfl, H4⟩
    cases z4
    · go_wp2_with fail
      go_meet
      case rel => exact ⟨rfl, H4⟩
    · go_wp2_with fail
      go_meet
      case rel => exact ⟨rfl, H4⟩
  case rest =>
  obtain ⟨rfl, H5⟩ := hcut
  clear H4
  rcases Bool.eq_false_or_eq_true (z0 || (z1 || (z2 || (z3 || z4)))) with hz | hz
  rotate_left
  · rw [hz]
    go_wp2_with fail
    go_ret
    exact ⟨rfl, H5.out.below⟩
  rw [hz]
  have HN := Lib.hid (HNO.out hz)
  clear hz HNO e0 ee e1 e2 e3 e4
  go_upto_region 7 with fail
  have hr1 := HEN.out.rc
  rw [HRN.out] at hr1
  obtain ⟨A, hra⟩ : ∃ A, ra = some A := by
    obtain ⟨a, c, hv, _, _, hx⟩ := HE.out.rc
    have hi : 0 < x.rc.length := by have := HEN.out.rc.1; omega
    obtain ⟨A, hA, _⟩ := hx 0 _ (List.getElem?_eq_getElem hi)
    injection hv with e1 _ _
    exact ⟨A, e1.trans hA⟩
  subst hra
  have HRA := Lib.hid (show RcsAt w (.slice (some A) x.rc.length rcap) x.rc by rw [HRN.out]; exact HE.out.rc)
  have HAB := Lib.hid (show A.block < w.heap.size from by
    obtain ⟨a, c, hv, _, _, hx⟩ := HE.out.rc
    have hi : 0 < x.rc.length := by have := HEN.out.rc.1; omega
    obtain ⟨A', hA, hl, _⟩ := hx 0 _ (List.getElem?_eq_getElem hi)
    injection hv with e1 _ _
    rw [hA] at e1
    injection e1 with e1
    rw [e1]; exact hl)
  obtain ⟨i0, hi, hz0, hz1, hz2⟩ := info_parts Tryz.infoRc
  have cr : wc.cell? ⟨w.heap.size + 1, 19, none⟩ = some (.slice (some A) rn rcap) := cellOf H5.out.mb 19
  have crA : (wc.alloc (.cells #[] 50)).cell? ⟨w.heap.size + 1, 19, none⟩ = some (.slice (some A) rn rcap) := cellOf (((below_box wc _).block _ (ltOf H5.out.mb)).trans H5.out.mb) 19
  go_wp2_with (at_builtin; refine wpList_append_own_at _ rfl (.tmp 58) (.tmp 60) 30 rfl wc.heap.size 50 i0 _ 5 80 Tryz.underlying30 hi hz0 hz1 hz2 rfl (by decide) _ 0 [] rfl (World.ownsRow_lit wc #[] 0 (Nat.le_refl _) (Nat.zero_le _) rfl) A rn rcap (rcV x.rc) rfl ?c1 ?c2 ?c3 ?c4 ?c5 ?c6 ?_)
  case c1 => rw [rcV_length, HRN.out]
  case c2 => exact fun j u hj => ((below_box wc _).cell (by rw [add_block]; exact Nat.lt_of_lt_of_le HAB.out H5.out.below.size)).trans (jrcs_cells (HRA.out.below H5.out.below) j u hj)
  case c3 => exact jrcV_one _
  case c4 => unfold maxLen; omega
  case c5 => omega
  case c6 => simp
  intro v' w5 hown hgrow _ _
  obtain ⟨g, cap, rfl, hg⟩ := row_some (by simpa using hown) hr1.1
  have hb5 : Below wc.heap.size wc w5 := ((Below.refl _ wc).alloc (Nat.le_refl _) _).grown hgrow (by simp) (by intro k hk; simp [Value.ownBlock] at hk; omega)
  have HRW := Lib.hid (show w5.ownsRow wc.heap.size 50 5 (.slice (some ⟨g, 0, none⟩) x.rc.length cap) x.rc.length (rcV x.rc) by rw [HRN.out]; simpa using hown)
  have HG := Lib.hid (show w.heap.size + 1 < g from Nat.lt_of_lt_of_le (ltOf H5.out.mb) hg)
  have H6 := Lib.hid (H5.out.next hb5)
  have c19 : w5.cell? ⟨w.heap.size + 1, 19, none⟩ = some (.slice (some A) rn rcap) := cellOf H6.out.mb 19
  have f19 := freeOf H6.out.mb 19
  clear hown hgrow hb5 cr crA hi hz0 hz1 hz2 hg
  go_upto_region 8 with fail
  have H7 := Lib.hid (H6.out.setv (.slice (some ⟨g, 0, none⟩) rn cap))
  have HR7 := Lib.hid (own_of (w' := w5.setCell ⟨w.heap.size + 1, 19, none⟩ (.slice (some ⟨g, 0, none⟩) rn cap)) HRW.out fun k hk => Below.heap_setCell _ _ _ k (fun e => by have hk' : g = k := (by simpa [Value.ownBlock] using hk); have e' : k = w.heap.size + 1 := e; have := HG.out; omega))
  clear c19 f19 H6 H5 HRW
  generalize w5.setCell ⟨w.heap.size + 1, 19, none⟩ (.slice (some ⟨g, 0, none⟩) rn cap) = w6 at *
  obtain ⟨⟨c2, hc2⟩, f2, hBg, hgl⟩ := row_lt HR7.out HEN.out.rc.1
  have c19 : w6.cell? ⟨w.heap.size + 1, 19, none⟩ = some (.slice (some ⟨g, 0, none⟩) rn cap) := cellOf H7.out.mb 19
  have hrl : (0 : Int) < (rn : Int) := by omega
  go_upto_region 9 with fail
  have H8 := Lib.hid (show PB w p (withNo x no) (.slice (some ⟨g, 0, none⟩) rn cap) vl (w6.setCell ⟨g, 2, none⟩ (.string (mkS no))) from by have k := H7.out.setg HG.out 2 (.string (mkS no)); exact ⟨k.pb, k.mb, k.below⟩)
  have hl8 : (withNo x no).rc.length = rn := (setNo_len _ _).trans HRN.out
  have HE8 := Lib.hid (show EAt (w6.setCell ⟨g, 2, none⟩ (.string (mkS no))) (withNo x no) (.slice (some ⟨g, 0, none⟩) rn cap) vl from ⟨by have k := own_rcs (set_row HR7.out HEN.out.rc.1 no); rw [setNo_len, HRN.out] at k; exact k, HE.out.ls.below H8.out.below⟩)
  have HL8 := Lib.hid (show (withNo x no).rc.length ≤ 8 by rw [hl8]; exact hr1.2)
  clear hc2 f2 hBg hgl c19 H7 HR7 hl8 hrl hr1 HRA HAB
  generalize w6.setCell ⟨g, 2, none⟩ (.string (mkS no)) = w7 at *
  have HB := Lib.hid (bd_with (no := no) (ok_bd HEN.out))
  have HM := Lib.hid (may_zero (x := withNo x no) (t := ⟨0, [82], 0, x.rel, 0⟩) HOK.out HW.out rfl ⟨Int.le_refl _, by have h := HEN.out.rc.1; show (0 : Int) < ((setNo x.rc no).length : Int); rw [setNo_len]; omega⟩)
  have kT := try_x p (withNo x no) (.slice (some ⟨g, 0, none⟩) rn cap) vl ⟨0, [82], 0, x.rel, 0⟩ now o w7 HE8.out (by have := HL8.out; omega) HB.out (Int.le_refl 0) (show (0 : Int) ≤ 7 by decide) (Int.le_refl 0)
  have hS := try_said (o := o) HM.out
  rw [no_with HEN.out.rc.1] at hS
  obtain ⟨F, hF⟩ : ∃ F, F = (comeJ (withNo x no) now && (decide (o = 0) || decide (o = 4))) := ⟨_, rfl⟩
  rw [← hF] at hS
  have HFV := Lib.hid hF
  have HTE := Lib.hid (show (o = 2 ∨ o = 3 ∨ o = 5 ∨ o = 4 ∨ o = 0) ∧ tryE p (withNo x no) ⟨0, [82], 0, x.rel, 0⟩ now o = 0 ∨ ¬ (o = 2 ∨ o = 3 ∨ o = 5 ∨ o = 4 ∨ o = 0) ∧ tryE p (withNo x no) ⟨0, [82], 0, x.rel, 0⟩ now o = 10 by
    by_cases ho : o = 2 ∨ o = 3 ∨ o = 5 ∨ o = 4 ∨ o = 0
    · exact .inl ⟨ho, try_0 HM.out ho⟩
    · exact .inr ⟨ho, try_1 HM.out ho⟩)
  generalize tryT p (withNo x no) ⟨0, [82], 0, x.rel, 0⟩ now o = T at kT hS
  generalize tryL p (withNo x no) ⟨0, [82], 0, x.rel, 0⟩ now o = L at kT hS
  generalize tryE p (withNo x no) ⟨0, [82], 0, x.rel, 0⟩ now o = code at kT hS HTE
  have HSD := Lib.hid hS
  clear hS hF
  have cre : w7.cell? ⟨w.heap.size + 1, 2, none⟩ = some (.int .i64 x.rel) := cellOf H8.out.mb 2
  go_wp2_with (first | ((with_reducible refine jis_load (ty := 23) (x := .tmp 5) rfl ?_); refine jload ?_ 23 (.tmp 5) rfl (w.heap.size) 0 23 #[.int .i64 p.base, .int .i64 p.most, .int .i64 p.life, .int .i64 p.warn] #[.int .i64 p.base, .int .i64 p.most, .int .i64 p.life, .int .i64 p.warn] _ rfl H8.out.pb Tryz.underlying23 rfl jsize_plan (fun j _ => by rw [Nat.zero_add]) ?_; (focus (first | rfl | (go_simp; done)))) | ((with_reducible refine jis_load (ty := 33) (x := .tmp 6) rfl ?_); refine jload ?_ 33 (.tmp 6) rfl (w.heap.size + 1) 0 33 (EC x (.slice (some ⟨g, 0, none⟩) rn cap) vl) (EC x (.slice (some ⟨g, 0, none⟩) rn cap) vl) _ rfl H8.out.mb Tryz.underlying33 rfl size_msg (fun j _ => by rw [Nat.zero_add]) ?_; (focus (first | rfl | (go_simp; done)))))
  refine Calls.mono (show Calls Tryz.prog 11 #[plA p, msA x (.slice (some ⟨g, 0, none⟩) rn cap) vl, .agg #[.int .i64 0, .string { data := #[82] }, .int .i64 0, .int .i64 x.rel, .int .i64 0], .int .i64 now, .int .i64 o] w7 (TyPost T L code w7) from kT) ?_
  rintro r w8 ⟨v1, rfl, ho, hb⟩
  have H9 := Lib.hid (H8.out.next hb)
  have HO := Lib.hid (own_txts ho)
  obtain ⟨A1, C1, rfl⟩ := strs_slice ho
  clear hb H8 HE8 kT ho cre
  go_upto_region 10 with (first | (refine wpList_store_blk rfl 41 (.tmp 11) (.tmp 78) rfl w8.heap.size 0 41 (TC zeroT) (TC T) (TC T) rfl rfl (newOf w8 _) jsize_st (one_TC _) (Nat.le_of_eq rfl) (whole_TC _ _ rfl) ?_; intro w9 hB9 hA9))
  have Ha := Lib.hid (And.intro (H9.out.next (far_apart hA9)) (And.intro hB9 (HO.out.below (far_apart hA9))))
  clear hB9 hA9 H9 HO
  generalize w8.heap.size = g1 at *
  rcases HTE.out with ⟨ho, rfl⟩ | ⟨ho, rfl⟩
  rotate_left
  · have d0 : (o != 0) = true := by simp; omega
    have d3 : (o == 0) = false := by simp; omega
    rcases Bool.eq_false_or_eq_true (decide (o < 2)) with d1 | d1
    · clear ho
      go_wp2_with fail
      go_ret
      exact ⟨rfl, Ha.out.1.below⟩
    · have d2 : decide (5 < o) = true := decide_eq_true (by have := of_decide_eq_false d1; omega)
      clear ho
      go_wp2_with fail
      go_ret
      exact ⟨rfl, Ha.out.1.below⟩
  have HOO := Lib.hid ho
  clear ho HTE
  go_wp2_with (first | ((with_reducible refine jis_load (ty := 33) (x := .tmp 6) rfl ?_); refine jload ?_ 33 (.tmp 6) rfl (w.heap.size + 1) 0 33 (EC x (.slice (some ⟨g, 0, none⟩) rn cap) vl) (EC x (.slice (some ⟨g, 0, none⟩) rn cap) vl) _ rfl Ha.out.1.mb Tryz.underlying33 rfl size_msg (fun j _ => by rw [Nat.zero_add]) ?_; (focus (first | rfl | (go_simp; done)))))
  refine Calls.mono (show Calls Tryz.prog 17 #[msA x (.slice (some ⟨g, 0, none⟩) rn cap) vl] w9 fun e w' => e = .returned (.tuple #[.int .i64 (dlV x), .bool x.m.hb]) ∧ Below w9.heap.size w9 w' from deadline_x (withNo x no) _ vl _ HB.out) ?_
  rintro r wb ⟨rfl, hb⟩
  have Hb := Lib.hid (And.intro (Ha.out.1.next hb) (And.intro ((hb.block _ (ltOf Ha.out.2.1)).trans Ha.out.2.1) (Ha.out.2.2.below hb)))
  clear hb Ha
  obtain ⟨hb, HHB⟩ : ∃ hb, Hid (hb = x.m.hb) := ⟨_, Lib.hid rfl⟩
  obtain ⟨dv, HDV⟩ : ∃ dv, Hid (dv = dlV x) := ⟨_, Lib.hid rfl⟩
  rw [← HHB.out, ← HDV.out]
  have HF1 := Lib.hid (show F = ((hb && decide (dv ≤ now)) && ((o == 0) || (o == 4))) by
    rw [HFV.out, HDV.out, HHB.out]
    unfold comeJ dlV
    show ((x.m.hb && decide (dlJ x ≤ now)) && _) = _
    cases x.m.hb <;> rfl)
  clear HFV
  go_upto_region 13 with fail
  go_cut [16] from 102 (fun a wc => a = .bool F ∧ wc = wb)
  case first =>
    clear HDV HHB
    cases hb
    · have HV := Lib.hid (show F = false by rw [HF1.out]; rfl)
      go_wp2_with fail
      go_meet
      case rel => exact ⟨congrArg Value.bool HV.out.symm, rfl⟩
    rcases Bool.eq_false_or_eq_true (decide (dv ≤ now)) with d1 | d1
    rotate_left
    · have HV := Lib.hid (show F = false by rw [HF1.out, d1]; rfl)
      go_wp2_with fail
      go_meet
      case rel => exact ⟨congrArg Value.bool HV.out.symm, rfl⟩
    rcases Bool.eq_false_or_eq_true (o == 0) with d2 | d2
    · have HV := Lib.hid (show F = true by rw [HF1.out, d1, d2]; rfl)
      go_wp2_with fail
      go_meet
      case rel => exact ⟨congrArg Value.bool HV.out.symm, rfl⟩
    rcases Bool.eq_false_or_eq_true (o == 4) with d3 | d3
    · have HV := Lib.hid (show F = true by rw [HF1.out, d1, d2, d3]; rfl)
      go_wp2_with fail
      go_meet
      case rel => exact ⟨congrArg Value.bool HV.out.symm, rfl⟩
    · have HV := Lib.hid (show F = false by rw [HF1.out, d1, d2, d3]; rfl)
      go_wp2_with fail
      go_meet
      case rel => exact ⟨congrArg Value.bool HV.out.symm, rfl⟩
  case rest =>
  obtain ⟨rfl, hwc⟩ := hcut
  rw [hwc]
  clear HF1 HDV HHB hwc
  have f3 : wb.cell? ⟨w.heap.size + 1, 3, none⟩ = some (.string (mkS x.fr.1)) := cellOf Hb.out.1.mb 3
  have f4 : wb.cell? ⟨w.heap.size + 1, 4, none⟩ = some (.string (mkS x.fr.2)) := cellOf Hb.out.1.mb 4
  go_wp2_with fail
  refine (P.null_x x.fr _).mono ?_
  rintro r wd ⟨rfl, hb2⟩
  have Hd := Lib.hid (And.intro (Hb.out.1.next hb2) (And.intro ((hb2.block _ (ltOf Hb.out.2.1)).trans Hb.out.2.1) (Hb.out.2.2.below hb2)))
  clear hb2 Hb f3 f4
  have c1 : ((mkS no).toList == [78]) = z1 := by rw [mkS_toList]; exact HZ.out.2.1
  rcases HSD.out.resolve_right (by decide) with ⟨hL, hT⟩ | ⟨kk, f, hk, hL, hT, _, hn, hask, hf, _⟩
  · subst hL
    have c4 : wd.cell? ⟨g1, 4, none⟩ = some (.int .i64 0) := (cellOf Hd.out.2.1 4).trans (by show some (Value.int .i64 T.told) = _; rw [hT])
    clear hT HSD
    simp only [List.length_nil]
    rcases Bool.eq_false_or_eq_true (P.nullB x.fr) with hu | hu
    · rw [hu]
      go_wp2_with fail
      go_ret
      exact ⟨rfl, Hd.out.1.below⟩
    rw [hu]
    cases z1
    · go_wp2_with fail
      go_ret
      exact ⟨rfl, Hd.out.1.below⟩
    · go_wp2_with fail
      go_ret
      exact ⟨rfl, Hd.out.1.below⟩
  subst hL
  rw [show P.nullB x.fr = false from hn]
  obtain ⟨hn78, hc⟩ := ask_no hk HN.out hask
  have q1 : z1 = false := by rw [← HZ.out.2.1]; simpa using hn78
  subst q1
  obtain ⟨ad, rfl, hab, hcl⟩ : ∃ ad, A1 = some ad ∧ ad.block < wd.heap.size ∧ wd.cell? ad = some (.string (mkS kk.name)) := by
    obtain ⟨a, c, hv, _, _, hx⟩ := Hd.out.2.2
    obtain ⟨ad, h1, h2, h3⟩ := hx 0 _ rfl
    injection hv with e1 _ _
    exact ⟨ad, e1.trans h1, h2, by rw [show ad.add 0 = ad from (by unfold Addr.add; first | rfl | exact if_pos rfl | simp)] at h3; exact h3⟩
  have c4 : wd.cell? ⟨g1, 4, none⟩ = some (.int .i64 kk.bit) := (cellOf Hd.out.2.1 4).trans (by show some (Value.int .i64 T.told) = _; rw [hT]; show some (Value.int .i64 (0 + kk.bit)) = _; rw [Int.zero_add])
  have c0 : ((mkS no).toList == []) = z0 := by rw [mkS_toList]; exact HZ.out.1
  have c0e : (mkS no).toList.isEmpty = z0 := by rw [← HZ.out.1, mkS_toList]; cases no <;> rfl
  have c2' : ((mkS no).toList == [83]) = z2 := by rw [mkS_toList]; exact HZ.out.2.2.1
  have c3 : ((mkS no).toList == [70]) = z3 := by rw [mkS_toList]; exact HZ.out.2.2.2.1
  have c5 : ((mkS no).toList == [68]) = z4 := by rw [mkS_toList]; exact HZ.out.2.2.2.2
  have HFF := Lib.hid hf
  clear hT hn hask hf hn78 hab HSD
  simp only [List.length_singleton]
  rcases hc with ⟨rfl, hw⟩ | ⟨rfl, hw⟩ | ⟨hk2, hw⟩
  · rw [show mkS kF.name = { data := #[102, 97, 105, 108, 101, 100] } from rfl] at hcl
    rw [show kF.bit = 2 from rfl] at c4
    cases F
    rotate_left
    · clear hw
      go_wp2_with fail
      go_ret
      exact ⟨rfl, Hd.out.1.below⟩
    cases z0
    rotate_left
    · clear hw
      go_wp2_with fail
      go_ret
      exact ⟨rfl, Hd.out.1.below⟩
    · have q3 : z3 = true := by
        rcases hw with hw | hw | hw
        · exact absurd (HFF.out hw).1 (by decide)
        · have e := HZ.out.1
          rw [hw] at e
          cases e
        · rw [← HZ.out.2.2.2.1, hw]; rfl
      subst q3
      clear hw
      go_wp2_with fail
      go_ret
      exact ⟨rfl, Hd.out.1.below⟩
  · rw [show mkS kD.name = { data := #[100, 101, 108, 97, 121, 101, 100] } from rfl] at hcl
    rw [show kD.bit = 1 from rfl] at c4
    cases F
    rotate_left
    · clear hw
      go_wp2_with fail
      go_ret
      exact ⟨rfl, Hd.out.1.below⟩
    cases z0
    rotate_left
    · clear hw
      go_wp2_with fail
      go_ret
      exact ⟨rfl, Hd.out.1.below⟩
    · have q3 : z4 = true := by
        rcases hw with hw | hw | hw
        · exact absurd (HFF.out hw).1 (by decide)
        · have e := HZ.out.1
          rw [hw] at e
          cases e
        · rw [← HZ.out.2.2.2.2, hw]; rfl
      subst q3
      clear hw
      go_wp2_with fail
      go_ret
      exact ⟨rfl, Hd.out.1.below⟩
  · have hno : no = [83] := by
      rcases hw with hw | hw
      · rcases hk2 with rfl | rfl <;> (rcases (HFF.out hw).2 with e | e <;> cases e)
      · exact hw
    have q2 : z2 = true := by rw [← HZ.out.2.2.1, hno]; rfl
    subst q2
    clear hw hno
    rcases hk2 with rfl | rfl
    · rw [show mkS kS.name = { data := #[100, 101, 108, 105, 118, 101, 114, 101, 100] } from rfl] at hcl
      rw [show kS.bit = 4 from rfl] at c4
      go_wp2_with fail
      go_ret
      exact ⟨rfl, Hd.out.1.below⟩
    · rw [show mkS kG.name = { data := #[114, 101, 108, 97, 121, 101, 100] } from rfl] at hcl
      rw [show kG.bit = 4 from rfl] at c4
      go_wp2_with fail
      go_ret
      exact ⟨rfl, Hd.out.1.below⟩
end Go.Proofs.YtcedhgihebollaaGreatDoor.E.J
