/-
  The walk of JudgeOutcomes.
-/
import Derived.Test.YtcedhgihebollaaGreatDoorMaEvD
import Derived.Test.YtcedhgihebollaaGreatDoorJgTry
import Derived.Test.YtcedhgihebollaaGreatDoorMaJgE
import Derived.Test.YtcedhgihebollaaGreatDoorJgFactB
import Derived.Deep.Cut
namespace Go.Proofs.YtcedhgihebollaaGreatDoor.E.J
set_option maxRecDepth 100000
open Go.RowKit Go.Shelf
theorem jsize_six : (Tryz.prog.info? 59).map (·.size) = some 6 := by kernel_rfl
/-- The law's boxes: plan, message, status, states. -/
structure OW (W : World) (p : PJ) (x : EM) (vr vl : Value) (g k : Nat) (t : ST) (w : World) : Prop where
  b : PB W p x vr vl w
  t_ : w.heap[g]? = some (.cells (TC t) 41 (0, 0))
  s_ : w.heap[k]? = some (.cells #[.string { data := #[] }, .string { data := #[] }, .string { data := #[68] }, .string { data := #[71] }, .string { data := #[] }, .string { data := #[70] }] 59 (0, 0))
theorem OW.next {W w w' : World} {p : PJ} {x : EM} {vr vl : Value} {g k : Nat} {t : ST} (h : OW W p x vr vl g k t w) (hb : Below w.heap.size w w') : OW W p x vr vl g k t w' := ⟨h.b.next hb, (hb.block _ (ltOf h.t_)).trans h.t_, (hb.block _ (ltOf h.s_)).trans h.s_⟩
set_option linter.unusedSimpArgs false
set_option maxHeartbeats 16000000 in
theorem outcomes_x (hA : ∀ w, Calls Tryz.prog 7 #[] w fun e w' => e = .returned (.bool true) ∧ Below w.heap.size w w') (p : PJ) (x : EM) (vr vl : Value) (tries now : Int) (w : World) (hE : EAt w x vr vl) (hS : ShE x) (hR : Rdy w) :
    Calls Tryz.prog 6 #[plA p, msA x vr vl, .int .i64 tries, .int .i64 now] w fun e w' => e = .returned (.bool true) ∧ Below w.heap.size w w' := by
  have HE := Lib.hid hE
  have H0 := Lib.hid (PB.new w p x vr vl)
  have HA := Lib.hid hA
  have HS := Lib.hid hS
  have HR := Lib.hid hR
  clear hA hE hS hR
  go_enter Tryz.func6, Tryz.ntmps6
  go_wp2_with fail
  refine (HA.out _).mono ?_
  rintro r w1 ⟨rfl, hb⟩
  have H1 := Lib.hid (H0.out.next hb)
  clear hb H0 HA
  go_wp2_with (((with_reducible refine jis_load (ty := 33) (x := .tmp 5) rfl ?_); refine jload ?_ 33 (.tmp 5) rfl (w.heap.size + 1) 0 33 (EC x vr vl) (EC x vr vl) _ rfl H1.out.mb Tryz.underlying33 rfl size_msg (fun j _ => by rw [Nat.zero_add]) ?_; (focus (first | rfl | (go_simp; done)))))
  refine (msmall_x x vr vl _ (HE.out.below H1.out.below) HS.out).mono ?_
  rintro r w2 ⟨q, rfl, hq, hb⟩
  have H2 := Lib.hid (H1.out.next hb)
  have HQ := Lib.hid hq
  clear hb H1 hq
  cases q with
  | false =>
    go_wp2_with fail
    go_ret
    exact ⟨rfl, H2.out.below⟩
  | true =>
  have HF := Lib.hid (HQ.out rfl)
  clear HQ
  go_wp2_with (((with_reducible refine jis_load (ty := 23) (x := .tmp 4) rfl ?_); refine jload ?_ 23 (.tmp 4) rfl (w.heap.size) 0 23 #[.int .i64 p.base, .int .i64 p.most, .int .i64 p.life, .int .i64 p.warn] #[.int .i64 p.base, .int .i64 p.most, .int .i64 p.life, .int .i64 p.warn] _ rfl H2.out.pb Tryz.underlying23 rfl jsize_plan (fun j _ => by rw [Nat.zero_add]) ?_; (focus (first | rfl | (go_simp; done)))))
  refine (jright_x p _).mono ?_
  rintro r w3 ⟨rfl, hb⟩
  have H3 := Lib.hid (H2.out.next hb)
  clear hb H2
  by_cases hok : okP p = true
  case neg =>
    rw [if_neg hok]
    go_wp2_with fail
    go_ret
    exact ⟨rfl, H3.out.below⟩
  rw [if_pos hok]
  have HOK := Lib.hid hok
  clear hok
  go_wp2_with (((with_reducible refine jis_load (ty := 33) (x := .tmp 5) rfl ?_); refine jload ?_ 33 (.tmp 5) rfl (w.heap.size + 1) 0 33 (EC x vr vl) (EC x vr vl) _ rfl H3.out.mb Tryz.underlying33 rfl size_msg (fun j _ => by rw [Nat.zero_add]) ?_; (focus (first | rfl | (go_simp; done)))))
  refine (right_x x vr vl _ (HE.out.below H3.out.below) HF.out.fit (HR.out.below H3.out.below)).mono ?_
  rintro r w4 ⟨rfl, hb⟩
  have H4 := Lib.hid (H3.out.next hb)
  clear hb H3
  by_cases hen : enE x = 0
  case neg =>
    have he : (enE x == 0) = false := by simpa using hen
    have he2 : (enE x != 0) = true := by simpa using hen
    clear hen
    go_wp2_with fail
    go_ret
    exact ⟨rfl, H4.out.below⟩
  rw [hen]
  have HEN := Lib.hid (en_iff.1 hen)
  clear hen
  rcases Bool.eq_false_or_eq_true (decide (tries < 0)) with p1 | p1
  · go_wp2_with fail
    go_ret
    exact ⟨rfl, H4.out.below⟩
  rcases Bool.eq_false_or_eq_true (decide (900 < tries)) with p2 | p2
  · go_wp2_with fail
    go_ret
    exact ⟨rfl, H4.out.below⟩
  rcases Bool.eq_false_or_eq_true (decide (now < 0)) with n1 | n1
  · go_wp2_with fail
    go_ret
    exact ⟨rfl, H4.out.below⟩
  rcases Bool.eq_false_or_eq_true (decide (1099511627776 < now)) with n2 | n2
  · go_wp2_with fail
    go_ret
    exact ⟨rfl, H4.out.below⟩
  have HT := Lib.hid (⟨by have := of_decide_eq_false p1; omega, by have := of_decide_eq_false p2; omega⟩ : 0 ≤ tries ∧ tries ≤ 900)
  have HW := Lib.hid (⟨by have := of_decide_eq_false n1; omega, by have := of_decide_eq_false n2; omega⟩ : 0 ≤ now ∧ now ≤ 1099511627776)
  have cre : w4.cell? ⟨w.heap.size + 1, 2, none⟩ = some (.int .i64 x.rel) := cellOf H4.out.mb 2
  go_upto_region 5 with fail
  clear p1 p2 n1 n2
  go_upto_region 6 with (first | (refine wpList_store_blk rfl 41 (.tmp 9) (.tmp 52) rfl w4.heap.size 0 41 (TC zeroT) (TC ⟨0, [82], tries, x.rel, 0⟩) (TC ⟨0, [82], tries, x.rel, 0⟩) rfl rfl (newOf w4 _) jsize_st (one_TC _) (Nat.le_of_eq rfl) (whole_TC _ _ rfl) ?_; intro w5 hB5 hA5))
  have H5 := Lib.hid (H4.out.next (far_apart hA5))
  have G5 := Lib.hid hB5
  clear hA5 hB5 H4 cre
  generalize w4.heap.size = g at *
  go_upto_region 7 with fail
  have H6 := Lib.hid (show OW w p x vr vl g w5.heap.size ⟨0, [82], tries, x.rel, 0⟩ (w5.alloc (.cells #[.string { data := #[] }, .string { data := #[] }, .string { data := #[68] }, .string { data := #[71] }, .string { data := #[] }, .string { data := #[70] }] 59)) from ⟨H5.out.next (below_box w5 _), ((below_box w5 _).block _ (ltOf G5.out)).trans G5.out, newOf w5 _⟩)
  generalize w5.alloc (.cells #[.string { data := #[] }, .string { data := #[] }, .string { data := #[68] }, .string { data := #[71] }, .string { data := #[] }, .string { data := #[70] }] 59) = w6 at *
  clear H5 G5
  generalize w5.heap.size = k at *
  have HB := Lib.hid (ok_bd HEN.out)
  have HM := Lib.hid (may_zero (x := x) (t := ⟨0, [82], tries, x.rel, 0⟩) HOK.out HW.out rfl ⟨Int.le_refl _, by have := HEN.out.rc.1; show (0 : Int) < _; omega⟩)
  have HTR := Lib.hid (fun o (w' : World) (h : Below w.heap.size w w') => try_x p x vr vl ⟨0, [82], tries, x.rel, 0⟩ now o w' (HE.out.below h) (by have := HEN.out.rc.2; omega) HB.out (Int.le_refl 0) (show (0 : Int) ≤ 7 by decide) HT.out.1)
  have HU := Lib.hid (fun o (h : o = 4 ∨ o = 0) => later_all (o := o) HM.out HT.out.2 rfl h)
  have HD := Lib.hid (fun o (s : Txt) (h : (o = 2 ∧ s = [68]) ∨ (o = 3 ∧ s = [71]) ∨ (o = 5 ∧ s = [70])) => And.intro (try_0 (o := o) HM.out (by omega)) (try_end (o := o) HM.out h))
  have W1 : IntKind.i64.wrap (tries + 1) = tries + 1 := IntWalk.i64_in _ (by have := HT.out; omega)
  have HMN := Lib.hid (show min tries 999 + 1 = tries + 1 by have := HT.out; omega)
  go_wp2_with fail
  go_loopw [11] (fun i wr => ∃ j : Nat, j ≤ 6 ∧ i = .int .i64 j ∧ Hid (OW w p x vr vl g k ⟨0, [82], tries, x.rel, 0⟩ wr)) (fun i _ => 6 - (intOf i).toNat)
  case atStart => exact ⟨0, Nat.zero_le _, rfl, H6⟩
  case round =>
    obtain ⟨j, hj, rfl, HR6⟩ := hrel
    clear H6
    match j, hj with
    | 0, _ =>
      have kT := HTR.out 0 wr HR6.out.b.below
      have hF := HU.out 0 (by decide)
      rw [hF.1] at kT
      generalize tryT p x ⟨0, [82], tries, x.rel, 0⟩ now 0 = T at kT hF
      generalize tryL p x ⟨0, [82], tries, x.rel, 0⟩ now 0 = L at kT
      have HF := Lib.hid hF.2
      clear hF
      go_wp2_with (first | ((with_reducible refine jis_load (ty := 23) (x := .tmp 4) rfl ?_); refine jload ?_ 23 (.tmp 4) rfl (w.heap.size) 0 23 #[.int .i64 p.base, .int .i64 p.most, .int .i64 p.life, .int .i64 p.warn] #[.int .i64 p.base, .int .i64 p.most, .int .i64 p.life, .int .i64 p.warn] _ rfl HR6.out.b.pb Tryz.underlying23 rfl jsize_plan (fun j _ => by rw [Nat.zero_add]) ?_; (focus (first | rfl | (go_simp; done)))) | ((with_reducible refine jis_load (ty := 33) (x := .tmp 5) rfl ?_); refine jload ?_ 33 (.tmp 5) rfl (w.heap.size + 1) 0 33 (EC x vr vl) (EC x vr vl) _ rfl HR6.out.b.mb Tryz.underlying33 rfl size_msg (fun j _ => by rw [Nat.zero_add]) ?_; (focus (first | rfl | (go_simp; done)))) | ((with_reducible refine jis_load (ty := 41) (x := .tmp 9) rfl ?_); refine jload ?_ 41 (.tmp 9) rfl g 0 41 (TC ⟨0, [82], tries, x.rel, 0⟩) #[.int .i64 0, .string { data := #[82] }, .int .i64 tries, .int .i64 x.rel, .int .i64 0] _ rfl HR6.out.t_ Tryz.underlying41 rfl jsize_st (fun j _ => by rw [Nat.zero_add]; rfl) ?_; (focus (first | rfl | (go_simp; done)))))
      refine kT.mono ?_
      rintro r w7 ⟨v1, rfl, ho, hb⟩
      have H7 := Lib.hid (HR6.out.next hb)
      clear hb HR6 kT ho
      go_upto_region 11 with (first | (refine wpList_store_blk rfl 41 (.tmp 12) (.tmp 65) rfl w7.heap.size 0 41 (TC zeroT) (TC T) (TC T) rfl rfl (newOf w7 _) jsize_st (one_TC _) (Nat.le_of_eq rfl) (whole_TC _ _ rfl) ?_; intro w8 hB8 hA8))
      have H8 := Lib.hid (H7.out.next (far_apart hA8))
      have G8 := Lib.hid hB8
      clear hA8 hB8 H7
      generalize w7.heap.size = g1 at *
      have c2 : w8.cell? ⟨g1, 2, none⟩ = some (.int .i64 (tries + 1)) := by rw [← HF.out.1]; exact cellOf G8.out 2
      have s3 : w8.cell? ⟨k, 0, none⟩ = some (.string { data := #[] }) := cellOf H8.out.s_ 0
      go_upto_region 19 with fail
      clear c2 s3
      go_wp2_with (first | ((with_reducible refine jis_load (ty := 33) (x := .tmp 5) rfl ?_); refine jload ?_ 33 (.tmp 5) rfl (w.heap.size + 1) 0 33 (EC x vr vl) (EC x vr vl) _ rfl H8.out.b.mb Tryz.underlying33 rfl size_msg (fun j _ => by rw [Nat.zero_add]) ?_; (focus (first | rfl | (go_simp; done)))))
      refine (deadline_x x vr vl _ HB.out).mono ?_
      rintro r w9 ⟨rfl, hb⟩
      have H9 := Lib.hid (H8.out.next hb)
      have G9 := Lib.hid ((hb.block _ (ltOf G8.out)).trans G8.out)
      clear hb H8 G8
      go_upto_region 20 with fail
      obtain ⟨hb, HHB⟩ : ∃ hb, Hid (hb = x.m.hb) := ⟨_, Lib.hid rfl⟩
      obtain ⟨dv, HDV⟩ : ∃ dv, Hid (dv = dlV x) := ⟨_, Lib.hid rfl⟩
      rw [← HHB.out, ← HDV.out]
      go_cut [17] from 123 (fun a wc => a = .bool (overJ p x now) ∧ Hid (OW w p x vr vl g k ⟨0, [82], tries, x.rel, 0⟩ wc ∧ wc.heap[g1]? = some (.cells (TC T) 41 (0, 0))))
      case first =>
        have HX := Lib.hid (fun w' => expires_x p x vr vl w' HOK.out HB.out)
        have HMO := Lib.hid (mode_of HEN.out)
        have HOV := Lib.hid (show overJ p x now = (decide (expJ p x ≤ now) || (hb && decide (dlJ x ≤ now) && backB x.m.mode)) by rw [HHB.out]; unfold overJ bkJ comeJ; rw [Bool.or_comm])
        generalize expJ p x = ex at HX HOV
        rcases Bool.eq_false_or_eq_true (decide (ex ≤ now)) with d1 | d1
        · have HV := Lib.hid (show overJ p x now = true by rw [HOV.out, d1]; rfl)
          go_wp2_with (first | ((with_reducible refine jis_load (ty := 23) (x := .tmp 4) rfl ?_); refine jload ?_ 23 (.tmp 4) rfl (w.heap.size) 0 23 #[.int .i64 p.base, .int .i64 p.most, .int .i64 p.life, .int .i64 p.warn] #[.int .i64 p.base, .int .i64 p.most, .int .i64 p.life, .int .i64 p.warn] _ rfl H9.out.b.pb Tryz.underlying23 rfl jsize_plan (fun j _ => by rw [Nat.zero_add]) ?_; (focus (first | rfl | (go_simp; done)))) | ((with_reducible refine jis_load (ty := 33) (x := .tmp 5) rfl ?_); refine jload ?_ 33 (.tmp 5) rfl (w.heap.size + 1) 0 33 (EC x vr vl) (EC x vr vl) _ rfl H9.out.b.mb Tryz.underlying33 rfl size_msg (fun j _ => by rw [Nat.zero_add]) ?_; (focus (first | rfl | (go_simp; done)))))
          refine (HX.out _).mono ?_
          rintro r wa ⟨rfl, hb⟩
          have Ha := Lib.hid (And.intro (H9.out.next hb) ((hb.block _ (ltOf G9.out)).trans G9.out))
          clear hb H9 G9
          go_wp2_with fail
          go_meet
          case rel => exact ⟨congrArg Value.bool HV.out.symm, Ha⟩
        have HD1 := Lib.hid d1
        cases hb
        · have HV := Lib.hid (show overJ p x now = false by rw [HOV.out, HD1.out]; rfl)
          go_wp2_with (first | ((with_reducible refine jis_load (ty := 23) (x := .tmp 4) rfl ?_); refine jload ?_ 23 (.tmp 4) rfl (w.heap.size) 0 23 #[.int .i64 p.base, .int .i64 p.most, .int .i64 p.life, .int .i64 p.warn] #[.int .i64 p.base, .int .i64 p.most, .int .i64 p.life, .int .i64 p.warn] _ rfl H9.out.b.pb Tryz.underlying23 rfl jsize_plan (fun j _ => by rw [Nat.zero_add]) ?_; (focus (first | rfl | (go_simp; done)))) | ((with_reducible refine jis_load (ty := 33) (x := .tmp 5) rfl ?_); refine jload ?_ 33 (.tmp 5) rfl (w.heap.size + 1) 0 33 (EC x vr vl) (EC x vr vl) _ rfl H9.out.b.mb Tryz.underlying33 rfl size_msg (fun j _ => by rw [Nat.zero_add]) ?_; (focus (first | rfl | (go_simp; done)))))
          refine (HX.out _).mono ?_
          rintro r wa ⟨rfl, hb⟩
          have Ha := Lib.hid (And.intro (H9.out.next hb) ((hb.block _ (ltOf G9.out)).trans G9.out))
          clear hb H9 G9
          go_wp2_with fail
          go_meet
          case rel => exact ⟨congrArg Value.bool HV.out.symm, Ha⟩
        · have hd : dv = dlJ x := by
            rw [HDV.out]
            unfold dlV
            rw [← HHB.out]; rfl
          rw [← hd] at HOV
          clear hd
          rcases Bool.eq_false_or_eq_true (decide (dv ≤ now)) with d2 | d2
          rotate_left
          · have HV := Lib.hid (show overJ p x now = false by rw [HOV.out, HD1.out, d2]; rfl)
            go_wp2_with (first | ((with_reducible refine jis_load (ty := 23) (x := .tmp 4) rfl ?_); refine jload ?_ 23 (.tmp 4) rfl (w.heap.size) 0 23 #[.int .i64 p.base, .int .i64 p.most, .int .i64 p.life, .int .i64 p.warn] #[.int .i64 p.base, .int .i64 p.most, .int .i64 p.life, .int .i64 p.warn] _ rfl H9.out.b.pb Tryz.underlying23 rfl jsize_plan (fun j _ => by rw [Nat.zero_add]) ?_; (focus (first | rfl | (go_simp; done)))) | ((with_reducible refine jis_load (ty := 33) (x := .tmp 5) rfl ?_); refine jload ?_ 33 (.tmp 5) rfl (w.heap.size + 1) 0 33 (EC x vr vl) (EC x vr vl) _ rfl H9.out.b.mb Tryz.underlying33 rfl size_msg (fun j _ => by rw [Nat.zero_add]) ?_; (focus (first | rfl | (go_simp; done)))))
            refine (HX.out _).mono ?_
            rintro r wa ⟨rfl, hb⟩
            have Ha := Lib.hid (And.intro (H9.out.next hb) ((hb.block _ (ltOf G9.out)).trans G9.out))
            clear hb H9 G9
            go_wp2_with fail
            go_meet
            case rel => exact ⟨congrArg Value.bool HV.out.symm, Ha⟩
          have HD2 := Lib.hid d2
          rcases HMO.out HHB.out.symm with hm | hm | hm | hm
          · have HV := Lib.hid (show overJ p x now = true by rw [HOV.out, HD1.out, HD2.out, hm]; rfl)
            have HMM := Lib.hid hm
            clear hm
            go_wp2_with (first | ((with_reducible refine jis_load (ty := 23) (x := .tmp 4) rfl ?_); refine jload ?_ 23 (.tmp 4) rfl (w.heap.size) 0 23 #[.int .i64 p.base, .int .i64 p.most, .int .i64 p.life, .int .i64 p.warn] #[.int .i64 p.base, .int .i64 p.most, .int .i64 p.life, .int .i64 p.warn] _ rfl H9.out.b.pb Tryz.underlying23 rfl jsize_plan (fun j _ => by rw [Nat.zero_add]) ?_; (focus (first | rfl | (go_simp; done)))) | ((with_reducible refine jis_load (ty := 33) (x := .tmp 5) rfl ?_); refine jload ?_ 33 (.tmp 5) rfl (w.heap.size + 1) 0 33 (EC x vr vl) (EC x vr vl) _ rfl H9.out.b.mb Tryz.underlying33 rfl size_msg (fun j _ => by rw [Nat.zero_add]) ?_; (focus (first | rfl | (go_simp; done)))))
            refine (HX.out _).mono ?_
            rintro r wa ⟨rfl, hb⟩
            have Ha := Lib.hid (And.intro (H9.out.next hb) ((hb.block _ (ltOf G9.out)).trans G9.out))
            have cm : wa.cell? ⟨w.heap.size + 1, 18, none⟩ = some (.string { data := #[82] }) := by rw [show (Value.string { data := #[82] }) = Value.string (mkS x.m.mode) by rw [HMM.out]; rfl]; exact cellOf Ha.out.1.b.mb 18
            clear hb H9 G9
            go_wp2_with fail
            go_meet
            case rel => exact ⟨congrArg Value.bool HV.out.symm, Ha⟩
          · have HV := Lib.hid (show overJ p x now = false by rw [HOV.out, HD1.out, HD2.out, hm]; rfl)
            have HMM := Lib.hid hm
            clear hm
            go_wp2_with (first | ((with_reducible refine jis_load (ty := 23) (x := .tmp 4) rfl ?_); refine jload ?_ 23 (.tmp 4) rfl (w.heap.size) 0 23 #[.int .i64 p.base, .int .i64 p.most, .int .i64 p.life, .int .i64 p.warn] #[.int .i64 p.base, .int .i64 p.most, .int .i64 p.life, .int .i64 p.warn] _ rfl H9.out.b.pb Tryz.underlying23 rfl jsize_plan (fun j _ => by rw [Nat.zero_add]) ?_; (focus (first | rfl | (go_simp; done)))) | ((with_reducible refine jis_load (ty := 33) (x := .tmp 5) rfl ?_); refine jload ?_ 33 (.tmp 5) rfl (w.heap.size + 1) 0 33 (EC x vr vl) (EC x vr vl) _ rfl H9.out.b.mb Tryz.underlying33 rfl size_msg (fun j _ => by rw [Nat.zero_add]) ?_; (focus (first | rfl | (go_simp; done)))))
            refine (HX.out _).mono ?_
            rintro r wa ⟨rfl, hb⟩
            have Ha := Lib.hid (And.intro (H9.out.next hb) ((hb.block _ (ltOf G9.out)).trans G9.out))
            have cm : wa.cell? ⟨w.heap.size + 1, 18, none⟩ = some (.string { data := #[78] }) := by rw [show (Value.string { data := #[78] }) = Value.string (mkS x.m.mode) by rw [HMM.out]; rfl]; exact cellOf Ha.out.1.b.mb 18
            clear hb H9 G9
            go_wp2_with fail
            go_meet
            case rel => exact ⟨congrArg Value.bool HV.out.symm, Ha⟩
          · have HV := Lib.hid (show overJ p x now = true by rw [HOV.out, HD1.out, HD2.out, hm]; rfl)
            have HMM := Lib.hid hm
            clear hm
            go_wp2_with (first | ((with_reducible refine jis_load (ty := 23) (x := .tmp 4) rfl ?_); refine jload ?_ 23 (.tmp 4) rfl (w.heap.size) 0 23 #[.int .i64 p.base, .int .i64 p.most, .int .i64 p.life, .int .i64 p.warn] #[.int .i64 p.base, .int .i64 p.most, .int .i64 p.life, .int .i64 p.warn] _ rfl H9.out.b.pb Tryz.underlying23 rfl jsize_plan (fun j _ => by rw [Nat.zero_add]) ?_; (focus (first | rfl | (go_simp; done)))) | ((with_reducible refine jis_load (ty := 33) (x := .tmp 5) rfl ?_); refine jload ?_ 33 (.tmp 5) rfl (w.heap.size + 1) 0 33 (EC x vr vl) (EC x vr vl) _ rfl H9.out.b.mb Tryz.underlying33 rfl size_msg (fun j _ => by rw [Nat.zero_add]) ?_; (focus (first | rfl | (go_simp; done)))))
            refine (HX.out _).mono ?_
            rintro r wa ⟨rfl, hb⟩
            have Ha := Lib.hid (And.intro (H9.out.next hb) ((hb.block _ (ltOf G9.out)).trans G9.out))
            have cm : wa.cell? ⟨w.heap.size + 1, 18, none⟩ = some (.string { data := #[82, 84] }) := by rw [show (Value.string { data := #[82, 84] }) = Value.string (mkS x.m.mode) by rw [HMM.out]; rfl]; exact cellOf Ha.out.1.b.mb 18
            clear hb H9 G9
            go_wp2_with fail
            go_meet
            case rel => exact ⟨congrArg Value.bool HV.out.symm, Ha⟩
          · have HV := Lib.hid (show overJ p x now = false by rw [HOV.out, HD1.out, HD2.out, hm]; rfl)
            have HMM := Lib.hid hm
            clear hm
            go_wp2_with (first | ((with_reducible refine jis_load (ty := 23) (x := .tmp 4) rfl ?_); refine jload ?_ 23 (.tmp 4) rfl (w.heap.size) 0 23 #[.int .i64 p.base, .int .i64 p.most, .int .i64 p.life, .int .i64 p.warn] #[.int .i64 p.base, .int .i64 p.most, .int .i64 p.life, .int .i64 p.warn] _ rfl H9.out.b.pb Tryz.underlying23 rfl jsize_plan (fun j _ => by rw [Nat.zero_add]) ?_; (focus (first | rfl | (go_simp; done)))) | ((with_reducible refine jis_load (ty := 33) (x := .tmp 5) rfl ?_); refine jload ?_ 33 (.tmp 5) rfl (w.heap.size + 1) 0 33 (EC x vr vl) (EC x vr vl) _ rfl H9.out.b.mb Tryz.underlying33 rfl size_msg (fun j _ => by rw [Nat.zero_add]) ?_; (focus (first | rfl | (go_simp; done)))))
            refine (HX.out _).mono ?_
            rintro r wa ⟨rfl, hb⟩
            have Ha := Lib.hid (And.intro (H9.out.next hb) ((hb.block _ (ltOf G9.out)).trans G9.out))
            have cm : wa.cell? ⟨w.heap.size + 1, 18, none⟩ = some (.string { data := #[78, 84] }) := by rw [show (Value.string { data := #[78, 84] }) = Value.string (mkS x.m.mode) by rw [HMM.out]; rfl]; exact cellOf Ha.out.1.b.mb 18
            clear hb H9 G9
            go_wp2_with fail
            go_meet
            case rel => exact ⟨congrArg Value.bool HV.out.symm, Ha⟩
      case rest =>
      obtain ⟨rfl, HG⟩ := hcut
      go_upto_region 21 with fail
      have HWL := Lib.hid (waitJ_lo HOK.out (tries + 1))
      have HWA := Lib.hid (fun w' => jwait_x p (tries + 1) w' HOK.out (by have := HT.out; omega) (by have := HT.out; omega))
      have HPM := Lib.hid (okP_iff.1 HOK.out)
      have HF2 := Lib.hid HF.out.2.1
      have HF3 := Lib.hid HF.out.2.2
      generalize waitJ p (tries + 1) = wt at HWL HWA HF2
      have W2 : IntKind.i64.wrap (now + wt) = now + wt := IntWalk.i64_in _ (by have := HWL.out; have := HPM.out; have := HW.out; omega)
      obtain ⟨Y, F, f0, hf0, hF1, hF2⟩ := jcls wc
      have key : ∀ {g : Nat} {o : Obj}, wc.heap[g]? = some o → ∀ y, (F y).heap[g]? = some o := fun hg y => ((hF1 y).block _ (ltOf hg)).trans hg
      have X0 : ∀ y, (F y).cell? ⟨w.heap.size, 0, none⟩ = some (.int .i64 p.base) := fun y => cellOf (key HG.out.1.b.pb y) 0
      have X1 : ∀ y, (F y).cell? ⟨w.heap.size, 1, none⟩ = some (.int .i64 p.most) := fun y => cellOf (key HG.out.1.b.pb y) 1
      have X2 : ∀ y, (F y).cell? ⟨w.heap.size, 2, none⟩ = some (.int .i64 p.life) := fun y => cellOf (key HG.out.1.b.pb y) 2
      have X3 : ∀ y, (F y).cell? ⟨w.heap.size, 3, none⟩ = some (.int .i64 p.warn) := fun y => cellOf (key HG.out.1.b.pb y) 3
      have X4 : ∀ y, (F y).cell? ⟨g1, 3, none⟩ = some (.int .i64 (now + wt)) := fun y => by rw [← HF2.out]; exact cellOf (key HG.out.2 y) 3
      have CW := Lib.hid (jin_cls hF1 hF2 fun w' _ => HWA.out w')
      have HN1 := Lib.hid hF1
      have hNE : Nonempty Y := ⟨f0⟩
      cases hov : overJ p x now
      · have X5 : ∀ y, (F y).cell? ⟨g1, 1, none⟩ = some (.string { data := #[82] }) := fun y => (cellOf (key HG.out.2 y) 1).trans (by show some (Value.string (mkS T.st)) = _; rw [HF3.out, hov]; rfl)
        clear hov hF1 hF2 key
        refine jregion (by kernel_rfl) (by kernel_rfl) F f0 hf0 ?_
        repeat (go_big_quiet_step (first | (go_at_call 18; (with_reducible exact CW.out _))))
        refine wpQuiet_nil ?_
        rintro _ ⟨z, rfl⟩
        have HZ := Lib.hid (HG.out.1.next (HN1.out z))
        go_wp2_with fail
        go_roundw
        case rel => exact ⟨1, by decide, rfl, HZ⟩
        case measure => decide
      · have X5 : ∀ y, (F y).cell? ⟨g1, 1, none⟩ = some (.string { data := #[70] }) := fun y => (cellOf (key HG.out.2 y) 1).trans (by show some (Value.string (mkS T.st)) = _; rw [HF3.out, hov]; rfl)
        clear hov hF1 hF2 key
        refine jregion (by kernel_rfl) (by kernel_rfl) F f0 hf0 ?_
        repeat (go_big_quiet_step (first | (go_at_call 18; (with_reducible exact CW.out _))))
        refine wpQuiet_nil ?_
        rintro _ ⟨z, rfl⟩
        have HZ := Lib.hid (HG.out.1.next (HN1.out z))
        go_wp2_with fail
        go_roundw
        case rel => exact ⟨1, by decide, rfl, HZ⟩
        case measure => decide
    | 1, _ =>
      have kT := HTR.out 1 wr HR6.out.b.below
      rw [try_1 HM.out (by decide)] at kT
      generalize tryT p x ⟨0, [82], tries, x.rel, 0⟩ now 1 = T at kT
      generalize tryL p x ⟨0, [82], tries, x.rel, 0⟩ now 1 = L at kT
      go_wp2_with (first | ((with_reducible refine jis_load (ty := 23) (x := .tmp 4) rfl ?_); refine jload ?_ 23 (.tmp 4) rfl (w.heap.size) 0 23 #[.int .i64 p.base, .int .i64 p.most, .int .i64 p.life, .int .i64 p.warn] #[.int .i64 p.base, .int .i64 p.most, .int .i64 p.life, .int .i64 p.warn] _ rfl HR6.out.b.pb Tryz.underlying23 rfl jsize_plan (fun j _ => by rw [Nat.zero_add]) ?_; (focus (first | rfl | (go_simp; done)))) | ((with_reducible refine jis_load (ty := 33) (x := .tmp 5) rfl ?_); refine jload ?_ 33 (.tmp 5) rfl (w.heap.size + 1) 0 33 (EC x vr vl) (EC x vr vl) _ rfl HR6.out.b.mb Tryz.underlying33 rfl size_msg (fun j _ => by rw [Nat.zero_add]) ?_; (focus (first | rfl | (go_simp; done)))) | ((with_reducible refine jis_load (ty := 41) (x := .tmp 9) rfl ?_); refine jload ?_ 41 (.tmp 9) rfl g 0 41 (TC ⟨0, [82], tries, x.rel, 0⟩) #[.int .i64 0, .string { data := #[82] }, .int .i64 tries, .int .i64 x.rel, .int .i64 0] _ rfl HR6.out.t_ Tryz.underlying41 rfl jsize_st (fun j _ => by rw [Nat.zero_add]; rfl) ?_; (focus (first | rfl | (go_simp; done)))))
      refine kT.mono ?_
      rintro r w7 ⟨v1, rfl, ho, hb⟩
      have H7 := Lib.hid (HR6.out.next hb)
      clear hb HR6 kT ho
      go_upto_region 11 with (first | (refine wpList_store_blk rfl 41 (.tmp 12) (.tmp 65) rfl w7.heap.size 0 41 (TC zeroT) (TC T) (TC T) rfl rfl (newOf w7 _) jsize_st (one_TC _) (Nat.le_of_eq rfl) (whole_TC _ _ rfl) ?_; intro w8 hB8 hA8))
      have H8 := Lib.hid (H7.out.next (far_apart hA8))
      have G8 := Lib.hid hB8
      clear hA8 hB8 H7
      generalize w7.heap.size = g1 at *
      go_wp2_with fail
      go_roundw
      case rel => exact ⟨2, by decide, rfl, H8⟩
      case measure => decide
    | 2, _ =>
      have kT := HTR.out 2 wr HR6.out.b.below
      have hF := HD.out 2 [68] (by decide)
      rw [hF.1] at kT
      generalize tryT p x ⟨0, [82], tries, x.rel, 0⟩ now 2 = T at kT hF
      generalize tryL p x ⟨0, [82], tries, x.rel, 0⟩ now 2 = L at kT
      have F1 : T.tr = tries + 1 := hF.2.2.1.trans HMN.out
      have HF := Lib.hid (And.intro F1 (And.intro hF.2.1 hF.2.2.2.1))
      clear hF F1
      go_wp2_with (first | ((with_reducible refine jis_load (ty := 23) (x := .tmp 4) rfl ?_); refine jload ?_ 23 (.tmp 4) rfl (w.heap.size) 0 23 #[.int .i64 p.base, .int .i64 p.most, .int .i64 p.life, .int .i64 p.warn] #[.int .i64 p.base, .int .i64 p.most, .int .i64 p.life, .int .i64 p.warn] _ rfl HR6.out.b.pb Tryz.underlying23 rfl jsize_plan (fun j _ => by rw [Nat.zero_add]) ?_; (focus (first | rfl | (go_simp; done)))) | ((with_reducible refine jis_load (ty := 33) (x := .tmp 5) rfl ?_); refine jload ?_ 33 (.tmp 5) rfl (w.heap.size + 1) 0 33 (EC x vr vl) (EC x vr vl) _ rfl HR6.out.b.mb Tryz.underlying33 rfl size_msg (fun j _ => by rw [Nat.zero_add]) ?_; (focus (first | rfl | (go_simp; done)))) | ((with_reducible refine jis_load (ty := 41) (x := .tmp 9) rfl ?_); refine jload ?_ 41 (.tmp 9) rfl g 0 41 (TC ⟨0, [82], tries, x.rel, 0⟩) #[.int .i64 0, .string { data := #[82] }, .int .i64 tries, .int .i64 x.rel, .int .i64 0] _ rfl HR6.out.t_ Tryz.underlying41 rfl jsize_st (fun j _ => by rw [Nat.zero_add]; rfl) ?_; (focus (first | rfl | (go_simp; done)))))
      refine kT.mono ?_
      rintro r w7 ⟨v1, rfl, ho, hb⟩
      have H7 := Lib.hid (HR6.out.next hb)
      clear hb HR6 kT ho
      go_upto_region 11 with (first | (refine wpList_store_blk rfl 41 (.tmp 12) (.tmp 65) rfl w7.heap.size 0 41 (TC zeroT) (TC T) (TC T) rfl rfl (newOf w7 _) jsize_st (one_TC _) (Nat.le_of_eq rfl) (whole_TC _ _ rfl) ?_; intro w8 hB8 hA8))
      have H8 := Lib.hid (H7.out.next (far_apart hA8))
      have G8 := Lib.hid hB8
      clear hA8 hB8 H7
      generalize w7.heap.size = g1 at *
      have c2 : w8.cell? ⟨g1, 2, none⟩ = some (.int .i64 (tries + 1)) := by rw [← HF.out.1]; exact cellOf G8.out 2
      have c1 : w8.cell? ⟨g1, 1, none⟩ = some (.string { data := #[68] }) := (cellOf G8.out 1).trans (by show some (Value.string (mkS T.st)) = _; rw [HF.out.2.1]; rfl)
      have c3 : w8.cell? ⟨g1, 3, none⟩ = some (.int .i64 x.rel) := (cellOf G8.out 3).trans (by show some (Value.int .i64 T.ne) = _; rw [HF.out.2.2])
      have t3 : w8.cell? ⟨g, 3, none⟩ = some (.int .i64 x.rel) := cellOf H8.out.t_ 3
      have s3 : w8.cell? ⟨k, 2, none⟩ = some (.string { data := #[68] }) := cellOf H8.out.s_ 2
      go_wp2_with fail
      go_quiet (fail)
      go_wp2_with fail
      go_roundw
      case rel => exact ⟨3, by decide, rfl, Lib.hid (H8.out.next (below_drewN (Below.refl _ _) _))⟩
      case measure => decide
    | 3, _ =>
      have kT := HTR.out 3 wr HR6.out.b.below
      have hF := HD.out 3 [71] (by decide)
      rw [hF.1] at kT
      generalize tryT p x ⟨0, [82], tries, x.rel, 0⟩ now 3 = T at kT hF
      generalize tryL p x ⟨0, [82], tries, x.rel, 0⟩ now 3 = L at kT
      have F1 : T.tr = tries + 1 := hF.2.2.1.trans HMN.out
      have HF := Lib.hid (And.intro F1 (And.intro hF.2.1 hF.2.2.2.1))
      clear hF F1
      go_wp2_with (first | ((with_reducible refine jis_load (ty := 23) (x := .tmp 4) rfl ?_); refine jload ?_ 23 (.tmp 4) rfl (w.heap.size) 0 23 #[.int .i64 p.base, .int .i64 p.most, .int .i64 p.life, .int .i64 p.warn] #[.int .i64 p.base, .int .i64 p.most, .int .i64 p.life, .int .i64 p.warn] _ rfl HR6.out.b.pb Tryz.underlying23 rfl jsize_plan (fun j _ => by rw [Nat.zero_add]) ?_; (focus (first | rfl | (go_simp; done)))) | ((with_reducible refine jis_load (ty := 33) (x := .tmp 5) rfl ?_); refine jload ?_ 33 (.tmp 5) rfl (w.heap.size + 1) 0 33 (EC x vr vl) (EC x vr vl) _ rfl HR6.out.b.mb Tryz.underlying33 rfl size_msg (fun j _ => by rw [Nat.zero_add]) ?_; (focus (first | rfl | (go_simp; done)))) | ((with_reducible refine jis_load (ty := 41) (x := .tmp 9) rfl ?_); refine jload ?_ 41 (.tmp 9) rfl g 0 41 (TC ⟨0, [82], tries, x.rel, 0⟩) #[.int .i64 0, .string { data := #[82] }, .int .i64 tries, .int .i64 x.rel, .int .i64 0] _ rfl HR6.out.t_ Tryz.underlying41 rfl jsize_st (fun j _ => by rw [Nat.zero_add]; rfl) ?_; (focus (first | rfl | (go_simp; done)))))
      refine kT.mono ?_
      rintro r w7 ⟨v1, rfl, ho, hb⟩
      have H7 := Lib.hid (HR6.out.next hb)
      clear hb HR6 kT ho
      go_upto_region 11 with (first | (refine wpList_store_blk rfl 41 (.tmp 12) (.tmp 65) rfl w7.heap.size 0 41 (TC zeroT) (TC T) (TC T) rfl rfl (newOf w7 _) jsize_st (one_TC _) (Nat.le_of_eq rfl) (whole_TC _ _ rfl) ?_; intro w8 hB8 hA8))
      have H8 := Lib.hid (H7.out.next (far_apart hA8))
      have G8 := Lib.hid hB8
      clear hA8 hB8 H7
      generalize w7.heap.size = g1 at *
      have c2 : w8.cell? ⟨g1, 2, none⟩ = some (.int .i64 (tries + 1)) := by rw [← HF.out.1]; exact cellOf G8.out 2
      have c1 : w8.cell? ⟨g1, 1, none⟩ = some (.string { data := #[71] }) := (cellOf G8.out 1).trans (by show some (Value.string (mkS T.st)) = _; rw [HF.out.2.1]; rfl)
      have c3 : w8.cell? ⟨g1, 3, none⟩ = some (.int .i64 x.rel) := (cellOf G8.out 3).trans (by show some (Value.int .i64 T.ne) = _; rw [HF.out.2.2])
      have t3 : w8.cell? ⟨g, 3, none⟩ = some (.int .i64 x.rel) := cellOf H8.out.t_ 3
      have s3 : w8.cell? ⟨k, 3, none⟩ = some (.string { data := #[71] }) := cellOf H8.out.s_ 3
      go_wp2_with fail
      go_quiet (fail)
      go_wp2_with fail
      go_roundw
      case rel => exact ⟨4, by decide, rfl, Lib.hid (H8.out.next (below_drewN (Below.refl _ _) _))⟩
      case measure => decide
    | 4, _ =>
      have kT := HTR.out 4 wr HR6.out.b.below
      have hF := HU.out 4 (by decide)
      rw [hF.1] at kT
      generalize tryT p x ⟨0, [82], tries, x.rel, 0⟩ now 4 = T at kT hF
      generalize tryL p x ⟨0, [82], tries, x.rel, 0⟩ now 4 = L at kT
      have HF := Lib.hid hF.2
      clear hF
      go_wp2_with (first | ((with_reducible refine jis_load (ty := 23) (x := .tmp 4) rfl ?_); refine jload ?_ 23 (.tmp 4) rfl (w.heap.size) 0 23 #[.int .i64 p.base, .int .i64 p.most, .int .i64 p.life, .int .i64 p.warn] #[.int .i64 p.base, .int .i64 p.most, .int .i64 p.life, .int .i64 p.warn] _ rfl HR6.out.b.pb Tryz.underlying23 rfl jsize_plan (fun j _ => by rw [Nat.zero_add]) ?_; (focus (first | rfl | (go_simp; done)))) | ((with_reducible refine jis_load (ty := 33) (x := .tmp 5) rfl ?_); refine jload ?_ 33 (.tmp 5) rfl (w.heap.size + 1) 0 33 (EC x vr vl) (EC x vr vl) _ rfl HR6.out.b.mb Tryz.underlying33 rfl size_msg (fun j _ => by rw [Nat.zero_add]) ?_; (focus (first | rfl | (go_simp; done)))) | ((with_reducible refine jis_load (ty := 41) (x := .tmp 9) rfl ?_); refine jload ?_ 41 (.tmp 9) rfl g 0 41 (TC ⟨0, [82], tries, x.rel, 0⟩) #[.int .i64 0, .string { data := #[82] }, .int .i64 tries, .int .i64 x.rel, .int .i64 0] _ rfl HR6.out.t_ Tryz.underlying41 rfl jsize_st (fun j _ => by rw [Nat.zero_add]; rfl) ?_; (focus (first | rfl | (go_simp; done)))))
      refine kT.mono ?_
      rintro r w7 ⟨v1, rfl, ho, hb⟩
      have H7 := Lib.hid (HR6.out.next hb)
      clear hb HR6 kT ho
      go_upto_region 11 with (first | (refine wpList_store_blk rfl 41 (.tmp 12) (.tmp 65) rfl w7.heap.size 0 41 (TC zeroT) (TC T) (TC T) rfl rfl (newOf w7 _) jsize_st (one_TC _) (Nat.le_of_eq rfl) (whole_TC _ _ rfl) ?_; intro w8 hB8 hA8))
      have H8 := Lib.hid (H7.out.next (far_apart hA8))
      have G8 := Lib.hid hB8
      clear hA8 hB8 H7
      generalize w7.heap.size = g1 at *
      have c2 : w8.cell? ⟨g1, 2, none⟩ = some (.int .i64 (tries + 1)) := by rw [← HF.out.1]; exact cellOf G8.out 2
      have s3 : w8.cell? ⟨k, 4, none⟩ = some (.string { data := #[] }) := cellOf H8.out.s_ 4
      go_upto_region 19 with fail
      clear c2 s3
      go_wp2_with (first | ((with_reducible refine jis_load (ty := 33) (x := .tmp 5) rfl ?_); refine jload ?_ 33 (.tmp 5) rfl (w.heap.size + 1) 0 33 (EC x vr vl) (EC x vr vl) _ rfl H8.out.b.mb Tryz.underlying33 rfl size_msg (fun j _ => by rw [Nat.zero_add]) ?_; (focus (first | rfl | (go_simp; done)))))
      refine (deadline_x x vr vl _ HB.out).mono ?_
      rintro r w9 ⟨rfl, hb⟩
      have H9 := Lib.hid (H8.out.next hb)
      have G9 := Lib.hid ((hb.block _ (ltOf G8.out)).trans G8.out)
      clear hb H8 G8
      go_upto_region 20 with fail
      obtain ⟨hb, HHB⟩ : ∃ hb, Hid (hb = x.m.hb) := ⟨_, Lib.hid rfl⟩
      obtain ⟨dv, HDV⟩ : ∃ dv, Hid (dv = dlV x) := ⟨_, Lib.hid rfl⟩
      rw [← HHB.out, ← HDV.out]
      go_cut [17] from 123 (fun a wc => a = .bool (overJ p x now) ∧ Hid (OW w p x vr vl g k ⟨0, [82], tries, x.rel, 0⟩ wc ∧ wc.heap[g1]? = some (.cells (TC T) 41 (0, 0))))
      case first =>
        have HX := Lib.hid (fun w' => expires_x p x vr vl w' HOK.out HB.out)
        have HMO := Lib.hid (mode_of HEN.out)
        have HOV := Lib.hid (show overJ p x now = (decide (expJ p x ≤ now) || (hb && decide (dlJ x ≤ now) && backB x.m.mode)) by rw [HHB.out]; unfold overJ bkJ comeJ; rw [Bool.or_comm])
        generalize expJ p x = ex at HX HOV
        rcases Bool.eq_false_or_eq_true (decide (ex ≤ now)) with d1 | d1
        · have HV := Lib.hid (show overJ p x now = true by rw [HOV.out, d1]; rfl)
          go_wp2_with (first | ((with_reducible refine jis_load (ty := 23) (x := .tmp 4) rfl ?_); refine jload ?_ 23 (.tmp 4) rfl (w.heap.size) 0 23 #[.int .i64 p.base, .int .i64 p.most, .int .i64 p.life, .int .i64 p.warn] #[.int .i64 p.base, .int .i64 p.most, .int .i64 p.life, .int .i64 p.warn] _ rfl H9.out.b.pb Tryz.underlying23 rfl jsize_plan (fun j _ => by rw [Nat.zero_add]) ?_; (focus (first | rfl | (go_simp; done)))) | ((with_reducible refine jis_load (ty := 33) (x := .tmp 5) rfl ?_); refine jload ?_ 33 (.tmp 5) rfl (w.heap.size + 1) 0 33 (EC x vr vl) (EC x vr vl) _ rfl H9.out.b.mb Tryz.underlying33 rfl size_msg (fun j _ => by rw [Nat.zero_add]) ?_; (focus (first | rfl | (go_simp; done)))))
          refine (HX.out _).mono ?_
          rintro r wa ⟨rfl, hb⟩
          have Ha := Lib.hid (And.intro (H9.out.next hb) ((hb.block _ (ltOf G9.out)).trans G9.out))
          clear hb H9 G9
          go_wp2_with fail
          go_meet
          case rel => exact ⟨congrArg Value.bool HV.out.symm, Ha⟩
        have HD1 := Lib.hid d1
        cases hb
        · have HV := Lib.hid (show overJ p x now = false by rw [HOV.out, HD1.out]; rfl)
          go_wp2_with (first | ((with_reducible refine jis_load (ty := 23) (x := .tmp 4) rfl ?_); refine jload ?_ 23 (.tmp 4) rfl (w.heap.size) 0 23 #[.int .i64 p.base, .int .i64 p.most, .int .i64 p.life, .int .i64 p.warn] #[.int .i64 p.base, .int .i64 p.most, .int .i64 p.life, .int .i64 p.warn] _ rfl H9.out.b.pb Tryz.underlying23 rfl jsize_plan (fun j _ => by rw [Nat.zero_add]) ?_; (focus (first | rfl | (go_simp; done)))) | ((with_reducible refine jis_load (ty := 33) (x := .tmp 5) rfl ?_); refine jload ?_ 33 (.tmp 5) rfl (w.heap.size + 1) 0 33 (EC x vr vl) (EC x vr vl) _ rfl H9.out.b.mb Tryz.underlying33 rfl size_msg (fun j _ => by rw [Nat.zero_add]) ?_; (focus (first | rfl | (go_simp; done)))))
          refine (HX.out _).mono ?_
          rintro r wa ⟨rfl, hb⟩
          have Ha := Lib.hid (And.intro (H9.out.next hb) ((hb.block _ (ltOf G9.out)).trans G9.out))
          clear hb H9 G9
          go_wp2_with fail
          go_meet
          case rel => exact ⟨congrArg Value.bool HV.out.symm, Ha⟩
        · have hd : dv = dlJ x := by
            rw [HDV.out]
            unfold dlV
            rw [← HHB.out]; rfl
          rw [← hd] at HOV
          clear hd
          rcases Bool.eq_false_or_eq_true (decide (dv ≤ now)) with d2 | d2
          rotate_left
          · have HV := Lib.hid (show overJ p x now = false by rw [HOV.out, HD1.out, d2]; rfl)
            go_wp2_with (first | ((with_reducible refine jis_load (ty := 23) (x := .tmp 4) rfl ?_); refine jload ?_ 23 (.tmp 4) rfl (w.heap.size) 0 23 #[.int .i64 p.base, .int .i64 p.most, .int .i64 p.life, .int .i64 p.warn] #[.int .i64 p.base, .int .i64 p.most, .int .i64 p.life, .int .i64 p.warn] _ rfl H9.out.b.pb Tryz.underlying23 rfl jsize_plan (fun j _ => by rw [Nat.zero_add]) ?_; (focus (first | rfl | (go_simp; done)))) | ((with_reducible refine jis_load (ty := 33) (x := .tmp 5) rfl ?_); refine jload ?_ 33 (.tmp 5) rfl (w.heap.size + 1) 0 33 (EC x vr vl) (EC x vr vl) _ rfl H9.out.b.mb Tryz.underlying33 rfl size_msg (fun j _ => by rw [Nat.zero_add]) ?_; (focus (first | rfl | (go_simp; done)))))
            refine (HX.out _).mono ?_
            rintro r wa ⟨rfl, hb⟩
            have Ha := Lib.hid (And.intro (H9.out.next hb) ((hb.block _ (ltOf G9.out)).trans G9.out))
            clear hb H9 G9
            go_wp2_with fail
            go_meet
            case rel => exact ⟨congrArg Value.bool HV.out.symm, Ha⟩
          have HD2 := Lib.hid d2
          rcases HMO.out HHB.out.symm with hm | hm | hm | hm
          · have HV := Lib.hid (show overJ p x now = true by rw [HOV.out, HD1.out, HD2.out, hm]; rfl)
            have HMM := Lib.hid hm
            clear hm
            go_wp2_with (first | ((with_reducible refine jis_load (ty := 23) (x := .tmp 4) rfl ?_); refine jload ?_ 23 (.tmp 4) rfl (w.heap.size) 0 23 #[.int .i64 p.base, .int .i64 p.most, .int .i64 p.life, .int .i64 p.warn] #[.int .i64 p.base, .int .i64 p.most, .int .i64 p.life, .int .i64 p.warn] _ rfl H9.out.b.pb Tryz.underlying23 rfl jsize_plan (fun j _ => by rw [Nat.zero_add]) ?_; (focus (first | rfl | (go_simp; done)))) | ((with_reducible refine jis_load (ty := 33) (x := .tmp 5) rfl ?_); refine jload ?_ 33 (.tmp 5) rfl (w.heap.size + 1) 0 33 (EC x vr vl) (EC x vr vl) _ rfl H9.out.b.mb Tryz.underlying33 rfl size_msg (fun j _ => by rw [Nat.zero_add]) ?_; (focus (first | rfl | (go_simp; done)))))
            refine (HX.out _).mono ?_
            rintro r wa ⟨rfl, hb⟩
            have Ha := Lib.hid (And.intro (H9.out.next hb) ((hb.block _ (ltOf G9.out)).trans G9.out))
            have cm : wa.cell? ⟨w.heap.size + 1, 18, none⟩ = some (.string { data := #[82] }) := by rw [show (Value.string { data := #[82] }) = Value.string (mkS x.m.mode) by rw [HMM.out]; rfl]; exact cellOf Ha.out.1.b.mb 18
            clear hb H9 G9
            go_wp2_with fail
            go_meet
            case rel => exact ⟨congrArg Value.bool HV.out.symm, Ha⟩
          · have HV := Lib.hid (show overJ p x now = false by rw [HOV.out, HD1.out, HD2.out, hm]; rfl)
            have HMM := Lib.hid hm
            clear hm
            go_wp2_with (first | ((with_reducible refine jis_load (ty := 23) (x := .tmp 4) rfl ?_); refine jload ?_ 23 (.tmp 4) rfl (w.heap.size) 0 23 #[.int .i64 p.base, .int .i64 p.most, .int .i64 p.life, .int .i64 p.warn] #[.int .i64 p.base, .int .i64 p.most, .int .i64 p.life, .int .i64 p.warn] _ rfl H9.out.b.pb Tryz.underlying23 rfl jsize_plan (fun j _ => by rw [Nat.zero_add]) ?_; (focus (first | rfl | (go_simp; done)))) | ((with_reducible refine jis_load (ty := 33) (x := .tmp 5) rfl ?_); refine jload ?_ 33 (.tmp 5) rfl (w.heap.size + 1) 0 33 (EC x vr vl) (EC x vr vl) _ rfl H9.out.b.mb Tryz.underlying33 rfl size_msg (fun j _ => by rw [Nat.zero_add]) ?_; (focus (first | rfl | (go_simp; done)))))
            refine (HX.out _).mono ?_
            rintro r wa ⟨rfl, hb⟩
            have Ha := Lib.hid (And.intro (H9.out.next hb) ((hb.block _ (ltOf G9.out)).trans G9.out))
            have cm : wa.cell? ⟨w.heap.size + 1, 18, none⟩ = some (.string { data := #[78] }) := by rw [show (Value.string { data := #[78] }) = Value.string (mkS x.m.mode) by rw [HMM.out]; rfl]; exact cellOf Ha.out.1.b.mb 18
            clear hb H9 G9
            go_wp2_with fail
            go_meet
            case rel => exact ⟨congrArg Value.bool HV.out.symm, Ha⟩
          · have HV := Lib.hid (show overJ p x now = true by rw [HOV.out, HD1.out, HD2.out, hm]; rfl)
            have HMM := Lib.hid hm
            clear hm
            go_wp2_with (first | ((with_reducible refine jis_load (ty := 23) (x := .tmp 4) rfl ?_); refine jload ?_ 23 (.tmp 4) rfl (w.heap.size) 0 23 #[.int .i64 p.base, .int .i64 p.most, .int .i64 p.life, .int .i64 p.warn] #[.int .i64 p.base, .int .i64 p.most, .int .i64 p.life, .int .i64 p.warn] _ rfl H9.out.b.pb Tryz.underlying23 rfl jsize_plan (fun j _ => by rw [Nat.zero_add]) ?_; (focus (first | rfl | (go_simp; done)))) | ((with_reducible refine jis_load (ty := 33) (x := .tmp 5) rfl ?_); refine jload ?_ 33 (.tmp 5) rfl (w.heap.size + 1) 0 33 (EC x vr vl) (EC x vr vl) _ rfl H9.out.b.mb Tryz.underlying33 rfl size_msg (fun j _ => by rw [Nat.zero_add]) ?_; (focus (first | rfl | (go_simp; done)))))
            refine (HX.out _).mono ?_
            rintro r wa ⟨rfl, hb⟩
            have Ha := Lib.hid (And.intro (H9.out.next hb) ((hb.block _ (ltOf G9.out)).trans G9.out))
            have cm : wa.cell? ⟨w.heap.size + 1, 18, none⟩ = some (.string { data := #[82, 84] }) := by rw [show (Value.string { data := #[82, 84] }) = Value.string (mkS x.m.mode) by rw [HMM.out]; rfl]; exact cellOf Ha.out.1.b.mb 18
            clear hb H9 G9
            go_wp2_with fail
            go_meet
            case rel => exact ⟨congrArg Value.bool HV.out.symm, Ha⟩
          · have HV := Lib.hid (show overJ p x now = false by rw [HOV.out, HD1.out, HD2.out, hm]; rfl)
            have HMM := Lib.hid hm
            clear hm
            go_wp2_with (first | ((with_reducible refine jis_load (ty := 23) (x := .tmp 4) rfl ?_); refine jload ?_ 23 (.tmp 4) rfl (w.heap.size) 0 23 #[.int .i64 p.base, .int .i64 p.most, .int .i64 p.life, .int .i64 p.warn] #[.int .i64 p.base, .int .i64 p.most, .int .i64 p.life, .int .i64 p.warn] _ rfl H9.out.b.pb Tryz.underlying23 rfl jsize_plan (fun j _ => by rw [Nat.zero_add]) ?_; (focus (first | rfl | (go_simp; done)))) | ((with_reducible refine jis_load (ty := 33) (x := .tmp 5) rfl ?_); refine jload ?_ 33 (.tmp 5) rfl (w.heap.size + 1) 0 33 (EC x vr vl) (EC x vr vl) _ rfl H9.out.b.mb Tryz.underlying33 rfl size_msg (fun j _ => by rw [Nat.zero_add]) ?_; (focus (first | rfl | (go_simp; done)))))
            refine (HX.out _).mono ?_
            rintro r wa ⟨rfl, hb⟩
            have Ha := Lib.hid (And.intro (H9.out.next hb) ((hb.block _ (ltOf G9.out)).trans G9.out))
            have cm : wa.cell? ⟨w.heap.size + 1, 18, none⟩ = some (.string { data := #[78, 84] }) := by rw [show (Value.string { data := #[78, 84] }) = Value.string (mkS x.m.mode) by rw [HMM.out]; rfl]; exact cellOf Ha.out.1.b.mb 18
            clear hb H9 G9
            go_wp2_with fail
            go_meet
            case rel => exact ⟨congrArg Value.bool HV.out.symm, Ha⟩
      case rest =>
      obtain ⟨rfl, HG⟩ := hcut
      go_upto_region 21 with fail
      have HWL := Lib.hid (waitJ_lo HOK.out (tries + 1))
      have HWA := Lib.hid (fun w' => jwait_x p (tries + 1) w' HOK.out (by have := HT.out; omega) (by have := HT.out; omega))
      have HPM := Lib.hid (okP_iff.1 HOK.out)
      have HF2 := Lib.hid HF.out.2.1
      have HF3 := Lib.hid HF.out.2.2
      generalize waitJ p (tries + 1) = wt at HWL HWA HF2
      have W2 : IntKind.i64.wrap (now + wt) = now + wt := IntWalk.i64_in _ (by have := HWL.out; have := HPM.out; have := HW.out; omega)
      obtain ⟨Y, F, f0, hf0, hF1, hF2⟩ := jcls wc
      have key : ∀ {g : Nat} {o : Obj}, wc.heap[g]? = some o → ∀ y, (F y).heap[g]? = some o := fun hg y => ((hF1 y).block _ (ltOf hg)).trans hg
      have X0 : ∀ y, (F y).cell? ⟨w.heap.size, 0, none⟩ = some (.int .i64 p.base) := fun y => cellOf (key HG.out.1.b.pb y) 0
      have X1 : ∀ y, (F y).cell? ⟨w.heap.size, 1, none⟩ = some (.int .i64 p.most) := fun y => cellOf (key HG.out.1.b.pb y) 1
      have X2 : ∀ y, (F y).cell? ⟨w.heap.size, 2, none⟩ = some (.int .i64 p.life) := fun y => cellOf (key HG.out.1.b.pb y) 2
      have X3 : ∀ y, (F y).cell? ⟨w.heap.size, 3, none⟩ = some (.int .i64 p.warn) := fun y => cellOf (key HG.out.1.b.pb y) 3
      have X4 : ∀ y, (F y).cell? ⟨g1, 3, none⟩ = some (.int .i64 (now + wt)) := fun y => by rw [← HF2.out]; exact cellOf (key HG.out.2 y) 3
      have CW := Lib.hid (jin_cls hF1 hF2 fun w' _ => HWA.out w')
      have HN1 := Lib.hid hF1
      have hNE : Nonempty Y := ⟨f0⟩
      cases hov : overJ p x now
      · have X5 : ∀ y, (F y).cell? ⟨g1, 1, none⟩ = some (.string { data := #[82] }) := fun y => (cellOf (key HG.out.2 y) 1).trans (by show some (Value.string (mkS T.st)) = _; rw [HF3.out, hov]; rfl)
        clear hov hF1 hF2 key
        refine jregion (by kernel_rfl) (by kernel_rfl) F f0 hf0 ?_
        repeat (go_big_quiet_step (first | (go_at_call 18; (with_reducible exact CW.out _))))
        refine wpQuiet_nil ?_
        rintro _ ⟨z, rfl⟩
        have HZ := Lib.hid (HG.out.1.next (HN1.out z))
        go_wp2_with fail
        go_roundw
        case rel => exact ⟨5, by decide, rfl, HZ⟩
        case measure => decide
      · have X5 : ∀ y, (F y).cell? ⟨g1, 1, none⟩ = some (.string { data := #[70] }) := fun y => (cellOf (key HG.out.2 y) 1).trans (by show some (Value.string (mkS T.st)) = _; rw [HF3.out, hov]; rfl)
        clear hov hF1 hF2 key
        refine jregion (by kernel_rfl) (by kernel_rfl) F f0 hf0 ?_
        repeat (go_big_quiet_step (first | (go_at_call 18; (with_reducible exact CW.out _))))
        refine wpQuiet_nil ?_
        rintro _ ⟨z, rfl⟩
        have HZ := Lib.hid (HG.out.1.next (HN1.out z))
        go_wp2_with fail
        go_roundw
        case rel => exact ⟨5, by decide, rfl, HZ⟩
        case measure => decide
    | 5, _ =>
      have kT := HTR.out 5 wr HR6.out.b.below
      have hF := HD.out 5 [70] (by decide)
      rw [hF.1] at kT
      generalize tryT p x ⟨0, [82], tries, x.rel, 0⟩ now 5 = T at kT hF
      generalize tryL p x ⟨0, [82], tries, x.rel, 0⟩ now 5 = L at kT
      have F1 : T.tr = tries + 1 := hF.2.2.1.trans HMN.out
      have HF := Lib.hid (And.intro F1 (And.intro hF.2.1 hF.2.2.2.1))
      clear hF F1
      go_wp2_with (first | ((with_reducible refine jis_load (ty := 23) (x := .tmp 4) rfl ?_); refine jload ?_ 23 (.tmp 4) rfl (w.heap.size) 0 23 #[.int .i64 p.base, .int .i64 p.most, .int .i64 p.life, .int .i64 p.warn] #[.int .i64 p.base, .int .i64 p.most, .int .i64 p.life, .int .i64 p.warn] _ rfl HR6.out.b.pb Tryz.underlying23 rfl jsize_plan (fun j _ => by rw [Nat.zero_add]) ?_; (focus (first | rfl | (go_simp; done)))) | ((with_reducible refine jis_load (ty := 33) (x := .tmp 5) rfl ?_); refine jload ?_ 33 (.tmp 5) rfl (w.heap.size + 1) 0 33 (EC x vr vl) (EC x vr vl) _ rfl HR6.out.b.mb Tryz.underlying33 rfl size_msg (fun j _ => by rw [Nat.zero_add]) ?_; (focus (first | rfl | (go_simp; done)))) | ((with_reducible refine jis_load (ty := 41) (x := .tmp 9) rfl ?_); refine jload ?_ 41 (.tmp 9) rfl g 0 41 (TC ⟨0, [82], tries, x.rel, 0⟩) #[.int .i64 0, .string { data := #[82] }, .int .i64 tries, .int .i64 x.rel, .int .i64 0] _ rfl HR6.out.t_ Tryz.underlying41 rfl jsize_st (fun j _ => by rw [Nat.zero_add]; rfl) ?_; (focus (first | rfl | (go_simp; done)))))
      refine kT.mono ?_
      rintro r w7 ⟨v1, rfl, ho, hb⟩
      have H7 := Lib.hid (HR6.out.next hb)
      clear hb HR6 kT ho
      go_upto_region 11 with (first | (refine wpList_store_blk rfl 41 (.tmp 12) (.tmp 65) rfl w7.heap.size 0 41 (TC zeroT) (TC T) (TC T) rfl rfl (newOf w7 _) jsize_st (one_TC _) (Nat.le_of_eq rfl) (whole_TC _ _ rfl) ?_; intro w8 hB8 hA8))
      have H8 := Lib.hid (H7.out.next (far_apart hA8))
      have G8 := Lib.hid hB8
      clear hA8 hB8 H7
      generalize w7.heap.size = g1 at *
      have c2 : w8.cell? ⟨g1, 2, none⟩ = some (.int .i64 (tries + 1)) := by rw [← HF.out.1]; exact cellOf G8.out 2
      have c1 : w8.cell? ⟨g1, 1, none⟩ = some (.string { data := #[70] }) := (cellOf G8.out 1).trans (by show some (Value.string (mkS T.st)) = _; rw [HF.out.2.1]; rfl)
      have c3 : w8.cell? ⟨g1, 3, none⟩ = some (.int .i64 x.rel) := (cellOf G8.out 3).trans (by show some (Value.int .i64 T.ne) = _; rw [HF.out.2.2])
      have t3 : w8.cell? ⟨g, 3, none⟩ = some (.int .i64 x.rel) := cellOf H8.out.t_ 3
      have s3 : w8.cell? ⟨k, 5, none⟩ = some (.string { data := #[70] }) := cellOf H8.out.s_ 5
      go_wp2_with fail
      go_quiet (fail)
      go_wp2_with fail
      go_roundw
      case rel => exact ⟨6, by decide, rfl, Lib.hid (H8.out.next (below_drewN (Below.refl _ _) _))⟩
      case measure => decide
    | 6, _ =>
      go_wp2_with fail
      go_ret
      exact ⟨rfl, HR6.out.b.below⟩
    | j + 7, h => omega
end Go.Proofs.YtcedhgihebollaaGreatDoor.E.J
