/-
  The walk of the law FrameCut.
-/
import Derived.Test.YtfejepkpjoieoaaFrAwake
import Derived.Test.YtfejepkpjoieoaaFrCut
namespace Go.Proofs.Ytfejepkpjoieoaa
set_option maxRecDepth 100000
open Go.RowKit
set_option maxHeartbeats 2000000 in
theorem frameCut_x (v : Value) (l : List Txt) (cut : Int) (w : World) (hv : TxtsAt w v l) (hz : ∀ t ∈ l, t.length ≤ 140737488355328) (hc1 : IntKind.i64.min ≤ cut) (hc2 : cut ≤ IntKind.i64.max) :
    Calls Try.prog 5 #[v, .int .i64 cut] w fun e w' => e = .returned (.bool true) ∧ Below w.heap.size w w' := by
  have hc1 : (-9223372036854775808 : Int) ≤ cut := hc1
  have hc2 : cut ≤ 9223372036854775807 := hc2
  have HA := Lib.hid (awake_x w)
  have HV := Lib.hid hv
  have HFw := Lib.hid (fun (W : World) (hb : Below w.heap.size w W) => few_x v l W (hv.below hb) hz)
  obtain ⟨A, c, rfl, hlc, hnc, hc⟩ := id hv
  have HC := Lib.hid hc
  clear hv hc hnc
  go_enter Try.func5, Try.ntmps5
  go_wp2_with fail
  refine HA.out.mono ?_
  rintro e w1 ⟨rfl, hb1⟩
  have HB1 := Lib.hid hb1
  clear hb1
  go_wp2_with fail
  refine (HFw.out _ HB1.out).mono ?_
  rintro e w2 ⟨rfl, rfl⟩
  cases hf : fewF l
  · clear hf
    go_wp2_with fail
    go_ret
    exact ⟨rfl, HB1.out⟩
  · have HF := Lib.hid (few_yes hf)
    clear hf
    by_cases h2 : cut < 0
    · go_wp2_with fail
      go_ret
      exact ⟨rfl, HB1.out⟩
    · obtain ⟨cu, rfl⟩ : ∃ cu : Nat, cut = cu := ⟨cut.toNat, by omega⟩
      have d1 : decide ((cu : Int) < 0) = false := decide_eq_false h2
      clear h2
      go_wp2_with (at_builtin; refine app_new rfl (.tmp 21) (.tmp 22) rfl _ rfl (by simp) _ l rfl (HV.out.below HB1.out) (by have := HF.out.1; omega) ?_; intro v5 w5 hown5 hb5)
      have HB5 := Lib.hid (below_next HB1.out hb5)
      refine (print_x v5 l w5 (own_txts hown5) (by have := HF.out.2.2; omega)).mono ?_
      unfold PrintPost
      rintro e w6 ⟨rfl, hb6⟩
      have HB6 := Lib.hid (below_next HB5.out hb6)
      clear hown5 hb5 hb6
      cases hlg : longF l
      · rw [(print_some hlg).1, (print_some hlg).2]
        have HLA := Lib.hid (long_all hlg)
        have hlen := HF.out.2.2
        have hll := HF.out.1
        have hmp := mkS_size (framesF l)
        have HCS := Lib.hid (fun k cut h1 h2 => cut_scan (l := l) (k := k) (cut := cut) HLA.out h1 h2)
        have HTL := Lib.hid (fun k => framesF_take_le l k)
        have HTK := Lib.hid (fun k t (h : l[k]? = some t) => show (framesF (l.take (k + 1))).length = (framesF (l.take k)).length + (t.length + 10) by rw [framesF_take h, List.length_append, frameF_len])
        have HF0 := Lib.hid (show (framesF (l.take 0)).length = 0 from rfl)
        have hex := mkS_extract (framesF l) 0
        clear hlg
        by_cases h0 : (framesF l).length = 0
        · have d2 : (((framesF l).length : Int) == 0) = true := beq_iff_eq.2 (by omega)
          generalize framesF l = fl at *
          go_wp2_with fail
          go_ret
          exact ⟨rfl, HB6.out⟩
        · have d2 : (((framesF l).length : Int) == 0) = false := beq_eq_false_iff_ne.2 (by omega)
          obtain ⟨m, hm⟩ : ∃ m : Nat, cu % ((framesF l).length + 1) = m := ⟨_, rfl⟩
          have hml : m ≤ (framesF l).length := by have := Nat.mod_lt cu (show 0 < (framesF l).length + 1 by omega); omega
          have e1 : (cu : Int) % ((framesF l).length + 1) = (m : Int) := by rw [← hm]; simp
          have hex1 := hex m
          rw [List.drop_zero] at hex1
          clear hex h0
          generalize hfl : framesF l = fl at *
          clear hfl hm
          go_wp2_with fail
          rw [e1]
          clear e1
          go_loop [7, 8] (fun n i => ∃ k q : Nat, k ≤ l.length ∧ i = .int .i64 k ∧ n = .int .i64 (q : Int) ∧ q ≤ m ∧ Hid (q = (framesF (l.take k)).length)) (fun _ i => l.length - (intOf i).toNat)
          case atStart => exact ⟨0, 0, Nat.zero_le _, rfl, rfl, Nat.zero_le _, Lib.hid HF0.out.symm⟩
          case round =>
            obtain ⟨k, q, hk, rfl, rfl, hq, HQ⟩ := hrel
            by_cases hend : ∀ t, l[k]? = some t → m < q + (t.length + 10)
            · have HR := Lib.hid (HCS.out k m (by rw [← HQ.out]; exact hq) (fun t ht => by rw [← HQ.out]; exact hend t ht))
              have hmz := mkS_size (fl.take m)
              have HX := Lib.hid (show ∀ w : World, Calls Try.prog 12 #[.string (mkS (fl.take m))] w fun e w' => ∃ v, e = .returned (.tuple #[v, .int .i64 (q : Int)]) ∧ TxtsAt w' v (l.take k) ∧ Below w.heap.size w w' from fun w => (scan_x (fl.take m) w (by rw [List.length_take]; omega)).mono fun e w' ⟨v, he, ht, hb⟩ => ⟨v, by rw [he, HR.out, HQ.out], by rw [HR.out] at ht; exact ht, hb⟩)
              have hkn : (l.take k).length = k := by rw [List.length_take]; omega
              have c1 : (0 : Int) ≤ (m : Int) := by omega
              have c2 : (m : Int) ≤ (fl.length : Int) := by omega
              have c3 : (m : Int).toNat = m := by omega
              by_cases hlt : k < l.length
              · obtain ⟨t, ht⟩ : ∃ t, l[k]? = some t := ⟨_, List.getElem?_eq_getElem hlt⟩
                have hmt := hend t ht
                obtain ⟨ad, rfl, hab, hcw⟩ := HC.out k t ht
                have hcl : w6.cell? (ad.add k) = some (.string (mkS t)) := (HB6.out.cell (by rw [add_block]; exact hab)).trans hcw
                have htz := HLA.out t (List.mem_of_getElem? ht)
                have HZ := Lib.hid (fun w => size_x t w (by omega))
                have d3 : decide ((q : Int) + ((t.length : Int) + 10) ≤ (m : Int)) = false := decide_eq_false (by omega)
                clear ht hend hab hcw
                go_wp2_with fail
                refine (HZ.out _).mono ?_
                rintro e w7 ⟨rfl, rfl⟩
                go_wp2_with fail
                refine (HX.out _).mono ?_
                rintro e w8 ⟨v8, rfl, hT8, hb8⟩
                obtain ⟨A8, c8, hv8, -⟩ := id hT8
                rw [hkn] at hv8
                subst hv8
                have HB8 := Lib.hid (below_next HB6.out hb8)
                have HT8 := Lib.hid hT8
                have HV8 := Lib.hid ((HV.out.below HB8.out).take hk)
                clear hT8 hb8 hcl
                go_wp2_with fail
                refine (same_x _ _ _ _ w8 HT8.out HV8.out (by omega)).mono ?_
                rintro e w10 ⟨rfl, mm, rfl⟩
                have HB10 := Lib.hid (below_drewN HB8.out mm)
                simp only [beq_self_eq_true]
                go_wp2_with fail
                go_ret
                exact ⟨rfl, HB10.out⟩
              · have hkl : k = l.length := by omega
                subst hkl
                clear hend
                go_wp2_with fail
                refine (HX.out _).mono ?_
                rintro e w8 ⟨v8, rfl, hT8, hb8⟩
                obtain ⟨A8, c8, hv8, -⟩ := id hT8
                rw [hkn] at hv8
                subst hv8
                have HB8 := Lib.hid (below_next HB6.out hb8)
                have HT8 := Lib.hid hT8
                have HV8 := Lib.hid ((HV.out.below HB8.out).take hk)
                clear hT8 hb8
                go_wp2_with fail
                refine (same_x _ _ _ _ w8 HT8.out HV8.out (by omega)).mono ?_
                rintro e w10 ⟨rfl, mm, rfl⟩
                have HB10 := Lib.hid (below_drewN HB8.out mm)
                simp only [beq_self_eq_true]
                go_wp2_with fail
                go_ret
                exact ⟨rfl, HB10.out⟩
            · obtain ⟨t, hnt⟩ := Classical.not_forall.1 hend
              obtain ⟨ht, hnm⟩ := Classical.not_imp.1 hnt
              have hlt := (List.getElem?_eq_some_iff.1 ht).1
              obtain ⟨ad, rfl, hab, hcw⟩ := HC.out k t ht
              have hcl : w6.cell? (ad.add k) = some (.string (mkS t)) := (HB6.out.cell (by rw [add_block]; exact hab)).trans hcw
              have htz := HLA.out t (List.mem_of_getElem? ht)
              have HZ := Lib.hid (fun w => size_x t w (by omega))
              have d3 : decide ((q : Int) + ((t.length : Int) + 10) ≤ (m : Int)) = true := decide_eq_true (by omega)
              have HQ2 := Lib.hid (show q + (t.length + 10) = (framesF (l.take (k + 1))).length by rw [HTK.out k t ht, HQ.out])
              clear ht hend hnt hab hcw
              go_wp2_with fail
              refine (HZ.out _).mono ?_
              rintro e w7 ⟨rfl, rfl⟩
              go_wp2_with fail
              refine (HZ.out _).mono ?_
              rintro e w7 ⟨rfl, rfl⟩
              go_wp2_with fail
              go_round
              case rel => exact ⟨k + 1, q + (t.length + 10), by omega, by go_num, by go_num, by omega, HQ2⟩
              case measure => simp [intOf]; omega
      · rw [(print_long hlg).1, (print_long hlg).2]
        rw [mkS_nil]
        clear hlg
        go_wp2_with fail
        go_ret
        exact ⟨rfl, HB6.out⟩
end Go.Proofs.Ytfejepkpjoieoaa
