/-
  The walk of the law FrameTurned.
-/
import Derived.Test.YtfejepkpjoieoaaFrAwake
import Derived.Test.YtfejepkpjoieoaaFrCut
import Derived.Test.YtfejepkpjoieoaaBytesIn
import Derived.Laws.BitsAllLaws
namespace Go.Proofs.Ytfejepkpjoieoaa
set_option maxRecDepth 100000
open Go.RowKit
set_option maxHeartbeats 2000000 in
theorem frameTurned_x (v : Value) (l : List Txt) (cut : Int) (tb : UInt8) (w : World) (hv : TxtsAt w v l) (hz : ∀ t ∈ l, t.length ≤ 140737488355328) (hc1 : IntKind.i64.min ≤ cut) (hc2 : cut ≤ IntKind.i64.max) :
    Calls Try.prog 6 #[v, .int .i64 cut, .int .u8 (tb.toNat : Int)] w fun e w' => e = .returned (.bool true) ∧ Below w.heap.size w w' := by
  have hc1 : (-9223372036854775808 : Int) ≤ cut := hc1
  have hc2 : cut ≤ 9223372036854775807 := hc2
  have HA := Lib.hid (awake_x w)
  have HV := Lib.hid hv
  have HFw := Lib.hid (fun (W : World) (hb : Below w.heap.size w W) => few_x v l W (hv.below hb) hz)
  obtain ⟨A, c, rfl, hlc, hnc, hc⟩ := id hv
  have HC := Lib.hid hc
  clear hv hc hnc
  go_enter Try.func6, Try.ntmps6
  go_wp2_with fail
  refine HA.out.mono ?_
  rintro e w1 ⟨rfl, hb1⟩
  have HB1 := Lib.hid hb1
  clear hb1
  go_wp2_with fail
  refine (HFw.out _ HB1.out).mono ?_
  rintro e w2 ⟨rfl, rfl⟩
  cases hf : fewF l
  · clear hf
    go_wp2_with fail
    go_ret
    exact ⟨rfl, HB1.out⟩
  · have HF := Lib.hid (few_yes hf)
    clear hf
    by_cases h2 : cut < 0
    · go_wp2_with fail
      go_ret
      exact ⟨rfl, HB1.out⟩
    · obtain ⟨cu, rfl⟩ : ∃ cu : Nat, cut = cu := ⟨cut.toNat, by omega⟩
      have d1 : decide ((cu : Int) < 0) = false := decide_eq_false h2
      have htb := tb.toNat_lt
      clear h2
      by_cases htz : tb = 0
      · have d3 : ((tb.toNat : Int) == 0) = true := by rw [htz]; rfl
        go_wp2_with fail
        go_ret
        exact ⟨rfl, HB1.out⟩
      · have d3 : ((tb.toNat : Int) == 0) = false := Bool.eq_false_iff.2 fun e => htz ((byte_eq (n := 0) (by decide)).1 e)
        have HTZ := Lib.hid htz
        clear htz
        go_wp2_with (at_builtin; refine app_new rfl (.tmp 28) (.tmp 29) rfl _ rfl (by simp) _ l rfl (HV.out.below HB1.out) (by have := HF.out.1; omega) ?_; intro v5 w5 hown5 hb5)
        have HB5 := Lib.hid (below_next HB1.out hb5)
        refine (print_x v5 l w5 (own_txts hown5) (by have := HF.out.2.2; omega)).mono ?_
        unfold PrintPost
        rintro e w6 ⟨rfl, hb6⟩
        have HB6 := Lib.hid (below_next HB5.out hb6)
        clear hown5 hb5 hb6
        cases hlg : longF l
        · rw [(print_some hlg).1, (print_some hlg).2]
          have HLA := Lib.hid (long_all hlg)
          have hlen := HF.out.2.2
          have hll := HF.out.1
          have hmp := mkS_size (framesF l)
          have HCS := Lib.hid (fun k m t b h0 h1 h2 h3 => turned_scan (l := l) (k := k) (at_ := m) (t := t) (b := b) (x := tb) HLA.out h0 h1 h2 h3 HTZ.out)
          have HTL := Lib.hid (fun k => framesF_take_le l k)
          have HTK := Lib.hid (fun k t (h : l[k]? = some t) => show (framesF (l.take (k + 1))).length = (framesF (l.take k)).length + (t.length + 10) by rw [framesF_take h, List.length_append, frameF_len])
          have HF0 := Lib.hid (show (framesF (l.take 0)).length = 0 from rfl)
          have HFE := Lib.hid (show (framesF (l.take l.length)).length = (framesF l).length by rw [List.take_length])
          clear hlg
          by_cases h0 : (framesF l).length = 0
          · have d2 : (((framesF l).length : Int) == 0) = true := beq_iff_eq.2 (by omega)
            generalize framesF l = fl at *
            go_wp2_with fail
            go_ret
            exact ⟨rfl, HB6.out⟩
          · have d2 : (((framesF l).length : Int) == 0) = false := beq_eq_false_iff_ne.2 (by omega)
            obtain ⟨m, hm⟩ : ∃ m : Nat, cu % (framesF l).length = m := ⟨_, rfl⟩
            have hml : m < (framesF l).length := by have := Nat.mod_lt cu (show 0 < (framesF l).length by omega); omega
            have e1 : (cu : Int) % ((framesF l).length : Int) = (m : Int) := by rw [← hm]; simp
            clear h0
            generalize hfl : framesF l = fl at *
            clear hfl hm
            go_wp2_with fail
            try rw [e1]
            clear e1
            go_loop [9, 10] (fun n i => ∃ k q : Nat, k < l.length ∧ i = .int .i64 k ∧ n = .int .i64 (q : Int) ∧ q ≤ m ∧ Hid (q = (framesF (l.take k)).length)) (fun _ i => l.length - (intOf i).toNat)
            case atStart => exact ⟨0, 0, by
              rcases Nat.eq_zero_or_pos l.length with h | h
              · have h1 := HFE.out
                have h2 := HF0.out
                rw [h] at h1
                omega
              · exact h, rfl, rfl, Nat.zero_le _, Lib.hid HF0.out.symm⟩
            case round =>
              obtain ⟨k, q, hk, rfl, rfl, hq, HQ⟩ := hrel
              obtain ⟨t, ht⟩ : ∃ t, l[k]? = some t := ⟨_, List.getElem?_eq_getElem hk⟩
              obtain ⟨ad, rfl, hab, hcw⟩ := HC.out k t ht
              have hcl : w6.cell? (ad.add k) = some (.string (mkS t)) := (HB6.out.cell (by rw [add_block]; exact hab)).trans hcw
              have htz := HLA.out t (List.mem_of_getElem? ht)
              have HZ := Lib.hid (fun w => size_x t w (by omega))
              by_cases hend : m < q + (t.length + 10)
              · have d4 : decide ((q : Int) + ((t.length : Int) + 10) ≤ (m : Int)) = false := decide_eq_false (by omega)
                obtain ⟨b, hb⟩ : ∃ b, fl[m]? = some b := ⟨_, List.getElem?_eq_getElem hml⟩
                obtain ⟨y, hy⟩ : ∃ y, b ^^^ tb = y := ⟨_, rfl⟩
                have HR := Lib.hid (HCS.out k m t b ht (by rw [← HQ.out]; exact hq) (by rw [← HQ.out]; exact hend) hb)
                rw [hy] at HR
                have ex : bits .xor .u8 (b.toNat : Int) (tb.toNat : Int) = (y.toNat : Int) := by
                  rw [u8_xor_nat _ _ b.toNat_lt tb.toNat_lt, ← UInt8.toNat_xor, hy]
                clear hy
                have hsl : (fl.set m y).length = fl.length := List.length_set
                have HX := Lib.hid (show ∀ w : World, Calls Try.prog 12 #[.string (mkS (fl.set m y))] w fun e w' => ∃ v, e = .returned (.tuple #[v, .int .i64 (q : Int)]) ∧ TxtsAt w' v (l.take k) ∧ Below w.heap.size w w' from fun w => (scan_x (fl.set m y) w (by rw [hsl]; omega)).mono fun e w' ⟨v, he, ht, hb⟩ => ⟨v, by rw [he, HR.out, HQ.out], by rw [HR.out] at ht; exact ht, hb⟩)
                have hkn : (l.take k).length = k := by rw [List.length_take]; omega
                have hcv := Lib.run_convert_string_bytes (P := Try.prog) w6 9 38 5 (mkS fl) Try.underlying9 Try.underlying38 Try.underlying5
                have HS := Lib.hid (SI.new w6 fl)
                rw [hmp] at hcv
                generalize Lib.bytesWorld w6 5 (mkS fl) = w7 at hcv HS
                generalize grownCap w6 fl.length 0 5 = cap at hcv
                have g0 := HS.out.cell hb
                have g1 := HS.out.free hml
                have HS2 := Lib.hid (HS.out.set (i := m) y)
                have hcv2 := HS2.out.text fl.length cap hsl
                clear ht hab hcw hend hb
                go_wp2_with fail
                refine (HZ.out _).mono ?_
                rintro e w8 ⟨rfl, rfl⟩
                go_wp2_with fail
                refine (HX.out _).mono ?_
                rintro e w9 ⟨v9, rfl, hT9, hb9⟩
                obtain ⟨A9, c9, hv9, -⟩ := id hT9
                rw [hkn] at hv9
                subst hv9
                have HB9 := Lib.hid (below_next (below_next HB6.out HS2.out.below) hb9)
                have HT9 := Lib.hid hT9
                have HV9 := Lib.hid ((HV.out.below HB9.out).take (Nat.le_of_lt hk))
                clear hT9 hb9 hcl hcv hcv2 g0 g1 ex
                go_wp2_with fail
                refine (same_x _ _ _ _ w9 HT9.out HV9.out (by omega)).mono ?_
                rintro e w10 ⟨rfl, mm, rfl⟩
                have HB10 := Lib.hid (below_drewN HB9.out mm)
                simp only [beq_self_eq_true]
                go_wp2_with fail
                go_ret
                exact ⟨rfl, HB10.out⟩
              · have d4 : decide ((q : Int) + ((t.length : Int) + 10) ≤ (m : Int)) = true := decide_eq_true (by omega)
                have HQ2 := Lib.hid (show q + (t.length + 10) = (framesF (l.take (k + 1))).length by rw [HTK.out k t ht, HQ.out])
                have hk2 : k + 1 < l.length := by
                  rcases Nat.lt_or_ge (k + 1) l.length with h | h
                  · exact h
                  · have h1 := HFE.out
                    rw [show l.length = k + 1 by omega, ← HQ2.out] at h1
                    omega
                have hqm : q + (t.length + 10) ≤ m := by omega
                clear ht hend hab hcw
                go_wp2_with fail
                refine (HZ.out _).mono ?_
                rintro e w7 ⟨rfl, rfl⟩
                go_wp2_with fail
                refine (HZ.out _).mono ?_
                rintro e w7 ⟨rfl, rfl⟩
                go_wp2_with fail
                go_round
                case rel => exact ⟨k + 1, q + (t.length + 10), hk2, by go_num, by go_num, by omega, HQ2⟩
                case measure => simp [intOf]; omega
        · rw [(print_long hlg).1, (print_long hlg).2]
          rw [mkS_nil]
          clear hlg
          go_wp2_with fail
          go_ret
          exact ⟨rfl, HB6.out⟩
end Go.Proofs.Ytfejepkpjoieoaa
