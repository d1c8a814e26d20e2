/-
  The walk of the law FrameTells.
-/
import Derived.Test.YtfejepkpjoieoaaFrAwake
import Derived.Test.YtfejepkpjoieoaaFrRef
namespace Go.Proofs.Ytfejepkpjoieoaa
set_option maxRecDepth 100000
open Go.RowKit
set_option maxHeartbeats 2000000 in
theorem frameTells_x (v : Value) (l : List Txt) (s : Txt) (w : World) (hv : TxtsAt w v l) (hz : ∀ t ∈ l, t.length ≤ 140737488355328) (hs : s.length ≤ 140737488355328) :
    Calls Try.prog 3 #[v, .string (mkS s)] w fun e w' => e = .returned (.bool true) ∧ Below w.heap.size w w' := by
  have hms := mkS_size s
  have HA := Lib.hid (awake_x w)
  have HV := Lib.hid hv
  have HFw := Lib.hid (fun (W : World) (hb : Below w.heap.size w W) => few_x v l W (hv.below hb) hz)
  obtain ⟨A, c, rfl, -⟩ := id hv
  clear hv
  go_enter Try.func3, Try.ntmps3
  go_wp2_with fail
  refine HA.out.mono ?_
  rintro e w1 ⟨rfl, hb1⟩
  have HB1 := Lib.hid hb1
  clear hb1
  go_wp2_with fail
  refine (HFw.out _ HB1.out).mono ?_
  rintro e w2 ⟨rfl, rfl⟩
  cases hf : fewF l
  · clear hf
    go_wp2_with fail
    go_ret
    exact ⟨rfl, HB1.out⟩
  · have HF := Lib.hid (few_yes hf)
    clear hf
    by_cases h2 : 20000 < s.length
    · have d1 : decide ((20000 : Int) < (s.length : Int)) = true := decide_eq_true (by omega)
      go_wp2_with fail
      go_ret
      exact ⟨rfl, HB1.out⟩
    · have d1 : decide ((20000 : Int) < (s.length : Int)) = false := decide_eq_false (by omega)
      go_wp2_with (at_builtin; refine app_new rfl (.tmp 24) (.tmp 25) rfl _ rfl (by simp) _ l rfl (HV.out.below HB1.out) (by have := HF.out.1; omega) ?_; intro v3 w3 hown3 hb3)
      have HB3 := Lib.hid (below_next HB1.out hb3)
      refine (print_x v3 l w3 (own_txts hown3) (by have := HF.out.2.2; omega)).mono ?_
      unfold PrintPost
      rintro e w4 ⟨rfl, hb4⟩
      have HB4 := Lib.hid (below_next HB3.out hb4)
      clear hown3 hb3 hb4
      go_wp2_with fail
      refine (rprint_x _ l w4 (HV.out.below HB4.out) (by have := HF.out.2.2; omega)).mono ?_
      unfold PrintPost
      rintro e w5 ⟨rfl, hb5⟩
      have HB5 := Lib.hid (below_next HB4.out hb5)
      clear hb5
      generalize printF l = pf
      generalize printE l = pe
      go_wp2_with fail
      refine (scan_x s w5 (by omega)).mono ?_
      unfold ScanPost
      rintro e w6 ⟨v6, rfl, hT6, hb6⟩
      have HB6 := Lib.hid (below_next HB5.out hb6)
      have HT6 := Lib.hid hT6
      obtain ⟨A6, c6, rfl, -⟩ := id hT6
      clear hT6 hb6
      go_wp2_with fail
      refine (rscan_x s w6 (by omega)).mono ?_
      unfold RScanPost
      rintro e w7 ⟨v7, rfl, hT7, hb7⟩
      have HB7 := Lib.hid (below_next HB6.out hb7)
      have HT7 := Lib.hid hT7
      have HT6' := Lib.hid (HT6.out.below hb7)
      obtain ⟨A7, c7, rfl, -⟩ := id hT7
      have hsn : (scanF s).length ≤ 1000000000 := by have := framesF_len (scanF s); have := scanF_len s; omega
      clear hT7 hb7
      generalize (framesF (scanF s)).length = n
      generalize scanF s = sc at HT6 HT6' HT7 hsn
      go_wp2_with fail
      refine (same_x _ _ _ _ w7 HT6'.out HT7.out hsn).mono ?_
      rintro e w8 ⟨rfl, m, rfl⟩
      have HB8 := Lib.hid (below_drewN HB7.out m)
      simp only [beq_self_eq_true]
      go_wp2_with fail
      refine (sum_x s _ (by omega)).mono ?_
      rintro e w9 ⟨rfl, rfl⟩
      go_wp2_with fail
      refine (rsum_x s _ (by omega)).mono ?_
      rintro e w9 ⟨rfl, rfl⟩
      generalize sumF s = ss
      go_wp2_with fail
      refine (size_x s _ (by omega)).mono ?_
      rintro e w9 ⟨rfl, rfl⟩
      go_wp2_with fail
      go_ret
      exact ⟨rfl, HB8.out⟩
end Go.Proofs.Ytfejepkpjoieoaa
