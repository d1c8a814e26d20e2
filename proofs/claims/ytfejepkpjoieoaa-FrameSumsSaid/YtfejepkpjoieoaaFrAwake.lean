/-
  The walks of few and awake.
-/
import Derived.Test.YtfejepkpjoieoaaFrPrint
import Derived.Test.YtfejepkpjoieoaaFrScan
namespace Go.Proofs.Ytfejepkpjoieoaa
set_option maxRecDepth 100000
open Go.RowKit
def lensF (l : List Txt) : Nat := (l.map List.length).sum
def fewF (l : List Txt) : Bool := decide (l.length ≤ 40) && decide (lensF l ≤ 70000)
theorem lensF_cons (t : Txt) (l : List Txt) : lensF (t :: l) = t.length + lensF l := by simp [lensF]
theorem lensF_append (l m : List Txt) : lensF (l ++ m) = lensF l + lensF m := by simp [lensF]
theorem lensF_take {l : List Txt} {k : Nat} {t : Txt} (h : l[k]? = some t) : lensF (l.take (k + 1)) = lensF (l.take k) + t.length := by
  obtain ⟨hk, e⟩ := List.getElem?_eq_some_iff.1 h
  rw [List.take_succ_eq_append_getElem hk, lensF_append, e]; simp [lensF]
theorem lensF_le (l : List Txt) (k : Nat) : lensF (l.take k) ≤ lensF l := by
  have : lensF l = lensF (l.take k) + lensF (l.drop k) := by rw [← lensF_append, List.take_append_drop]
  omega
theorem framesF_lens : ∀ l : List Txt, (framesF l).length = lensF l + 10 * l.length
  | [] => rfl
  | t :: l => by rw [framesF_cons, List.length_append, frameF_len, lensF_cons, List.length_cons, framesF_lens l]; omega
theorem few_yes {l : List Txt} (h : fewF l = true) : l.length ≤ 40 ∧ lensF l ≤ 70000 ∧ (framesF l).length ≤ 70400 := by
  rw [fewF, Bool.and_eq_true, decide_eq_true_eq, decide_eq_true_eq] at h
  refine ⟨h.1, h.2, ?_⟩
  rw [framesF_lens]; omega
set_option maxHeartbeats 1000000 in
theorem few_x (v : Value) (l : List Txt) (w : World) (hs : TxtsAt w v l) (hz : ∀ t ∈ l, t.length ≤ 140737488355328) : Calls Try.prog 9 #[v] w fun e w' => e = .returned (.bool (fewF l)) ∧ w = w' := by
  obtain ⟨A, c, rfl, _, _, hc⟩ := hs
  have HS := Lib.hid hc
  have HZ := Lib.hid hz
  clear hc hz
  go_enter Try.func9, Try.ntmps9
  go_wp2_with fail
  go_loop [3, 4] (fun s i => ∃ k n : Nat, k ≤ l.length ∧ k ≤ 40 ∧ i = .int .i64 k ∧ s = .int .i64 (n : Int) ∧ n ≤ 70000 ∧ Hid (n = lensF (l.take k))) (fun _ i => l.length - (intOf i).toNat)
  case atStart => exact ⟨0, 0, Nat.zero_le _, Nat.zero_le _, rfl, rfl, Nat.zero_le _, Lib.hid rfl⟩
  case round =>
    obtain ⟨k, n, hk, hk4, rfl, rfl, hn, HN⟩ := hrel
    by_cases hlt : k < l.length
    · obtain ⟨t, ht⟩ : ∃ t, l[k]? = some t := ⟨_, List.getElem?_eq_getElem hlt⟩
      obtain ⟨ad, rfl, hab, hcl⟩ := HS.out k t ht
      have hms := mkS_size t
      have htz := HZ.out t (List.mem_of_getElem? ht)
      have HT := Lib.hid (show n + t.length = lensF (l.take (k + 1)) by rw [lensF_take ht, HN.out])
      clear ht
      by_cases h60 : 40 ≤ k
      · have d1 : decide ((40 : Int) ≤ (k : Int)) = true := decide_eq_true (by omega)
        have HE := Lib.hid (show fewF l = false by rw [fewF, decide_eq_false (by omega)]; rfl)
        go_wp2_with fail
        go_ret
        exact ⟨ret_bool HE.out.symm, rfl⟩
      · have d1 : decide ((40 : Int) ≤ (k : Int)) = false := decide_eq_false (by omega)
        by_cases h10 : 70000 < n + t.length
        · have d2 : decide ((70000 : Int) < (n : Int) + (t.length : Int)) = true := decide_eq_true (by omega)
          have HE := Lib.hid (show fewF l = false by
            have h1 := HT.out
            have h2 := lensF_le l (k + 1)
            rw [fewF, decide_eq_false (p := lensF l ≤ 70000) (by omega), Bool.and_false])
          go_wp2_with fail
          go_ret
          exact ⟨ret_bool HE.out.symm, rfl⟩
        · have d2 : decide ((70000 : Int) < (n : Int) + (t.length : Int)) = false := decide_eq_false (by omega)
          go_wp2_with fail
          go_round
          case rel => exact ⟨k + 1, n + t.length, by omega, by omega, by go_num, by go_num, by omega, HT⟩
          case measure => simp [intOf]; omega
    · have HE := Lib.hid (show fewF l = true by
        have h := HN.out
        rw [List.take_of_length_le (by omega)] at h
        rw [fewF, decide_eq_true (by omega), decide_eq_true (by omega)]; rfl)
      go_wp2_with fail
      go_ret
      exact ⟨ret_bool HE.out.symm, rfl⟩
theorem lit_txts (w : World) (l : List Txt) (cs : Array Value) (hcs : cs.toList = strsV l) (n : Nat) (hn : n = l.length) (b : Nat) (hb : b = w.heap.size) : TxtsAt (w.alloc (.cells cs 9)) (.slice (some ⟨b, 0, none⟩) n n) l := by
  subst hn hb
  refine ⟨_, _, rfl, Nat.le_refl _, fun e => by (cases e), fun i t hi => ⟨_, rfl, by simp, ?_⟩⟩
  rw [show (⟨w.heap.size, 0, none⟩ : Addr).add i = ⟨w.heap.size, i, none⟩ by unfold Addr.add; split <;> simp_all, World.cell?_alloc_at _ _ _ _ rfl, ← Array.getElem?_toList, hcs, strsV, List.getElem?_map, hi]
  rfl
def litF : Txt := [2, 0, 125, 112, 239, 115, 97, 98, 109, 72, 131, 158, 0, 0, 255, 18, 217, 65, 0, 0, 0, 0]
theorem litF_print : printF [[97, 98], []] = litF ∧ printE [[97, 98], []] = 0 := by decide +kernel
theorem litF_scan : scanF (litF ++ [120]) = [[97, 98], []] ∧ (framesF [[97, 98], []]).length = 22 := by decide +kernel
theorem litF_none : scanF [120] = [] := by decide +kernel
theorem litF_sum : sumF [49, 50, 51, 52, 53, 54, 55, 56, 57] = 3421780262 := by decide +kernel
set_option maxHeartbeats 2000000 in
theorem awake_x (w : World) : Calls Try.prog 8 #[] w fun e w' => e = .returned (.bool true) ∧ Below w.heap.size w w' := by
  have HP := Lib.hid (show ∀ (v : Value) (w : World), TxtsAt w v [[97, 98], []] → Calls Try.prog 10 #[v] w fun e w' => e = .returned (.tuple #[.string (mkS litF), .int .i64 0]) ∧ Below w.heap.size w w' from fun v w h => (print_x v _ w h (by decide +kernel)).mono fun e w' ⟨he, hb⟩ => ⟨by rw [he, litF_print.1, litF_print.2], hb⟩)
  have HX := Lib.hid (show ∀ w : World, Calls Try.prog 12 #[.string (mkS (litF ++ [120]))] w fun e w' => ∃ v, e = .returned (.tuple #[v, .int .i64 22]) ∧ TxtsAt w' v [[97, 98], []] ∧ Below w.heap.size w w' from fun w => (scan_x _ w (by decide +kernel)).mono fun e w' ⟨v, he, ht, hb⟩ => ⟨v, by rw [he, litF_scan.1, litF_scan.2]; rfl, by rw [litF_scan.1] at ht; exact ht, hb⟩)
  have HN := Lib.hid (show ∀ w : World, Calls Try.prog 12 #[.string { data := #[120] }] w fun e w' => ∃ v, e = .returned (.tuple #[v, .int .i64 0]) ∧ TxtsAt w' v [] ∧ Below w.heap.size w w' from fun w => (scan_x [120] w (by decide)).mono fun e w' ⟨v, he, ht, hb⟩ => ⟨v, by rw [he, litF_none]; rfl, by rw [litF_none] at ht; exact ht, hb⟩)
  have HS := Lib.hid (show ∀ w : World, Calls Try.prog 15 #[.string { data := #[49, 50, 51, 52, 53, 54, 55, 56, 57] }] w fun e w' => e = .returned (.int .u32 3421780262) ∧ w = w' from fun w => (sum_x [49, 50, 51, 52, 53, 54, 55, 56, 57] w (by decide)).mono fun e w' ⟨he, hw⟩ => ⟨by rw [he, litF_sum]; rfl, hw⟩)
  have HZ := Lib.hid (show ∀ w : World, Calls Try.prog 17 #[.string { data := #[97, 98] }] w fun e w' => e = .returned (.int .i64 12) ∧ w = w' from fun w => (size_x [97, 98] w (by decide)).mono fun e w' ⟨he, hw⟩ => ⟨he, hw⟩)
  have hct : mkS litF ++ { data := #[120] } = mkS (litF ++ [120]) := mkS_cat litF [120]
  have hms : (mkS litF).size = 22 := rfl
  generalize mkS litF = sl at HP hct hms
  generalize mkS (litF ++ [120]) = sx at HX hct
  go_enter Try.func8, Try.ntmps8
  go_wp2_with fail
  refine (HP.out _ _ (lit_txts w _ #[.string { data := #[97, 98] }, .string { data := #[] }] rfl 2 rfl _ rfl)).mono ?_
  rintro e w1 ⟨rfl, hb1⟩
  have HB1 := Lib.hid (below_next (below_box w _) hb1)
  clear hb1
  go_wp2_with fail
  refine (HX.out _).mono ?_
  rintro e w2 ⟨v2, rfl, hT2, hb2⟩
  obtain ⟨A2, c2, rfl, -⟩ := id hT2
  have HT2 := Lib.hid hT2
  have HB2 := Lib.hid (below_next HB1.out hb2)
  clear hT2 hb2
  go_wp2_with fail
  refine (HN.out _).mono ?_
  rintro e w3 ⟨v3, rfl, hT3, hb3⟩
  have HT3 := Lib.hid (HT2.out.below hb3)
  have HB3 := Lib.hid (below_next HB2.out hb3)
  obtain ⟨A3, c3, rfl, -⟩ := id hT3
  clear hT3 hb3
  go_wp2_with fail
  refine (HS.out _).mono ?_
  rintro e w4 ⟨rfl, rfl⟩
  go_wp2_with fail
  refine (same_x _ _ _ _ _ (HT3.out.below (below_box _ _)) (lit_txts w3 [[97, 98], []] #[.string { data := #[97, 98] }, .string { data := #[] }] rfl 2 rfl _ rfl) (by decide)).mono ?_
  rintro e w5 ⟨rfl, m, rfl⟩
  have HB5 := Lib.hid (below_drewN (below_next HB3.out (below_box w3 (.cells #[.string { data := #[97, 98] }, .string { data := #[] }] 9))) m)
  simp only [beq_self_eq_true]
  go_wp2_with fail
  refine (HZ.out _).mono ?_
  rintro e w6 ⟨rfl, rfl⟩
  go_wp2_with fail
  go_ret
  exact ⟨rfl, HB5.out⟩
end Go.Proofs.Ytfejepkpjoieoaa
