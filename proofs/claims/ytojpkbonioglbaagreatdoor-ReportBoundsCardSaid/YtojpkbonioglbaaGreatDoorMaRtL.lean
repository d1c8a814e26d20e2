/-
  LawReportBounds, in one text.
-/
import Derived.Test.YtojpkbonioglbaaGreatDoorMaRtZ
import Derived.Test.YtojpkbonioglbaaGreatDoorMaRtR
/-
  The walk of the law ReportBounds.
-/
namespace Go.Proofs.YtojpkbonioglbaaGreatDoor.E.T
set_option maxRecDepth 100000
set_option linter.unusedSimpArgs false
open Go.RowKit Go.Shelf
theorem bnd_free {l : List Txt} (hl : l.length ≤ 100000) {t : Txt} (ht : t ∈ l) : ([45, 45] ++ bnd l).isPrefixOf t = false := by
  have h := (least_ok l (by omega)).1
  unfold usesB at h
  rw [List.any_eq_false] at h
  exact Bool.eq_false_iff.2 (h t ht)
theorem bnd_cmp {l : List Txt} (hl : l.length ≤ 100000) {t : Txt} (ht : t ∈ l) (hn : (bnd l).length + 2 ≤ t.length) : ((mkS (t.take ((bnd l).length + 2))).toList == (({ data := #[45, 45] } : ByteArray) ++ mkS (bnd l)).toList) = false := by
  rw [show (({ data := #[45, 45] } : ByteArray) ++ mkS (bnd l)) = mkS ([45, 45] ++ bnd l) from mkS_cat [45, 45] _, mkS_eqb]
  have h := bnd_free hl ht
  rw [pre_take, show ([45, 45] ++ bnd l : Txt).length = (bnd l).length + 2 by rw [List.length_append]; simp; omega, decide_eq_true hn, Bool.true_and] at h
  exact h
set_option maxHeartbeats 8000000 in
theorem reportBounds_x (v : Value) (l : List Txt) (w : World) (hT : TxtsAt w v l) (hR : Rdy w) : Calls Tryz.prog 3 #[v] w fun e w' => e = .returned (.bool true) ∧ Below w.heap.size w w' := by
  have HT := Lib.hid hT
  have HR := Lib.hid (fun w' (h : Below w.heap.size w w') => hR.below h)
  have HA := Lib.hid (awake_x w hR)
  obtain ⟨a, cap, rfl, _, _, hx⟩ := hT
  have HX := Lib.hid hx
  clear hx hR
  generalize hN : l.length = N at *
  have HN := Lib.hid hN
  clear hN
  go_enter Tryz.func3, Tryz.ntmps3
  go_wp2_with fail
  refine HA.out.mono ?_
  rintro e w1 ⟨rfl, hb⟩
  have HB1 := Lib.hid hb
  clear hb HA
  by_cases hbig : 100 < N
  · go_wp2_with fail
    go_ret
    exact ⟨rfl, HB1.out⟩
  go_wp2_with fail
  go_loopw [3] (fun i wr => ∃ k : Nat, k ≤ N ∧ i = .int .i64 k ∧ Hid (Below w.heap.size w wr ∧ ∀ t ∈ l.take k, t.length ≤ 1000)) (fun i _ => N - (intOf i).toNat)
  case atStart => exact ⟨0, Nat.zero_le _, rfl, Lib.hid ⟨HB1.out, fun t ht => by cases ht⟩⟩
  case round =>
    obtain ⟨k, hk, rfl, HK⟩ := hrel
    by_cases hlt : k < N
    · obtain ⟨t, ht⟩ : ∃ t, l[k]? = some t := ⟨_, List.getElem?_eq_getElem (by have := HN.out; omega)⟩
      obtain ⟨ad, rfl, hab, hat⟩ := HX.out k t ht
      have hcl := (HK.out.1.cell (by rw [add_block]; exact hab)).trans hat
      have hms := mkS_size t
      have HTT := Lib.hid ht
      clear ht hab hat
      by_cases hlen : 1000 < t.length
      · go_wp2_with fail
        go_ret
        exact ⟨rfl, HK.out.1⟩
      · have HLE := Lib.hid hlen
        go_wp2_with fail
        go_roundw
        case rel =>
          refine ⟨k + 1, by omega, by go_num, Lib.hid ⟨HK.out.1, fun u hu => ?_⟩⟩
          obtain ⟨h1, h2⟩ := List.getElem?_eq_some_iff.1 HTT.out
          rw [List.take_succ_eq_append_getElem h1, List.mem_append, List.mem_singleton] at hu
          rcases hu with hu | rfl
          · exact HK.out.2 u hu
          · rw [h2]; have := HLE.out; omega
        case measure => simp [intOf]; omega
    · obtain rfl : k = N := by omega
      have HZ := Lib.hid (show ∀ t ∈ l, t.length ≤ 1000 by have h := HK.out.2; rwa [← HN.out, List.take_length] at h)
      have HBB := Lib.hid HK.out.1
      have HT1 := Lib.hid (HT.out.below HK.out.1)
      clear HK hlt
      go_wp2_with (at_builtin; refine app_new rfl (.tmp 23) (.tmp 24) rfl wr.heap.size rfl rfl (.slice a k cap) l rfl HT1.out (by have := HN.out; omega) ?_; intro v' w3 k1 k2; obtain ⟨A', c', rfl⟩ := strs_slice k1; have K1 := Lib.hid (own_txts k1); have K2 := Lib.hid k2; clear k1 k2)
      refine (boundary_x _ l _ K1.out (by have := HN.out; omega) (HR.out _ (below_next HBB.out K2.out)).r.2).mono ?_
      rintro e w4 ⟨rfl, hb⟩
      have HB4 := Lib.hid (below_next (below_next HBB.out K2.out) hb)
      have HT4 := Lib.hid (HT1.out.below (below_next K2.out hb))
      clear hb
      have HBL := Lib.hid (bnd_len (l := l) (by have := HN.out; omega))
      have HC := Lib.hid (fun (t : Txt) (ht : t ∈ l) (hn : (bnd l).length + 2 ≤ t.length) => bnd_cmp (l := l) (by have := HN.out; omega) ht hn)
      have HRF := Lib.hid (fun wz (h : TxtsAt wz (.slice a k cap) l) => rbnd_x _ l wz h (by have := HN.out; omega) (fun t ht => Nat.le_trans (HZ.out t ht) (by decide)))
      generalize bnd l = bd at HBL HC HRF ⊢
      have sbd := mkS_size bd
      have hbl := HBL.out
      have w2 : IntKind.i64.wrap ((bd.length : Int) + 2) = (bd.length : Int) + 2 := IntWalk.i64_in _ (by omega)
      go_wp2_with fail
      go_loopw [5] (fun i wr => ∃ j : Nat, j ≤ k ∧ i = .int .i64 j ∧ wr = w4) (fun i _ => k - (intOf i).toNat)
      case atStart => exact ⟨0, Nat.zero_le _, rfl, rfl⟩
      case round =>
        obtain ⟨j, hj, rfl, rfl⟩ := hrel
        by_cases hlt : j < k
        · obtain ⟨t, ht⟩ : ∃ t, l[j]? = some t := ⟨_, List.getElem?_eq_getElem (by have := HN.out; omega)⟩
          obtain ⟨ad, rfl, hab, hat⟩ := HX.out j t ht
          have hcl := (HB4.out.cell (by rw [add_block]; exact hab)).trans hat
          have hms := mkS_size t
          have HM := Lib.hid (List.mem_of_getElem? ht)
          clear ht hab hat
          by_cases hlen : bd.length + 2 ≤ t.length
          · have hl2 : (bd.length : Int) + 2 ≤ (t.length : Int) := by omega
            have he : (mkS t).extract 0 (bd.length + 2) = mkS (t.take (bd.length + 2)) := by rw [mkS_extract, List.drop_zero]
            have ee := HC.out t HM.out hlen
            generalize t.take (bd.length + 2) = u at he ee
            go_wp2_with fail
            go_roundw
            case rel => exact ⟨j + 1, by omega, by go_num, trivial⟩
            case measure => simp [intOf]; omega
          · have hl2 : ¬ (bd.length : Int) + 2 ≤ (t.length : Int) := by omega
            go_wp2_with fail
            go_roundw
            case rel => exact ⟨j + 1, by omega, by go_num, trivial⟩
            case measure => simp [intOf]; omega
        · obtain rfl : j = k := by omega
          have hq : ((mkS bd).toList == (mkS bd).toList) = true := by simp
          go_wp2_with fail
          refine (HRF.out _ HT4.out).mono ?_
          rintro e w5 ⟨rfl, hb⟩
          have HB5 := Lib.hid (below_next HB4.out hb)
          clear hb
          go_wp2_with fail
          go_ret
          exact ⟨rfl, HB5.out⟩
end Go.Proofs.YtojpkbonioglbaaGreatDoor.E.T
