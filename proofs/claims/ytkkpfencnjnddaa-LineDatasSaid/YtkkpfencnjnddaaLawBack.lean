/-
  The walk of the law LineBack.
-/
import Derived.Test.YtkkpfencnjnddaaApp
namespace Go.Proofs.Ytkkpfencnjnddaa
open Go.RowKit

theorem mkS_cat (d : List UInt8) (b : ByteArray) : ({ data := d.toArray } ++ b : ByteArray) = mkS (d ++ b.data.toList) := by
  cases b
  rename_i x
  show ByteArray.append _ _ = _
  apply ba_eq
  rw [Lib.toList_data, mkS_toList]
  simp
theorem mkS_data (b : ByteArray) : mkS b.data.toList = b := by cases b; simp [mkS]
theorem map_mkS (ps : List ByteArray) : (ps.map (fun p => p.data.toList)).map mkS = ps := by
  rw [List.map_map]
  have e : (mkS ∘ fun p : ByteArray => p.data.toList) = id := by funext p; exact mkS_data p
  rw [e, List.map_id]
theorem own_strsL {w : World} {B c n : Nat} {A : Option Addr} {ps : List ByteArray} (hn : ps.length = n) (h : w.ownsRow B 9 1 (.slice A n c) n (strsV (ps.map (fun p => p.data.toList)))) : Strs w A n ps := by
  have h2 : w.ownsRow B 9 1 (.slice A (ps.map (fun p => p.data.toList)).length c) (ps.map (fun p => p.data.toList)).length (strsV (ps.map (fun p => p.data.toList))) := by
    rw [List.length_map, hn]; exact h
  have h3 := own_strs h2
  rw [map_mkS, List.length_map, hn] at h3
  exact h3

theorem lnsV_get : ∀ {L : List (List UInt8 × Int)} {i : Nat} {t : List UInt8} {x : Int}, L[i]? = some (t, x) → (lnsV L)[i * 2]? = some (.string (mkS t)) ∧ (lnsV L)[i * 2 + 1]? = some (.int .i64 x)
  | [], i, t, x, h => by simp at h
  | l :: L, 0, t, x, h => by
    simp at h
    subst h
    exact ⟨rfl, rfl⟩
  | l :: L, i + 1, t, x, h => by
    have h' : L[i]? = some (t, x) := by simpa using h
    obtain ⟨h1, h2⟩ := lnsV_get h'
    have e : lnsV (l :: L) = .string ⟨l.1.toArray⟩ :: .int .i64 l.2 :: lnsV L := rfl
    rw [e, show (i + 1) * 2 = i * 2 + 1 + 1 by omega, List.getElem?_cons_succ, List.getElem?_cons_succ, List.getElem?_cons_succ, List.getElem?_cons_succ]
    exact ⟨h1, h2⟩
theorem feed_new (most : Nat) (w : World) (p : ByteArray) (h2 : 2 ≤ most) (h6 : most ≤ 65536) (hp : p.size ≤ 100000000) :
    Calls Try.prog 11 #[.pointer (some ⟨w.heap.size, 0, none⟩), .slice (some ⟨w.heap.size + 1, 0, none⟩) 1 1] ((w.alloc (.cells #[.int .i64 (most : Int), .slice none 0 0, .int .i64 0, .int .u8 0, .int .i64 0] 53)).alloc (.cells #[.string p] 9)) fun e w' =>
      ∃ o, e = .returned o ∧ w'.ownsRow w.heap.size 49 2 o (feed most st0 p.data.toList).2.length (lnsV (feed most st0 p.data.toList).2) ∧ Below w.heap.size w w' := by
  have hb1 : Below w.heap.size w ((w.alloc (.cells #[.int .i64 (most : Int), .slice none 0 0, .int .i64 0, .int .u8 0, .int .i64 0] 53)).alloc (.cells #[.string p] 9)) := ((Below.refl _ _).alloc (Nat.le_refl _) _).alloc (by simp) _
  have hj : joinB [p] = p.data.toList := by simp [joinB]
  have hjl : (joinB [p]).length ≤ 100000000 := by rw [hj, ← Lib.size_eq]; exact hp
  refine (feed_x w.heap.size w.heap.size most 1 1 st0 (.slice none 0 0) (some ⟨w.heap.size + 1, 0, none⟩) [p] _ ((cut_new w.heap.size w most (Nat.le_refl _)).below ((Below.refl _ _).alloc (Nat.le_refl _) _)) (inv0 most) h2 h6 hb1.size (by show 0 + _ ≤ _; omega) (by show 0 + _ ≤ _; omega) (strs1 _ _ _ (by simp)) (fun ad h _ => by injection h with h; subst h; exact ⟨by simp, by simp [Value.ownBlock]⟩) (by omega)).mono ?_
  rintro e w' ⟨v', o, he, hc, hr, ho⟩
  rw [hj] at hr
  exact ⟨o, he, own_mono hr hb1.size, hb1.trans (ho.toBelow hb1.size (Nat.le_refl _) (fun k hk => by simp [Value.ownBlock] at hk))⟩

set_option maxHeartbeats 1000000 in
theorem lineBack_x (n c : Nat) (ps : List ByteArray) (A : Option Addr) (bh : ByteArray) (m : Int) (w : World) (hm : w.cell? ⟨0, 0, none⟩ = some (.int .i64 m)) (h0 : 0 < w.heap.size) (hs : Strs w A n ps) (hz : ∀ p ∈ ps, p.size ≤ 140737488355328) (hnil : A = none → c = 0) :
    Calls Try.prog 6 #[.slice A n c, .string bh] w fun e w' => e = .returned (.bool true) ∧ Below w.heap.size w w' := by
  have HA := Lib.hid (awake_x m w hm h0)
  have HM := Lib.hid hm
  have HS := Lib.hid hs
  have HZ := Lib.hid hz
  have HNIL := Lib.hid hnil
  clear hm hs hz hnil
  go_enter Try.func6, Try.ntmps6
  go_wp2_with fail
  refine HA.out.mono ?_
  rintro e w1 ⟨rfl, hb1⟩
  have HB1 := Lib.hid hb1
  have HF := Lib.hid (few_x n c ps A w1 (HS.out.below hb1) HZ.out)
  clear hb1
  go_wp2_with fail
  refine HF.out.mono ?_
  rintro e w2 ⟨rfl, rfl⟩
  cases hfew : fewB ps
  · go_wp2_with fail
    go_ret
    exact ⟨rfl, HB1.out⟩
  · by_cases h5 : bh.size ≤ 5000
    · have d5 : decide ((5000 : Int) < (bh.size : Int)) = false := decide_eq_false (by omega)
      obtain ⟨hl1, hl2⟩ := of_decide_eq_true hfew
      have hn : n ≤ 100 := by rw [← HS.out.1]; exact hl1
      have HJ := Lib.hid hl2
      clear hfew hl1 hl2
      go_wp2_with (at_builtin
                   refine app_strs rfl (.tmp 25) (.tmp 26) rfl w.heap.size (.slice (some ⟨w1.heap.size, 0, none⟩) 0 0) 0 [] rfl (World.ownsRow_lit w1 #[] 0 HB1.out.size (Nat.zero_le _) rfl) A n c ps rfl
                     ((HS.out.below HB1.out).below ((Below.refl _ _).alloc (Nat.le_refl _) _)) HNIL.out (by omega) (by have := HB1.out.size; simp; omega) ?_
                   intro v1 w2 hown hg)
      rw [Nat.zero_add, List.nil_append] at hown
      have hb2 : Below w.heap.size w w2 := (HB1.out.alloc HB1.out.size _).grown hg (by have := HB1.out.size; simp; omega) (fun k hk => by have := HB1.out.size; simp [Value.ownBlock] at hk; omega)
      obtain ⟨A1, c1, rfl⟩ := own_slice hown
      have HD := Lib.hid (data_x n c1 ps A1 w2 (own_strsB hown) (by have := HJ.out; omega) (by omega))
      have HB2 := Lib.hid hb2
      clear hown hg hb2
      go_wp2_with fail
      refine HD.out.mono ?_
      rintro e w3 ⟨rfl, hb3⟩
      have HB3 := Lib.hid (HB2.out.trans (hb3.mono HB2.out.size))
      clear hb3
      by_cases hw0 : wrongOf 998 ps = 0
      · rw [if_pos hw0, hw0]
        have HW := Lib.hid hw0
        clear hw0
        have hdl : (dataOf ps).length ≤ 30000 := by
          have := bodyOf_len ps
          have := HJ.out
          have := HS.out.1
          simp only [dataOf, List.length_append, List.length_cons, List.length_nil]
          omega
        have HUD := Lib.hid (undata_data ps bh.data.toList HW.out)
        have HFD := Lib.hid (feed_data ps HW.out)
        generalize dataOf ps = d at hdl HUD HFD
        have HU := Lib.hid (undata_x (d ++ bh.data.toList) m w3 (by rw [HB3.out.cell h0]; exact HM.out) (Nat.lt_of_lt_of_le h0 HB3.out.size) (by rw [List.length_append, ← Lib.size_eq]; omega))
        rw [← mkS_cat] at HU
        go_wp2_with fail
        refine HU.out.mono ?_
        rintro e w4 ⟨o, rfl, hro, hb4⟩
        rw [HUD.out, List.length_map, HS.out.1] at hro
        rw [HUD.out, mkS_data]
        have HB4 := Lib.hid (HB3.out.trans (hb4.mono HB3.out.size))
        obtain ⟨A2, c2, rfl⟩ := own_slice hro
        have hst2 := own_strsL (by rw [HS.out.1]) hro
        have HSM := Lib.hid (same_x n c2 n c ps ps A2 A w4 hst2 (HS.out.below HB4.out) (by omega))
        clear hb4 hro hst2
        go_wp2_with fail
        refine HSM.out.mono ?_
        rintro e w5 ⟨rfl, hb5⟩
        rw [show sameB ps ps = true from decide_eq_true rfl]
        have HB5 := Lib.hid (HB4.out.trans (hb5.mono HB4.out.size))
        have HN := Lib.hid (new_yes 65536 w5 (by omega) (by omega))
        clear hb5
        go_wp2_with fail
        refine HN.out.mono ?_
        rintro e w6 ⟨rfl, rfl⟩
        have HFN := Lib.hid (feed_new 65536 w5 { data := d.toArray } (by omega) (by omega) (by rw [size_mk]; omega))
        go_wp2_with fail
        refine HFN.out.mono ?_
        rintro e w7 ⟨o, rfl, hro, hb7⟩
        rw [HFD.out] at hro
        have hlen : ((ps.map fun p : ByteArray => (dotted p.data.toList, (0 : Int))) ++ [([46], 0)]).length = n + 1 := by simp [HS.out.1]
        rw [hlen] at hro
        obtain ⟨k, cap, rfl, _, _⟩ := hro.form (by omega)
        have hln : ((ps.map fun p : ByteArray => (dotted p.data.toList, (0 : Int))) ++ [([46], 0)])[n]? = some ([46], 0) := by
          rw [List.getElem?_append_right (by rw [List.length_map, HS.out.1]; exact Nat.le_refl _), List.length_map, HS.out.1, Nat.sub_self]; rfl
        have hcn : w7.cell? ⟨k, n * 2, none⟩ = some (.string { data := #[46] }) := (hro.cellAt (n * 2) (by omega)).trans (lnsV_get hln).1
        have HB7 := Lib.hid (HB5.out.trans (hb7.mono HB5.out.size))
        have HRO := Lib.hid hro
        clear hb7 hro hlen hln
        go_wp2_with fail
        go_loop [13] (fun i => ∃ j : Nat, j ≤ n ∧ i = .int .i64 j) (fun i => n - (intOf i).toNat)
        case atStart => exact ⟨0, Nat.zero_le _, rfl⟩
        case round =>
          obtain ⟨j, hj, rfl⟩ := hrel
          by_cases hlt : j < n
          · have hpj : ps[j]? = some (ps[j]'(by rw [HS.out.1]; exact hlt)) := List.getElem?_eq_getElem _
            generalize ps[j]'(by rw [HS.out.1]; exact hlt) = p at hpj
            have hlj : ((ps.map fun p : ByteArray => (dotted p.data.toList, (0 : Int))) ++ [([46], 0)])[j]? = some (dotted p.data.toList, 0) := by
              rw [List.getElem?_append_left (by rw [List.length_map, HS.out.1]; exact hlt), List.getElem?_map, hpj]; rfl
            have hc0 : w7.cell? ⟨k, j * 2, none⟩ = some (.string (mkS (dotted p.data.toList))) := (HRO.out.cellAt (j * 2) (by omega)).trans (lnsV_get hlj).1
            have hc1 : w7.cell? ⟨k, j * 2 + 1, none⟩ = some (.int .i64 0) := (HRO.out.cellAt (j * 2 + 1) (by omega)).trans (lnsV_get hlj).2
            have hne : ((mkS (dotted p.data.toList)).toList == [46]) = false := by rw [mkS_toList]; exact beq_eq_false_iff_ne.2 (dotted_ne _)
            generalize dotted p.data.toList = t at hc0 hne
            clear hpj hlj
            go_wp2_with fail
            go_round
            case rel => exact ⟨j + 1, by omega, by go_num⟩
            case measure => simp [intOf]; omega
          · go_wp2_with fail
            go_ret
            exact ⟨rfl, HB7.out⟩
      · rw [if_neg hw0]
        have hne : (wrongOf 998 ps != 0) = true := by rw [bne_iff_ne]; exact hw0
        clear hw0
        go_wp2_with fail
        go_ret
        exact ⟨rfl, HB3.out⟩
    · have d5 : decide ((5000 : Int) < (bh.size : Int)) = true := decide_eq_true (by omega)
      go_wp2_with fail
      go_ret
      exact ⟨rfl, HB1.out⟩
end Go.Proofs.Ytkkpfencnjnddaa
