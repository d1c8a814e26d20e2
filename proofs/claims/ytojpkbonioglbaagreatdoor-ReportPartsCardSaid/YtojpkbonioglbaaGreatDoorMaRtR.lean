import Derived.Test.YtojpkbonioglbaaGreatDoorMaRtZ
import Derived.Test.YtojpkbonioglbaaGreatDoorPaDig
namespace Go.Proofs.YtojpkbonioglbaaGreatDoor.E.T
set_option maxRecDepth 100000
set_option linter.unusedSimpArgs false
open Go.RowKit Go.Shelf
theorem pre_take (t s : Txt) : t.isPrefixOf s = (decide (t.length ≤ s.length) && s.take t.length == t) := by
 rw [Bool.eq_iff_iff, List.isPrefixOf_iff_prefix, List.prefix_iff_eq_take, Bool.and_eq_true, decide_eq_true_eq, beq_iff_eq]
 constructor
 ·intro h
  refine ⟨?_, h.symm⟩
  have := congrArg List.length h
  rw [List.length_take] at this
  omega
 ·exact fun h => h.2.symm
set_option maxHeartbeats 2000000 in
theorem begins_x (s t : Txt) (w : World) (_hs : s.length ≤ 1000000000) (_ht : t.length ≤ 1000000000) : Calls Tryz.prog 24 #[.string (mkS s), .string (mkS t)] w fun e w' => e = .returned (.bool (t.isPrefixOf s)) ∧ w = w' := by
 have s1 := mkS_size s
 have s2 := mkS_size t
 have he : (mkS s).extract 0 t.length = mkS (s.take t.length) := by rw [mkS_extract, List.drop_zero]
 have HV := Lib.hid (pre_take t s)
 have ee : ((mkS (s.take t.length)).toList == (mkS t).toList) = (s.take t.length == t) := mkS_eqb _ _
 by_cases hl : t.length ≤ s.length
 ·rw [show decide (t.length ≤ s.length) = true from decide_eq_true hl, Bool.true_and] at HV
  have hl2 : (t.length : Int) ≤ (s.length : Int) := by omega
  clear hl
  rw [HV.out]
  generalize s.take t.length = u at *
  go_enter Tryz.func24, Tryz.ntmps24
  go_wp2_with fail
  go_ret
  exact ⟨rfl, rfl⟩
 ·rw [show decide (t.length ≤ s.length) = false from decide_eq_false hl, Bool.false_and] at HV
  have hl2 : ¬ (t.length : Int) ≤ (s.length : Int) := by omega
  clear hl
  rw [HV.out]
  go_enter Tryz.func24, Tryz.ntmps24
  go_wp2_with fail
  go_ret
  exact ⟨rfl, rfl⟩
theorem use_take {l : List Txt} {k : Nat} {t q : Txt} (h : l[k]? = some t) : ((l.take (k + 1)).any fun t => q.isPrefixOf t) = ((l.take k).any (fun t => q.isPrefixOf t) || q.isPrefixOf t) := by
 obtain ⟨h1, rfl⟩ := List.getElem?_eq_some_iff.1 h
 rw [List.take_succ_eq_append_getElem h1, List.any_append]
 simp
set_option maxHeartbeats 4000000 in
theorem rbnd_x (v : Value) (l : List Txt) (w : World) (hT : TxtsAt w v l) (hl : l.length ≤ 10000) (hz : ∀ t ∈ l, t.length ≤ 1000000) : Calls Tryz.prog 8 #[v] w fun e w' => e = .returned (.string (mkS (bnd l))) ∧ Below w.heap.size w w' := by
 obtain ⟨a, cap, rfl, _, _, hx⟩ := hT
 have HX := Lib.hid hx
 have HZ := Lib.hid hz
 have HLO := Lib.hid (least_ok l (by omega))
 have HM := Lib.hid (show leastB l ≤ 100001 by have := (least_ok l (by omega)).2.2.1; omega)
 clear hx hz
 generalize hN : l.length = N at *
 have HN := Lib.hid hN
 clear hN
 go_enter Tryz.func8, Tryz.ntmps8
 go_wp2_with fail
 go_loopw [3] (fun n wr => ∃ k : Nat, n = .int .i64 k ∧ k ≤ 100001 ∧ Hid (1 ≤ k ∧ k ≤ leastB l ∧ Below w.heap.size w wr)) (fun n _ => leastB l - (intOf n).toNat)
 case atStart => exact ⟨1, rfl, by decide, Lib.hid ⟨Nat.le_refl _, HLO.out.2.1, Below.refl _ _⟩⟩
 case round =>
  obtain ⟨k, rfl, hk, HK⟩ := hrel
  have HD := Lib.hid (digits_x (k : Int) wr (by omega) (by omega))
  have hil := R.itoa_len (n := (k : Int)) ⟨by omega, by omega⟩
  have HU := Lib.hid (show usesB l k = l.any fun t => (bPre ++ Lib.itoa (k : Int)).isPrefixOf t from rfl)
  have HBE := Lib.hid (show k = leastB l → bnd l = [114, 101, 112, 111, 114, 116, 46] ++ Lib.itoa (k : Int) from fun e => by rw [e]; rfl)
  generalize Lib.itoa (k : Int) = s at HD hil HU HBE
  have hsz := mkS_size s
  obtain ⟨bt, hbt⟩ : ∃ bt : Txt, bt = [114, 101, 112, 111, 114, 116, 46] ++ s := ⟨_, rfl⟩
  obtain ⟨pt, hpt⟩ : ∃ pt : Txt, pt = bPre ++ s := ⟨_, rfl⟩
  have hsum : (({ data := #[114, 101, 112, 111, 114, 116, 46] } : ByteArray) ++ mkS s) = mkS bt := by rw [hbt]; exact mkS_cat _ _
  have hsum2 : (({ data := #[45, 45] } : ByteArray) ++ mkS bt) = mkS pt := by rw [hpt, hbt]; exact (mkS_cat [45, 45] _).trans rfl
  have hbs := mkS_size bt
  have hbl : bt.length ≤ 100 := by rw [hbt, List.length_append]; simp; omega
  have hpl : pt.length ≤ 100 := by rw [hpt, List.length_append]; have : bPre.length = 9 := rfl; omega
  rw [← hbt] at HBE
  rw [← hpt] at HU
  clear hbt hpt
  go_wp2_with fail
  refine HD.out.mono ?_
  rintro e w2 ⟨rfl, hb⟩
  have HB2 := Lib.hid (below_next HK.out.2.2 hb)
  clear hb HD
  go_wp2_with fail
  go_loopw [5, 6] (fun f i wz => ∃ j : Nat, j ≤ N ∧ i = .int .i64 j ∧ f = .bool (!((l.take j).any fun t => pt.isPrefixOf t)) ∧ Hid (Below w.heap.size w wz)) (fun _ i _ => N - (intOf i).toNat)
  case atStart => exact ⟨0, Nat.zero_le _, rfl, rfl, HB2⟩
  case round =>
   obtain ⟨j, hj, rfl, rfl, HJ⟩ := hrel
   by_cases hlt : j < N
   ·obtain ⟨t, ht⟩ : ∃ t, l[j]? = some t := ⟨_, List.getElem?_eq_getElem (by have := HN.out; omega)⟩
    obtain ⟨ad, rfl, hab, hat⟩ := HX.out j t ht
    have hcl := (HJ.out.cell (by rw [add_block]; exact hab)).trans hat
    have HT := Lib.hid (use_take (q := pt) ht)
    have htl := HZ.out t (List.mem_of_getElem? ht)
    generalize (l.take j).any (fun t => pt.isPrefixOf t) = q0 at HT ⊢
    clear ht hab hat
    go_wp2_with fail
    refine (begins_x t pt _ (by omega) (by omega)).mono ?_
    rintro e w' ⟨rfl, rfl⟩
    cases hq : pt.isPrefixOf t
    ·rw [hq, Bool.or_false] at HT
     clear hq
     go_wp2_with fail
     go_roundw
     case rel => exact ⟨j + 1, by omega, by go_num, by rw [HT.out], HJ⟩
     case measure => simp [intOf]; omega
    ·rw [hq, Bool.or_true] at HT
     clear hq
     go_wp2_with fail
     go_roundw
     case rel => exact ⟨j + 1, by omega, by go_num, by rw [HT.out]; rfl, HJ⟩
     case measure => simp [intOf]; omega
   ·obtain rfl : j = N := by omega
    have HE := Lib.hid (show (l.take j).any (fun t => pt.isPrefixOf t) = usesB l k by rw [HU.out, ← HN.out, List.take_length])
    rw [HE.out]
    cases hu : usesB l k
    ·have HKE := Lib.hid (show k = leastB l by
      have h1 := HK.out
      rcases Nat.lt_or_ge k (leastB l) with h2 | h2
      ·have h3 := HLO.out.2.2.2 k h1.1 h2
       rw [hu] at h3; cases h3
      ·omega)
     clear hu HE
     go_wp2_with fail
     go_ret
     exact ⟨by rw [HBE.out HKE.out]; rfl, HJ.out⟩
    ·have HLT := Lib.hid (show k < leastB l by
      have h1 := HK.out
      rcases Nat.lt_or_ge k (leastB l) with h2 | h2
      ·exact h2
      ·have h3 := HLO.out.1
       rw [show leastB l = k by omega, hu] at h3; cases h3)
     have hk2 : k + 1 ≤ 100001 := by have := HLT.out; have := HM.out; omega
     clear hu HE
     go_wp2_with fail
     go_roundw
     case rel => exact ⟨k + 1, by go_num, hk2, Lib.hid ⟨by omega, HLT.out, HJ.out⟩⟩
     case measure => have := HLT.out; simp [intOf]; omega
end Go.Proofs.YtojpkbonioglbaaGreatDoor.E.T
