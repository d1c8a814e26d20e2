/-
  The walk of the law ParamOrder.
-/
import Derived.Test.YtpdehgkkpgjpnaaGreatDoorPaWords
import Derived.Test.YtpdehgkkpgjpnaaGreatDoorPaAwake
namespace Go.Proofs.YtpdehgkkpgjpnaaGreatDoor
set_option maxRecDepth 100000
open Go.RowKit Go.Shelf
/-- What is laid of the words behind j rounds. -/
def laidT (l : List Txt) (j : Nat) : Txt := if j = 0 then [] else if j < l.length then joinC 32 (l.reverse.take j) ++ [32] else joinC 32 (l.reverse.take j)
theorem laid_len (l : List Txt) (j : Nat) : (laidT l j).length ≤ l.length + Lib.lens l + 1 := by
  have h1 := joinC_len 32 (l.reverse.take j)
  have h2 := Lib.lens_take_le l.reverse j
  have h3 : Lib.lens l.reverse = Lib.lens l := by simp [Lib.lens]
  have h4 : (l.reverse.take j).length ≤ l.length := by rw [List.length_take, List.length_reverse]; omega
  unfold laidT
  split
  · simp
  · split
    · rw [List.length_append, List.length_singleton]; omega
    · omega
theorem laid_step {l : List Txt} {j : Nat} {x : Txt} (hj : j < l.length) (hx : l[l.length - 1 - j]? = some x) : laidT l j ++ x = joinC 32 (l.reverse.take (j + 1)) := by
  have hr : l.reverse[j]? = some x := by rw [List.getElem?_reverse hj, hx]
  rw [List.take_add_one, hr]
  unfold laidT
  by_cases h0 : j = 0
  · subst h0
    rw [if_pos rfl]
    rfl
  · rw [if_neg h0, if_pos hj]
    have hne : l.reverse.take j ≠ [] := by
      intro e
      have := congrArg List.length e
      rw [List.length_take, List.length_reverse, List.length_nil] at this
      omega
    exact (join_snoc _ x hne).symm
theorem laid_full {s : Txt} : laidT (splitC 32 s) (splitC 32 s).length = turnT s := by
  have hn : (splitC 32 s).length ≠ 0 := fun h => splitC_ne 32 s (List.eq_nil_of_length_eq_zero h)
  unfold laidT turnT
  rw [if_neg hn, if_neg (Nat.lt_irrefl _), List.take_of_length_le (by simp)]
set_option maxHeartbeats 16000000 in
theorem paramOrder_x (s : Txt) (which : Int) (w : World) (hR : Ready w) (hN : NotR w) (hz : s.length ≤ 140737488355328) (hw0 : IntKind.i64.min ≤ which) (hw1 : which ≤ IntKind.i64.max) : Calls Tryz.prog 5 #[.string (mkS s), .int .i64 which] w fun e w' => e = .returned (.bool true) ∧ Below w.heap.size w w' := by
  have HA := Lib.hid (awake_x w hR hN)
  have HRb := Lib.hid (fun w' (h : Below w.heap.size w w') => hR.below h)
  have HNb := Lib.hid (fun w' (h : Below w.heap.size w w') => hN.below h)
  have hms := mkS_size s
  clear hR hN
  by_cases hl : 3000 < s.length
  · have hlI : (3000 : Int) < (s.length : Int) := by omega
    go_enter Tryz.func5, Tryz.ntmps5
    go_wp2_with fail
    refine HA.out.mono ?_
    rintro e w1 ⟨rfl, hb⟩
    have HB := Lib.hid hb
    clear hb
    go_wp2_with fail
    go_ret
    exact ⟨rfl, HB.out⟩
  have hlI : ¬ (3000 : Int) < (s.length : Int) := by omega
  by_cases hw : which < 0
  · go_enter Tryz.func5, Tryz.ntmps5
    go_wp2_with fail
    refine HA.out.mono ?_
    rintro e w1 ⟨rfl, hb⟩
    have HB := Lib.hid hb
    clear hb
    go_wp2_with fail
    go_ret
    exact ⟨rfl, HB.out⟩
  have HP1 := Lib.hid (fun w h => parseM_x s w (by omega) h)
  have HQ1 := Lib.hid (fun w h => parseR_x s w (by omega) h)
  unfold MailPost mCells at HP1
  unfold RcptPost at HQ1
  have hT := mkS_toList s
  by_cases hs : s = []
  · subst hs
    have e1 : peM [] = 0 := by decide +kernel
    have e2 : pvM [] = zeroM := by decide +kernel
    have e3 : peR [] = 0 := by decide +kernel
    have e4 : pvR [] = zeroR := by decide +kernel
    rw [e1, e2] at HP1
    rw [e3, e4] at HQ1
    have he1 : ∀ w, (Op.equalIn 10000 25 (.agg #[.bool false, .bool false, .bool false, .bool false, .bool false, .int .i64 0, .int .i64 0, .int .i64 0, .int .i64 0, .int .i64 0, .string { data := #[] }, .string { data := #[] }, .string { data := #[] }, .string { data := #[] }]) (.agg #[.bool false, .bool false, .bool false, .bool false, .bool false, .int .i64 0, .int .i64 0, .int .i64 0, .int .i64 0, .int .i64 0, .string { data := #[] }, .string { data := #[] }, .string { data := #[] }, .string { data := #[] }])).run Tryz.prog w = .ok true w := fun w => (eqMail zeroM zeroM w).trans (by rw [eqML_iff.2 rfl])
    have he2 : ∀ w, (Op.equalIn 10000 27 (.agg #[.string { data := #[] }, .string { data := #[] }, .string { data := #[] }]) (.agg #[.string { data := #[] }, .string { data := #[] }, .string { data := #[] }])).run Tryz.prog w = .ok true w := fun w => (eqRcpt zeroR zeroR w).trans (by rw [eqRL_iff.2 rfl])
    clear hl hms
    go_enter Tryz.func5, Tryz.ntmps5
    go_wp2_with fail
    refine HA.out.mono ?_
    rintro e w1 ⟨rfl, hb⟩
    have HB := Lib.hid hb
    clear hb
    go_wp2_with fail
    refine (HP1.out _ (HRb.out _ HB.out)).mono ?_
    rintro e w2 ⟨rfl, hb⟩
    have B1 := Lib.hid (show MBox w w2.heap.size zeroM (w2.alloc (.cells #[.bool zeroM.hs, .bool zeroM.hf, .bool zeroM.hu, .bool zeroM.hb, .bool zeroM.hp, .int .i64 zeroM.sz, .int .i64 zeroM.fo, .int .i64 zeroM.un, .int .i64 zeroM.by_, .int .i64 zeroM.pr, .string (mkS zeroM.body), .string (mkS zeroM.ret), .string (mkS zeroM.env), .string (mkS zeroM.mode)] 25)) from ⟨newOf w2 _, (below_next HB.out hb).alloc (below_next HB.out hb).size _⟩)
    clear hb HB
    go_wp2_with fail
    generalize w2.alloc (.cells #[.bool zeroM.hs, .bool zeroM.hf, .bool zeroM.hu, .bool zeroM.hb, .bool zeroM.hp, .int .i64 zeroM.sz, .int .i64 zeroM.fo, .int .i64 zeroM.un, .int .i64 zeroM.by_, .int .i64 zeroM.pr, .string (mkS zeroM.body), .string (mkS zeroM.ret), .string (mkS zeroM.env), .string (mkS zeroM.mode)] 25) = v1 at B1 ⊢
    generalize w2.heap.size = g1 at B1 ⊢
    refine (HQ1.out _ (HNb.out _ B1.out.below)).mono ?_
    rintro e w3 ⟨rfl, hb⟩
    have B2 := Lib.hid ((B1.out.next hb).next (below_new1 w3 (.cells #[.string (mkS zeroR.no), .string (mkS zeroR.kind), .string (mkS zeroR.oc)] 27)))
    have R2 := Lib.hid (show RBox w w3.heap.size zeroR (w3.alloc (.cells #[.string (mkS zeroR.no), .string (mkS zeroR.kind), .string (mkS zeroR.oc)] 27)) from ⟨newOf w3 _, ((B1.out.next hb).next (below_new1 w3 _)).below⟩)
    clear hb B1
    have c0 : (_ : Option Value) = some (.bool false) := B2.out.c0
    have c1 : (_ : Option Value) = some (.bool false) := B2.out.c1
    have c2 : (_ : Option Value) = some (.bool false) := B2.out.c2
    have c3 : (_ : Option Value) = some (.bool false) := B2.out.c3
    have c4 : (_ : Option Value) = some (.bool false) := B2.out.c4
    have c5 : (_ : Option Value) = some (.int .i64 0) := B2.out.c5
    have c6 : (_ : Option Value) = some (.int .i64 0) := B2.out.c6
    have c7 : (_ : Option Value) = some (.int .i64 0) := B2.out.c7
    have c8 : (_ : Option Value) = some (.int .i64 0) := B2.out.c8
    have c9 : (_ : Option Value) = some (.int .i64 0) := B2.out.c9
    have c10 : (_ : Option Value) = some (.string { data := #[] }) := B2.out.c10
    have c11 : (_ : Option Value) = some (.string { data := #[] }) := B2.out.c11
    have c12 : (_ : Option Value) = some (.string { data := #[] }) := B2.out.c12
    have c13 : (_ : Option Value) = some (.string { data := #[] }) := B2.out.c13
    have r0 : (_ : Option Value) = some (.string { data := #[] }) := R2.out.c0
    have r1 : (_ : Option Value) = some (.string { data := #[] }) := R2.out.c1
    have r2 : (_ : Option Value) = some (.string { data := #[] }) := R2.out.c2
    have HB := Lib.hid B2.out.below
    clear B2 R2
    go_wp2_with fail
    go_ret
    exact ⟨rfl, HB.out⟩
  have hne1 : s.isEmpty = false := by cases s with
    | nil => exact absurd rfl hs
    | cons a t => rfl
  have hne2 : decide (s = []) = false := decide_eq_false hs
  have hne3 : (s == []) = false := beq_eq_false_iff_ne.2 hs
  have HW := Lib.hid (fun w => words_x s w (by omega))
  have htl : (turnT s).length ≤ 1000000 := by have := turn_len s; omega
  have HP2 := Lib.hid (fun w h => parseM_x (turnT s) w htl h)
  have HQ2 := Lib.hid (fun w h => parseR_x (turnT s) w htl h)
  unfold MailPost mCells at HP2
  unfold RcptPost at HQ2
  have HLF := Lib.hid (laid_full (s := s))
  have hln0 : (splitC 32 s).length ≠ 0 := fun h => splitC_ne 32 s (List.eq_nil_of_length_eq_zero h)
  have hln1 := splitC_len 32 s
  have hln2 := splitC_lens 32 s
  obtain ⟨y, hy⟩ : ∃ y, (splitC 32 s)[which.toNat % (splitC 32 s).length]? = some y := ⟨_, List.getElem?_eq_getElem (Nat.mod_lt _ (by omega))⟩
  have hym := List.mem_of_getElem? hy
  have hyl := splitC_le 32 s y hym
  have hcat : mkS s ++ { data := #[32] } ++ mkS y = mkS (s ++ 32 :: y) := by rw [show ({ data := #[32] } : ByteArray) = mkS [32] from rfl, mkS_cat, mkS_cat]; simp
  have htl3 : (s ++ 32 :: y).length ≤ 1000000 := by simp; omega
  have HP3 := Lib.hid (fun w h => parseM_x (s ++ 32 :: y) w htl3 h)
  have HQ3 := Lib.hid (fun w h => parseR_x (s ++ 32 :: y) w htl3 h)
  unfold MailPost mCells at HP3
  unfold RcptPost at HQ3
  have FM := Lib.hid (fun h => ord_m (s := s) hs h)
  have FR := Lib.hid (fun h => ord_r (s := s) hs h)
  have GM := Lib.hid (fun h => twice_m (s := s) (w := y) hs h hym)
  have GR := Lib.hid (fun h => twice_r (s := s) (w := y) hs h hym)
  generalize peM s = E1 at HP1 FM GM
  generalize pvM s = M1 at HP1 FM
  generalize peR s = F1 at HQ1 FR GR
  generalize pvR s = R1 at HQ1 FR
  generalize peM (turnT s) = E2 at HP2 FM
  generalize pvM (turnT s) = M2 at HP2 FM
  generalize peR (turnT s) = F2 at HQ2 FR
  generalize pvR (turnT s) = R2 at HQ2 FR
  generalize peM (s ++ 32 :: y) = E3 at HP3 GM
  generalize pvM (s ++ 32 :: y) = M3 at HP3
  generalize peR (s ++ 32 :: y) = F3 at HQ3 GR
  generalize pvR (s ++ 32 :: y) = R3 at HQ3
  generalize s ++ 32 :: y = t3 at hcat HP3 HQ3
  generalize turnT s = t2 at HP2 HQ2 HLF
  have hly1 : (mkS s).size ≤ 3000 := by rw [mkS_size]; omega
  have hly2 : (mkS y).size ≤ 3000 := by rw [mkS_size]; omega
  have hyy1 : ¬ 9223372036854775807 < (mkS s).size + 1 := by omega
  have hyy2 : ¬ 9223372036854775807 < (mkS s).size + 1 + (mkS y).size := by omega
  have hyy3 : ¬ 9223372036854775807 < s.length + 1 := by omega
  have hyy4 : ¬ 9223372036854775807 < s.length + 1 + (mkS y).size := by omega
  have HY := Lib.hid hy
  have HLx := Lib.hid (fun x hx => splitC_le 32 s x hx)
  generalize splitC 32 s = l at HW HLF hln0 hln1 hln2 HY HLx
  have hrem : which.tmod (l.length : Int) = ((which.toNat % l.length : Nat) : Int) := by
    obtain ⟨u, rfl⟩ : ∃ u : Nat, which = u := ⟨which.toNat, by omega⟩
    rw [Int.toNat_natCast]
    exact (Int.ofNat_tmod u l.length).symm
  have hq := Nat.mod_lt which.toNat (show 0 < l.length by omega)
  generalize which.toNat % l.length = q at hrem HY hq
  have hqI1 : (q : Int) < (l.length : Int) := by omega
  have hqI0 : (0 : Int) ≤ (q : Int) := by omega
  have hn0 : ((l.length : Int) == 0) = false := beq_eq_false_iff_ne.2 (by omega)
  have hn0' : ¬ (l.length : Int) = 0 := by omega
  clear hy hym hyl hs htl htl3 hz hw0 hw1 hl
  go_enter Tryz.func5, Tryz.ntmps5
  go_wp2_with fail
  refine HA.out.mono ?_
  rintro e w1 ⟨rfl, hb⟩
  have HB := Lib.hid hb
  clear hb HA
  go_wp2_with fail
  refine (HP1.out _ (HRb.out _ HB.out)).mono ?_
  rintro e w2 ⟨rfl, hb⟩
  have B1 := Lib.hid (show MBox w w2.heap.size M1 (w2.alloc (.cells #[.bool M1.hs, .bool M1.hf, .bool M1.hu, .bool M1.hb, .bool M1.hp, .int .i64 M1.sz, .int .i64 M1.fo, .int .i64 M1.un, .int .i64 M1.by_, .int .i64 M1.pr, .string (mkS M1.body), .string (mkS M1.ret), .string (mkS M1.env), .string (mkS M1.mode)] 25)) from ⟨newOf w2 _, (below_next HB.out hb).alloc (below_next HB.out hb).size _⟩)
  clear hb HB HP1
  go_wp2_with fail
  generalize w2.alloc (.cells #[.bool M1.hs, .bool M1.hf, .bool M1.hu, .bool M1.hb, .bool M1.hp, .int .i64 M1.sz, .int .i64 M1.fo, .int .i64 M1.un, .int .i64 M1.by_, .int .i64 M1.pr, .string (mkS M1.body), .string (mkS M1.ret), .string (mkS M1.env), .string (mkS M1.mode)] 25) = v1 at B1 ⊢
  generalize w2.heap.size = g1 at B1 ⊢
  refine (HQ1.out _ (HNb.out _ B1.out.below)).mono ?_
  rintro e w3 ⟨rfl, hb⟩
  have B2 := Lib.hid ((B1.out.next hb).next (below_new1 w3 (.cells #[.string (mkS R1.no), .string (mkS R1.kind), .string (mkS R1.oc)] 27)))
  have R2b := Lib.hid (show RBox w w3.heap.size R1 (w3.alloc (.cells #[.string (mkS R1.no), .string (mkS R1.kind), .string (mkS R1.oc)] 27)) from ⟨newOf w3 _, ((B1.out.next hb).next (below_new1 w3 _)).below⟩)
  clear hb B1 HQ1
  go_wp2_with fail
  generalize w3.alloc (.cells #[.string (mkS R1.no), .string (mkS R1.kind), .string (mkS R1.oc)] 27) = v2 at B2 R2b ⊢
  generalize w3.heap.size = g2 at R2b ⊢
  refine (HW.out _).mono ?_
  rintro e w4 ⟨v, rfl, hown, hb⟩
  obtain ⟨g3, cap, rfl⟩ := Joins.ownsRow_form hown (by omega)
  have B3 := Lib.hid (B2.out.next hb)
  have R3b := Lib.hid (R2b.out.next hb)
  have HO := Lib.hid hown
  have HC := Lib.hid (show ∀ (j : Nat) x, l[j]? = some x → w4.cell? ⟨g3, j, none⟩ = some (.string (mkS x)) from fun j x hj => by
    have := hown.cells rfl j (.string (mkS x)) (by simp [strsV, hj])
    rwa [show (⟨g3, 0, none⟩ : Addr).add j = ⟨g3, j, none⟩ by unfold Addr.add; split <;> simp_all] at this)
  clear hb B2 R2b hown HW
  have hsub : IntKind.i64.wrap ((l.length : Int) - 1) = (l.length : Int) - 1 := IntWalk.i64_in _ (by omega)
  go_wp2_with fail
  go_loop [10, 11] (fun t i => ∃ j : Nat, j ≤ l.length ∧ i = .int .i64 ((l.length : Int) - 1 - (j : Int)) ∧ t = .string (mkS (laidT l j))) (fun _ i => ((intOf i) + 1).toNat)
  case atStart => exact ⟨0, Nat.zero_le _, by simp, rfl⟩
  case round =>
    obtain ⟨j, hj, rfl, rfl⟩ := hrel
    by_cases hjl : j < l.length
    · obtain ⟨k, hk⟩ : ∃ k : Nat, (l.length : Int) - 1 - (j : Int) = k := ⟨l.length - 1 - j, by omega⟩
      obtain ⟨x, hx⟩ : ∃ x, l[l.length - 1 - j]? = some x := ⟨_, List.getElem?_eq_getElem (by omega)⟩
      have hkj : k = l.length - 1 - j := by omega
      have hc := HC.out k x (by rw [hkj]; exact hx)
      have HSt := Lib.hid (laid_step hjl hx)
      have hxl := HLx.out x (List.mem_of_getElem? hx)
      have htl := laid_len l j
      have hz1 : (mkS (laidT l j)).size ≤ 10000 := by rw [mkS_size]; omega
      have hz2 : (mkS x).size ≤ 3000 := by rw [mkS_size]; omega
      have hct : mkS (laidT l j) ++ mkS x = mkS (laidT l j ++ x) := mkS_cat _ _
      have hz3 : ¬ 9223372036854775807 < (mkS (laidT l j)).size + (mkS x).size := by omega
      have hz4 : (mkS (laidT l j ++ x)).size ≤ 20000 := by rw [mkS_size, List.length_append]; rw [mkS_size] at hz1 hz2; omega
      have hct2 : mkS (laidT l j ++ x) ++ { data := #[32] } = mkS (laidT l j ++ x ++ [32]) := mkS_cat _ [32]
      have hz5 : ¬ 9223372036854775807 < (mkS (laidT l j ++ x)).size + 1 := by omega
      have hk0 : (0 : Int) ≤ (k : Int) := by omega
      have hk1 : (k : Int) < (l.length : Int) := by omega
      have hsb : IntKind.i64.wrap ((k : Int) - 1) = (k : Int) - 1 := IntWalk.i64_in _ (by omega)
      rw [hk]
      have HK := Lib.hid hk
      have HX2 := Lib.hid (show laidT l (j + 1) = if j + 1 < l.length then laidT l j ++ x ++ [32] else laidT l j ++ x by rw [HSt.out]; unfold laidT; rw [if_neg (by omega)])
      generalize laidT l j = t at hct hz1 hz3 hz4 hct2 hz5 HX2
      clear hk hx htl HSt hxl hkj
      by_cases hk2 : 0 < k
      · have hk3 : (0 : Int) < (k : Int) := by omega
        go_wp2_with fail
        go_round
        case rel => exact ⟨j + 1, by omega, by congr 1; have := HK.out; omega, by rw [HX2.out, if_pos (by have := HK.out; omega), List.append_assoc]⟩
        case measure => simp [intOf]
      · have hk3 : ¬ (0 : Int) < (k : Int) := by omega
        go_wp2_with fail
        go_round
        case rel => exact ⟨j + 1, by omega, by congr 1; have := HK.out; omega, by rw [HX2.out, if_neg (by have := HK.out; omega)]⟩
        case measure => simp [intOf]
    · obtain rfl : j = l.length := by omega
      rw [HLF.out, show (l.length : Int) - 1 - (l.length : Int) = -1 by omega]
      clear hj hjl HLF
      go_wp2_with fail
      refine (HP2.out _ (HRb.out _ B3.out.below)).mono ?_
      rintro e w5 ⟨rfl, hb⟩
      have B4 := Lib.hid ((B3.out.next hb).next (below_new1 w5 (.cells #[.bool M2.hs, .bool M2.hf, .bool M2.hu, .bool M2.hb, .bool M2.hp, .int .i64 M2.sz, .int .i64 M2.fo, .int .i64 M2.un, .int .i64 M2.by_, .int .i64 M2.pr, .string (mkS M2.body), .string (mkS M2.ret), .string (mkS M2.env), .string (mkS M2.mode)] 25)))
      have R4 := Lib.hid ((R3b.out.next hb).next (below_new1 w5 (.cells #[.bool M2.hs, .bool M2.hf, .bool M2.hu, .bool M2.hb, .bool M2.hp, .int .i64 M2.sz, .int .i64 M2.fo, .int .i64 M2.un, .int .i64 M2.by_, .int .i64 M2.pr, .string (mkS M2.body), .string (mkS M2.ret), .string (mkS M2.env), .string (mkS M2.mode)] 25)))
      have N4 := Lib.hid (show MBox w w5.heap.size M2 (w5.alloc (.cells #[.bool M2.hs, .bool M2.hf, .bool M2.hu, .bool M2.hb, .bool M2.hp, .int .i64 M2.sz, .int .i64 M2.fo, .int .i64 M2.un, .int .i64 M2.by_, .int .i64 M2.pr, .string (mkS M2.body), .string (mkS M2.ret), .string (mkS M2.env), .string (mkS M2.mode)] 25)) from ⟨newOf w5 _, ((B3.out.next hb).next (below_new1 w5 _)).below⟩)
      have O4 := Lib.hid (own_below (own_below HO.out hb) (below_new1 w5 (.cells #[.bool M2.hs, .bool M2.hf, .bool M2.hu, .bool M2.hb, .bool M2.hp, .int .i64 M2.sz, .int .i64 M2.fo, .int .i64 M2.un, .int .i64 M2.by_, .int .i64 M2.pr, .string (mkS M2.body), .string (mkS M2.ret), .string (mkS M2.env), .string (mkS M2.mode)] 25)))
      clear hb B3 R3b HO HC HP2
      go_wp2_with fail
      generalize w5.alloc (.cells #[.bool M2.hs, .bool M2.hf, .bool M2.hu, .bool M2.hb, .bool M2.hp, .int .i64 M2.sz, .int .i64 M2.fo, .int .i64 M2.un, .int .i64 M2.by_, .int .i64 M2.pr, .string (mkS M2.body), .string (mkS M2.ret), .string (mkS M2.env), .string (mkS M2.mode)] 25) = v5 at B4 R4 N4 O4 ⊢
      generalize w5.heap.size = g5 at N4 ⊢
      refine (HQ2.out _ (HNb.out _ B4.out.below)).mono ?_
      rintro e w6 ⟨rfl, hb⟩
      have B5 := Lib.hid ((B4.out.next hb).next (below_new1 w6 (.cells #[.string (mkS R2.no), .string (mkS R2.kind), .string (mkS R2.oc)] 27)))
      have R5 := Lib.hid ((R4.out.next hb).next (below_new1 w6 (.cells #[.string (mkS R2.no), .string (mkS R2.kind), .string (mkS R2.oc)] 27)))
      have N5 := Lib.hid ((N4.out.next hb).next (below_new1 w6 (.cells #[.string (mkS R2.no), .string (mkS R2.kind), .string (mkS R2.oc)] 27)))
      have Q5 := Lib.hid (show RBox w w6.heap.size R2 (w6.alloc (.cells #[.string (mkS R2.no), .string (mkS R2.kind), .string (mkS R2.oc)] 27)) from ⟨newOf w6 _, ((B4.out.next hb).next (below_new1 w6 _)).below⟩)
      have O5 := Lib.hid (own_below (own_below O4.out hb) (below_new1 w6 (.cells #[.string (mkS R2.no), .string (mkS R2.kind), .string (mkS R2.oc)] 27)))
      clear hb B4 R4 N4 O4 HQ2
      have c0 := B5.out.c0
      have n0 := N5.out.c0
      have c1 := B5.out.c1
      have n1 := N5.out.c1
      have c2 := B5.out.c2
      have n2 := N5.out.c2
      have c3 := B5.out.c3
      have n3 := N5.out.c3
      have c4 := B5.out.c4
      have n4 := N5.out.c4
      have c5 := B5.out.c5
      have n5 := N5.out.c5
      have c6 := B5.out.c6
      have n6 := N5.out.c6
      have c7 := B5.out.c7
      have n7 := N5.out.c7
      have c8 := B5.out.c8
      have n8 := N5.out.c8
      have c9 := B5.out.c9
      have n9 := N5.out.c9
      have c10 := B5.out.c10
      have n10 := N5.out.c10
      have c11 := B5.out.c11
      have n11 := N5.out.c11
      have c12 := B5.out.c12
      have n12 := N5.out.c12
      have c13 := B5.out.c13
      have n13 := N5.out.c13
      have r0 := R5.out.c0
      have q0 := Q5.out.c0
      have r1 := R5.out.c1
      have q1 := Q5.out.c1
      have r2 := R5.out.c2
      have q2 := Q5.out.c2
      have cy := (show ∀ (j : Nat) x, l[j]? = some x → (w6.alloc (.cells #[.string (mkS R2.no), .string (mkS R2.kind), .string (mkS R2.oc)] 27)).cell? ⟨g3, j, none⟩ = some (.string (mkS x)) from fun j x hj => by
        have := O5.out.cells rfl j (.string (mkS x)) (by simp [strsV, hj])
        rwa [show (⟨g3, 0, none⟩ : Addr).add j = ⟨g3, j, none⟩ by unfold Addr.add; split <;> simp_all] at this) q y HY.out
      have HE1 := Lib.hid (fun w => (eqMail M1 M1 w).trans (by rw [eqML_iff.2 rfl] : _ = Result.ok true w))
      have HE2 := Lib.hid (fun w => (eqRcpt R1 R1 w).trans (by rw [eqRL_iff.2 rfl] : _ = Result.ok true w))
      by_cases hE : E1 = 0
      · by_cases hF : F1 = 0
        · subst hE
          obtain ⟨rfl, rfl⟩ := FM.out rfl
          have hE3 := GM.out rfl
          have he1 := HE1.out
          subst hF
          obtain ⟨rfl, rfl⟩ := FR.out rfl
          have hF3 := GR.out rfl
          have he2 := HE2.out
          clear FM FR GM GR HE1 HE2
          go_wp2_with fail
          refine (HP3.out _ (HRb.out _ B5.out.below)).mono ?_
          rintro e w7 ⟨rfl, hb⟩
          have B6 := Lib.hid ((B5.out.next hb).next (below_new1 w7 (.cells #[.bool M3.hs, .bool M3.hf, .bool M3.hu, .bool M3.hb, .bool M3.hp, .int .i64 M3.sz, .int .i64 M3.fo, .int .i64 M3.un, .int .i64 M3.by_, .int .i64 M3.pr, .string (mkS M3.body), .string (mkS M3.ret), .string (mkS M3.env), .string (mkS M3.mode)] 25)))
          have O6 := Lib.hid (own_below (own_below O5.out hb) (below_new1 w7 (.cells #[.bool M3.hs, .bool M3.hf, .bool M3.hu, .bool M3.hb, .bool M3.hp, .int .i64 M3.sz, .int .i64 M3.fo, .int .i64 M3.un, .int .i64 M3.by_, .int .i64 M3.pr, .string (mkS M3.body), .string (mkS M3.ret), .string (mkS M3.env), .string (mkS M3.mode)] 25)))
          clear hb B5 R5 N5 Q5 O5 cy c0 n0 c1 n1 c2 n2 c3 n3 c4 n4 c5 n5 c6 n6 c7 n7 c8 n8 c9 n9 c10 n10 c11 n11 c12 n12 c13 n13 r0 q0 r1 q1 r2 q2
          have cy := (show ∀ (j : Nat) x, l[j]? = some x → (w7.alloc (.cells #[.bool M3.hs, .bool M3.hf, .bool M3.hu, .bool M3.hb, .bool M3.hp, .int .i64 M3.sz, .int .i64 M3.fo, .int .i64 M3.un, .int .i64 M3.by_, .int .i64 M3.pr, .string (mkS M3.body), .string (mkS M3.ret), .string (mkS M3.env), .string (mkS M3.mode)] 25)).cell? ⟨g3, j, none⟩ = some (.string (mkS x)) from fun j x hj => by
            have := O6.out.cells rfl j (.string (mkS x)) (by simp [strsV, hj])
            rwa [show (⟨g3, 0, none⟩ : Addr).add j = ⟨g3, j, none⟩ by unfold Addr.add; split <;> simp_all] at this) q y HY.out
          clear O6
          go_wp2_with fail
          refine (HQ3.out _ (HNb.out _ B6.out.below)).mono ?_
          rintro e w8 ⟨rfl, hb⟩
          have HB := Lib.hid ((B6.out.next hb).next (below_new1 w8 (.cells #[.string (mkS R3.no), .string (mkS R3.kind), .string (mkS R3.oc)] 27))).below
          clear hb B6 cy
          go_wp2_with fail
          go_ret
          exact ⟨ret_bool (by simp), HB.out⟩
        · subst hE
          obtain ⟨rfl, rfl⟩ := FM.out rfl
          have hE3 := GM.out rfl
          have he1 := HE1.out
          have hFb : (F1 == 0) = false := beq_eq_false_iff_ne.2 hF
          clear FM FR GM GR HE1 HE2
          go_wp2_with fail
          refine (HP3.out _ (HRb.out _ B5.out.below)).mono ?_
          rintro e w7 ⟨rfl, hb⟩
          have B6 := Lib.hid ((B5.out.next hb).next (below_new1 w7 (.cells #[.bool M3.hs, .bool M3.hf, .bool M3.hu, .bool M3.hb, .bool M3.hp, .int .i64 M3.sz, .int .i64 M3.fo, .int .i64 M3.un, .int .i64 M3.by_, .int .i64 M3.pr, .string (mkS M3.body), .string (mkS M3.ret), .string (mkS M3.env), .string (mkS M3.mode)] 25)))
          have O6 := Lib.hid (own_below (own_below O5.out hb) (below_new1 w7 (.cells #[.bool M3.hs, .bool M3.hf, .bool M3.hu, .bool M3.hb, .bool M3.hp, .int .i64 M3.sz, .int .i64 M3.fo, .int .i64 M3.un, .int .i64 M3.by_, .int .i64 M3.pr, .string (mkS M3.body), .string (mkS M3.ret), .string (mkS M3.env), .string (mkS M3.mode)] 25)))
          clear hb B5 R5 N5 Q5 O5 cy c0 n0 c1 n1 c2 n2 c3 n3 c4 n4 c5 n5 c6 n6 c7 n7 c8 n8 c9 n9 c10 n10 c11 n11 c12 n12 c13 n13 r0 q0 r1 q1 r2 q2
          have cy := (show ∀ (j : Nat) x, l[j]? = some x → (w7.alloc (.cells #[.bool M3.hs, .bool M3.hf, .bool M3.hu, .bool M3.hb, .bool M3.hp, .int .i64 M3.sz, .int .i64 M3.fo, .int .i64 M3.un, .int .i64 M3.by_, .int .i64 M3.pr, .string (mkS M3.body), .string (mkS M3.ret), .string (mkS M3.env), .string (mkS M3.mode)] 25)).cell? ⟨g3, j, none⟩ = some (.string (mkS x)) from fun j x hj => by
            have := O6.out.cells rfl j (.string (mkS x)) (by simp [strsV, hj])
            rwa [show (⟨g3, 0, none⟩ : Addr).add j = ⟨g3, j, none⟩ by unfold Addr.add; split <;> simp_all] at this) q y HY.out
          clear O6
          go_wp2_with fail
          refine (HQ3.out _ (HNb.out _ B6.out.below)).mono ?_
          rintro e w8 ⟨rfl, hb⟩
          have HB := Lib.hid ((B6.out.next hb).next (below_new1 w8 (.cells #[.string (mkS R3.no), .string (mkS R3.kind), .string (mkS R3.oc)] 27))).below
          clear hb B6 cy
          go_wp2_with fail
          go_ret
          exact ⟨ret_bool (by simp), HB.out⟩
      · by_cases hF : F1 = 0
        · have hEb : (E1 == 0) = false := beq_eq_false_iff_ne.2 hE
          subst hF
          obtain ⟨rfl, rfl⟩ := FR.out rfl
          have hF3 := GR.out rfl
          have he2 := HE2.out
          clear FM FR GM GR HE1 HE2
          go_wp2_with fail
          refine (HP3.out _ (HRb.out _ B5.out.below)).mono ?_
          rintro e w7 ⟨rfl, hb⟩
          have B6 := Lib.hid ((B5.out.next hb).next (below_new1 w7 (.cells #[.bool M3.hs, .bool M3.hf, .bool M3.hu, .bool M3.hb, .bool M3.hp, .int .i64 M3.sz, .int .i64 M3.fo, .int .i64 M3.un, .int .i64 M3.by_, .int .i64 M3.pr, .string (mkS M3.body), .string (mkS M3.ret), .string (mkS M3.env), .string (mkS M3.mode)] 25)))
          have O6 := Lib.hid (own_below (own_below O5.out hb) (below_new1 w7 (.cells #[.bool M3.hs, .bool M3.hf, .bool M3.hu, .bool M3.hb, .bool M3.hp, .int .i64 M3.sz, .int .i64 M3.fo, .int .i64 M3.un, .int .i64 M3.by_, .int .i64 M3.pr, .string (mkS M3.body), .string (mkS M3.ret), .string (mkS M3.env), .string (mkS M3.mode)] 25)))
          clear hb B5 R5 N5 Q5 O5 cy c0 n0 c1 n1 c2 n2 c3 n3 c4 n4 c5 n5 c6 n6 c7 n7 c8 n8 c9 n9 c10 n10 c11 n11 c12 n12 c13 n13 r0 q0 r1 q1 r2 q2
          have cy := (show ∀ (j : Nat) x, l[j]? = some x → (w7.alloc (.cells #[.bool M3.hs, .bool M3.hf, .bool M3.hu, .bool M3.hb, .bool M3.hp, .int .i64 M3.sz, .int .i64 M3.fo, .int .i64 M3.un, .int .i64 M3.by_, .int .i64 M3.pr, .string (mkS M3.body), .string (mkS M3.ret), .string (mkS M3.env), .string (mkS M3.mode)] 25)).cell? ⟨g3, j, none⟩ = some (.string (mkS x)) from fun j x hj => by
            have := O6.out.cells rfl j (.string (mkS x)) (by simp [strsV, hj])
            rwa [show (⟨g3, 0, none⟩ : Addr).add j = ⟨g3, j, none⟩ by unfold Addr.add; split <;> simp_all] at this) q y HY.out
          clear O6
          go_wp2_with fail
          refine (HQ3.out _ (HNb.out _ B6.out.below)).mono ?_
          rintro e w8 ⟨rfl, hb⟩
          have HB := Lib.hid ((B6.out.next hb).next (below_new1 w8 (.cells #[.string (mkS R3.no), .string (mkS R3.kind), .string (mkS R3.oc)] 27))).below
          clear hb B6 cy
          go_wp2_with fail
          go_ret
          exact ⟨ret_bool (by simp), HB.out⟩
        · have hEb : (E1 == 0) = false := beq_eq_false_iff_ne.2 hE
          have hFb : (F1 == 0) = false := beq_eq_false_iff_ne.2 hF
          clear FM FR GM GR HE1 HE2
          go_wp2_with fail
          refine (HP3.out _ (HRb.out _ B5.out.below)).mono ?_
          rintro e w7 ⟨rfl, hb⟩
          have B6 := Lib.hid ((B5.out.next hb).next (below_new1 w7 (.cells #[.bool M3.hs, .bool M3.hf, .bool M3.hu, .bool M3.hb, .bool M3.hp, .int .i64 M3.sz, .int .i64 M3.fo, .int .i64 M3.un, .int .i64 M3.by_, .int .i64 M3.pr, .string (mkS M3.body), .string (mkS M3.ret), .string (mkS M3.env), .string (mkS M3.mode)] 25)))
          have O6 := Lib.hid (own_below (own_below O5.out hb) (below_new1 w7 (.cells #[.bool M3.hs, .bool M3.hf, .bool M3.hu, .bool M3.hb, .bool M3.hp, .int .i64 M3.sz, .int .i64 M3.fo, .int .i64 M3.un, .int .i64 M3.by_, .int .i64 M3.pr, .string (mkS M3.body), .string (mkS M3.ret), .string (mkS M3.env), .string (mkS M3.mode)] 25)))
          clear hb B5 R5 N5 Q5 O5 cy c0 n0 c1 n1 c2 n2 c3 n3 c4 n4 c5 n5 c6 n6 c7 n7 c8 n8 c9 n9 c10 n10 c11 n11 c12 n12 c13 n13 r0 q0 r1 q1 r2 q2
          have cy := (show ∀ (j : Nat) x, l[j]? = some x → (w7.alloc (.cells #[.bool M3.hs, .bool M3.hf, .bool M3.hu, .bool M3.hb, .bool M3.hp, .int .i64 M3.sz, .int .i64 M3.fo, .int .i64 M3.un, .int .i64 M3.by_, .int .i64 M3.pr, .string (mkS M3.body), .string (mkS M3.ret), .string (mkS M3.env), .string (mkS M3.mode)] 25)).cell? ⟨g3, j, none⟩ = some (.string (mkS x)) from fun j x hj => by
            have := O6.out.cells rfl j (.string (mkS x)) (by simp [strsV, hj])
            rwa [show (⟨g3, 0, none⟩ : Addr).add j = ⟨g3, j, none⟩ by unfold Addr.add; split <;> simp_all] at this) q y HY.out
          clear O6
          go_wp2_with fail
          refine (HQ3.out _ (HNb.out _ B6.out.below)).mono ?_
          rintro e w8 ⟨rfl, hb⟩
          have HB := Lib.hid ((B6.out.next hb).next (below_new1 w8 (.cells #[.string (mkS R3.no), .string (mkS R3.kind), .string (mkS R3.oc)] 27))).below
          clear hb B6 cy
          go_wp2_with fail
          go_ret
          exact ⟨ret_bool (by simp), HB.out⟩
end Go.Proofs.YtpdehgkkpgjpnaaGreatDoor
