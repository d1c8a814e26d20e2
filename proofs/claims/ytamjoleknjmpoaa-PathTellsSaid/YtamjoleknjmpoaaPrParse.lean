/-
  The walk of the reference's Parse.
-/
import Derived.Test.YtamjoleknjmpoaaPrMathP
import Derived.Test.YtamjoleknjmpoaaPrPrint
import Derived.Test.YtamjoleknjmpoaaPtParse
namespace Go.Proofs.Ytamjoleknjmpoaa
open Go.RowKit
theorem qi_new (w : World) : QI w ([], []) [] (.slice none 0 0) (w.alloc (.cells #[.string { data := #[] }, .string { data := #[] }] 25)) :=
  ⟨World.ownsRow_nil _ _ _ _, newOf w _, below_box w _, by simp⟩
theorem QI.next {W w w' : World} {p : Pth} {l : List UInt8} {v : Value} (h : QI W p l v w) (hb : Below w.heap.size w w') : QI W p l v w' :=
  ⟨own_below h.row hb, (hb.block _ (ltOf h.box)).trans h.box, below_next h.below hb, Nat.le_trans h.size hb.size⟩
theorem QI.drew {W w : World} {p : Pth} {l : List UInt8} {v : Value} (h : QI W p l v w) : QI W p l v w.drew :=
  ⟨h.row, h.box, ⟨h.below.os, h.below.tape, h.below.output, h.below.size, h.below.block⟩, h.size⟩
theorem QI.set {W w : World} {p : Pth} {l : List UInt8} {v : Value} (h : QI W p l v w) (a b : Value) : Below W.heap.size W ((w.setCell ⟨W.heap.size, 0, none⟩ a).setCell ⟨W.heap.size, 1, none⟩ b) :=
  (h.below.setCell (p := ⟨W.heap.size, 0, none⟩) (Nat.le_refl _) _).setCell (p := ⟨W.heap.size, 1, none⟩) (Nat.le_refl _) _
theorem QI.setRow {W w : World} {p : Pth} {l : List UInt8} {v : Value} (h : QI W p l v w) (a b : Value) : ((w.setCell ⟨W.heap.size, 0, none⟩ a).setCell ⟨W.heap.size, 1, none⟩ b).ownsRow (W.heap.size + 1) 5 1 v l.length (bytesV l) :=
  ownsRow_setCell_below (ownsRow_setCell_below h.row (Nat.lt_succ_self _) a) (Nat.lt_succ_self _) b
/-- The cells of what is answered. -/
theorem QI.res {W w : World} {l : List UInt8} {v : Value} (h : QI W ([], []) l v w) : w.cell? ⟨W.heap.size, 0, none⟩ = some (.string { data := #[] }) ∧ w.cell? ⟨W.heap.size, 1, none⟩ = some (.string { data := #[] }) ∧ w.frozen? ⟨W.heap.size, 0, none⟩ = false ∧ w.frozen? ⟨W.heap.size, 1, none⟩ = false :=
  ⟨cellOf h.box 0, cellOf h.box 1, freeOf h.box 0, freeOf h.box 1⟩
theorem unt_b {s b : List UInt8} {K : Nat} (h : s.drop K = 64 :: b) : untV s K 62 = if hasC 62 b then ((K + 1 + (preC 62 b).length : Nat) : Int) else -1 := by
  rw [untV, h]
  have e1 : hasC 62 (64 :: b) = hasC 62 b := by simp [hasC]
  have e2 : (preC 62 (64 :: b)).length = (preC 62 b).length + 1 := by simp [preC]
  rw [e1, e2]
  split
  · congr 1; omega
  · rfl
/-- The domain, and what is behind it, as pieces of the text. -/
theorem pieces {s b : List UInt8} {K : Nat} (h : s.drop K = 64 :: b) (h62 : hasC 62 b = true) : K + 1 + (preC 62 b).length + 1 ≤ s.length ∧ (s.take (K + 1 + (preC 62 b).length)).drop (K + 1) = preC 62 b ∧ s.drop (K + 1 + (preC 62 b).length + 1) = postC 62 b := by
  obtain ⟨_, hb⟩ := cut_of h62
  clear h62
  generalize preC 62 b = p at hb ⊢
  generalize postC 62 b = q at hb ⊢
  subst hb
  have hb1 : s.drop (K + 1) = p ++ 62 :: q := by
    have := congrArg (List.drop 1) h
    rw [List.drop_drop] at this
    exact this
  have hl := congrArg List.length h
  simp at hl
  refine ⟨by omega, ?_, ?_⟩
  · rw [List.drop_take, hb1, show K + 1 + p.length - (K + 1) = p.length by omega]
    simp
  · have h3 : s.drop (K + 1 + p.length + 1) = (s.drop (K + 1)).drop (p.length + 1) := by rw [List.drop_drop]; congr 1
    rw [h3, hb1]
    simp
set_option maxRecDepth 100000 in
set_option maxHeartbeats 4000000 in
theorem rparse_short (s : List UInt8) (w : World) (h : s.length < 2) : Calls Try.prog 12 #[.string (mkS s)] w (PaPost s w) := by
  have hms := mkS_size s
  have HP := Lib.hid (parse_short h)
  have HI := Lib.hid (qi_new w)
  have d : decide ((s.length : Int) < 2) = true := decide_eq_true (by omega)
  obtain ⟨d0, d1, f0, f1⟩ := HI.out.res
  go_enter Try.func12, Try.ntmps12
  go_wp2_with fail
  refine bodyPost_ret (v := .tuple #[.agg #[.string { data := #[] }, .string { data := #[] }], .string { data := #[] }, .int .i64 2]) (by simp [results, Try.results12, go_sem, d0, d1]) rfl ?_
  first | exact pa_no (HP.out) (HI.out.set _ _) | exact pa_no (HP.out) HI.out.below
set_option maxRecDepth 100000 in
set_option maxHeartbeats 4000000 in
theorem rparse_head (x : UInt8) (t : List UInt8) (w : World) (ht : t ≠ []) (h : x ≠ 60) : Calls Try.prog 12 #[.string (mkS (x :: t))] w (PaPost (x :: t) w) := by
  have hms : (mkS (x :: t)).size = t.length + 1 := by rw [mkS_size]; rfl
  have htl : 1 ≤ t.length := by cases t with | nil => exact absurd rfl ht | cons _ _ => simp
  have hx0 : (mkS (x :: t))[0]'(by omega) = x := mkS_get (by omega) rfl
  have HP := Lib.hid (parse_head (s := x :: t) (by simpa using h))
  have HI := Lib.hid (qi_new w)
  have d : decide ((t.length : Int) + 1 < 2) = false := decide_eq_false (by omega)
  have dx : ((x.toNat : Int) != 60) = true := by rw [byte_bne x 60 (by decide) 60 rfl]; exact bne_iff_ne.2 h
  obtain ⟨d0, d1, f0, f1⟩ := HI.out.res
  go_enter Try.func12, Try.ntmps12
  go_wp2_with fail
  refine bodyPost_ret (v := .tuple #[.agg #[.string { data := #[] }, .string { data := #[] }], .string { data := #[] }, .int .i64 2]) (by simp [results, Try.results12, go_sem, d0, d1]) rfl ?_
  first | exact pa_no (HP.out) (HI.out.set _ _) | exact pa_no (HP.out) HI.out.below
set_option maxRecDepth 100000 in
set_option maxHeartbeats 4000000 in
theorem rparse_null (r : List UInt8) (w : World) (hr : r.length ≤ 100000) : Calls Try.prog 12 #[.string (mkS (60 :: 62 :: r))] w (PaPost (60 :: 62 :: r) w) := by
  obtain ⟨s, hs⟩ : ∃ s, 60 :: 62 :: r = s := ⟨_, rfl⟩
  have hms : (mkS s).size = r.length + 2 := by rw [mkS_size, ← hs]; rfl
  have hx0 : (mkS s)[0]'(by omega) = 60 := mkS_get (by omega) (by rw [← hs]; rfl)
  have hx1 : (mkS s)[1]'(by omega) = 62 := mkS_get (by omega) (by rw [← hs]; rfl)
  have hex : (mkS s).extract 2 (r.length + 2) = mkS r := by rw [mkS_extract, ← hs]; simp
  have HP := Lib.hid (show parseV s = (([], []), r, 0) by rw [← hs]; exact parse_null r)
  have HI := Lib.hid (qi_new w)
  have d : decide ((r.length : Int) + 2 < 2) = false := decide_eq_false (by omega)
  have b1 : (2 : Int) ≤ (r.length : Int) + 2 := by omega
  rw [hs]
  clear hs
  obtain ⟨d0, d1, f0, f1⟩ := HI.out.res
  go_enter Try.func12, Try.ntmps12
  go_wp2_with fail
  go_region
  go_wp2_with fail
  refine bodyPost_ret (v := .tuple #[.agg #[.string { data := #[] }, .string { data := #[] }], .string (mkS r), .int .i64 0]) (by simp [results, Try.results12, go_sem, d0, d1]) rfl ?_
  exact pa_yes (p := ([], [])) HP.out HI.out.drew.below
theorem until62 (s : List UInt8) (K : Nat) (w : World) (hs : s.length ≤ 1000000) (hK : K ≤ s.length) (KI : Int) (h : KI = (K : Int)) : Calls Try.prog 33 #[.string (mkS s), .int .i64 KI, .int .u8 62] w fun e w' => e = .returned (.int .i64 (untV s K 62)) ∧ w = w' := by
  subst h
  exact until_x s K 62 w hs hK
theorem lowpm_x (l : List UInt8) (w : World) (h : l.length ≤ 1000000000) : Calls Try.prog 32 #[.string (mkS l)] w fun e w' => e = .returned (.string (mkS (smallL l))) ∧ Below w.heap.size w w' := lower_x l w h
set_option maxRecDepth 100000 in
set_option maxHeartbeats 16000000 in
theorem rparse_d (x : UInt8) (t : List UInt8) (w : World) (ht : t.length ≤ 100000) (h34 : x ≠ 34) (h62 : x ≠ 62) : Calls Try.prog 12 #[.string (mkS (60 :: x :: t))] w (PaPost (60 :: x :: t) w) := by
  obtain ⟨s, hs⟩ : ∃ s, 60 :: x :: t = s := ⟨_, rfl⟩
  obtain ⟨n, hn⟩ : ∃ n, s.length = n := ⟨_, rfl⟩
  have HSL := Lib.hid hn
  have hn2 : t.length + 2 = n := by rw [← hn, ← hs]; rfl
  have hms : (mkS s).size = n := (mkS_size s).trans hn
  have hx0 : (mkS s)[0]'(by omega) = 60 := mkS_get (by omega) (by rw [← hs]; rfl)
  have hx1 : (mkS s)[1]'(by omega) = x := mkS_get (by omega) (by rw [← hs]; rfl)
  have d : decide ((n : Int) < 2) = false := decide_eq_false (by omega)
  have HP0 := Lib.hid (fun (hf : Free (x :: t)) => show parseV s = none2 by rw [← hs]; exact parse_d0 h34 hf)
  have HP1 := Lib.hid (fun loc r (e : x :: t = loc ++ 62 :: r) (hf : Free loc) => show parseV s = if atoms loc && smallL loc == pmL then ((pmL, []), r, 0) else none2 by rw [← hs]; exact parse_d1 h34 h62 e hf)
  have HP2 := Lib.hid (fun loc b (e : x :: t = loc ++ 64 :: b) (hf : Free loc) => show parseV s = if atoms loc then endV loc b true else none2 by rw [← hs]; exact parse_d2 h34 e hf)
  have HCUT := Lib.hid (fun k (hk : 1 ≤ k) => show x :: t = (s.take k).drop 1 ++ s.drop k by
    have h1 : s.drop 1 = x :: t := by rw [← hs]; rfl
    rw [← h1]
    conv => lhs; rw [← List.take_append_drop k s]
    by_cases hkn : k ≤ s.length
    · rw [List.drop_append_of_le_length (by rw [List.length_take]; omega)]
    · rw [List.take_of_length_le (by omega), List.drop_eq_nil_of_le (show s.length ≤ k by omega)]; simp)
  have dx1 : ((x.toNat : Int) == 62) = false := by rw [byte_beq x 62 (by decide) 62 rfl]; exact beq_eq_false_iff_ne.2 h62
  have dx2 : ((x.toNat : Int) == 34) = false := by rw [byte_beq x 34 (by decide) 34 rfl]; exact beq_eq_false_iff_ne.2 h34
  have HI0 := Lib.hid (qi_new w)
  have HT0 := Lib.hid (show (s.take 1).drop 1 = [] by rw [← hs]; rfl)
  rw [hs]
  clear hs hn h34 h62
  go_enter Try.func12, Try.ntmps12
  go_wp2_with fail
  go_loopw [5, 6] (fun v i wr => ∃ k : Nat, 1 ≤ k ∧ k ≤ n ∧ i = .int .i64 k ∧ Hid (QI w ([], []) ((s.take k).drop 1) v wr) ∧ Hid (Free ((s.take k).drop 1))) (fun _ i _ => n - (intOf i).toNat)
  case atStart => exact ⟨1, Nat.le_refl _, by omega, rfl, by rw [HT0.out]; exact HI0, by rw [HT0.out]; exact ⟨by simp, by simp⟩⟩
  case round =>
    obtain ⟨k, hk1, hk, rfl, HI, HFR⟩ := hrel
    have HC := Lib.hid (HCUT.out k hk1)
    have hal : ((s.take k).drop 1).length ≤ 200000 := by rw [List.length_drop, List.length_take]; have := HSL.out; omega
    obtain ⟨A, c, hv⟩ := own_slice HI.out.row
    by_cases hlt : k < n
    · obtain ⟨z, hz⟩ : ∃ z : UInt8, (mkS s)[k]'(by omega) = z := ⟨_, rfl⟩
      have hZ : s[k]? = some z := by rw [← hz]; have := Lib.data_getElem? (mkS s) k (by omega); rwa [mkS_data] at this
      have HDZ := Lib.hid (drop_at hZ)
      by_cases h4 : z = 64
      · subst h4
        obtain ⟨b, hb⟩ : ∃ b, s.drop (k + 1) = b := ⟨_, rfl⟩
        have HDK := Lib.hid (show s.drop k = 64 :: b by rw [HDZ.out, hb])
        have HPP := Lib.hid (HP2.out _ b (by rw [← HDK.out]; exact HC.out) HFR.out)
        generalize (s.take k).drop 1 = acc at HI HPP hal hv
        subst hv
        have hcv := conv_own HI.out.row
        have HAT := Lib.hid (fun w => ratoms_x acc w (by omega))
        clear hZ hb
        cases hq : atoms acc
        · rw [hq] at HAT
          have HPV := Lib.hid (show parseV s = none2 by rw [HPP.out, hq]; rfl)
          clear hq
          go_wp2_with fail
          refine (HAT.out _).mono ?_
          rintro e w2 ⟨rfl, hb⟩
          have H2 := Lib.hid (HI.out.next hb)
          clear hb hcv
          obtain ⟨d0, d1, f0, f1⟩ := H2.out.res
          go_wp2_with fail
          refine bodyPost_ret (v := .tuple #[.agg #[.string { data := #[] }, .string { data := #[] }], .string { data := #[] }, .int .i64 2]) (by simp [results, Try.results12, go_sem, d0, d1]) rfl ?_
          first | exact pa_no (HPV.out) (H2.out.set _ _) | exact pa_no (HPV.out) H2.out.below
        · rw [hq] at HAT
          have HPAR := Lib.hid (show parseV s = endV acc b true by rw [HPP.out, hq]; rfl)
          clear hq
          go_wp2_with fail
          refine (HAT.out _).mono ?_
          rintro e w2 ⟨rfl, hb⟩
          have H2 := Lib.hid (HI.out.next hb)
          clear hb hcv
          go_wp2_with fail
          have HU := Lib.hid (unt_b HDK.out)
          have HUW := Lib.hid (fun w => until62 s k w (by rw [HSL.out]; omega) (by rw [HSL.out]; omega) (k : Int) rfl)
          cases h62 : hasC 62 b
          · have hu : untV s k 62 = -1 := by rw [HU.out, h62]; rfl
            rw [hu] at HUW
            have HPV := Lib.hid (show parseV s = none2 by rw [HPAR.out, endV_true, h62]; rfl)
            clear h62 hu
            refine (HUW.out _).mono ?_
            rintro e w2 ⟨rfl, rfl⟩
            obtain ⟨d0, d1, f0, f1⟩ := H2.out.res
            go_wp2_with fail
            refine bodyPost_ret (v := .tuple #[.agg #[.string { data := #[] }, .string { data := #[] }], .string { data := #[] }, .int .i64 2]) (by simp [results, Try.results12, go_sem, d0, d1]) rfl ?_
            first | exact pa_no (HPV.out) (H2.out.set _ _) | exact pa_no (HPV.out) H2.out.below
          · obtain ⟨hE1, hE2, hE3⟩ := pieces HDK.out h62
            have hu : untV s k 62 = ((k + 1 + (preC 62 b).length : Nat) : Int) := by rw [HU.out, h62]; rfl
            obtain ⟨E, hE⟩ : ∃ E, k + 1 + (preC 62 b).length = E := ⟨_, rfl⟩
            rw [hE] at hE1 hE2 hE3 hu
            rw [hu] at HUW
            have hexd : (mkS s).extract (k + 1) E = mkS (preC 62 b) := by rw [mkS_extract, hE2]
            have hexr : (mkS s).extract (E + 1) n = mkS (postC 62 b) := by rw [mkS_extract, ← HSL.out, List.take_length, hE3]
            have HPV0 := Lib.hid (show parseV s = if labels (preC 62 b) then (if longB (acc, smallL (preC 62 b)) then (([], []), [], 3) else ((acc, smallL (preC 62 b)), postC 62 b, 0)) else none2 by rw [HPAR.out, endV_true, h62]; rfl)
            rw [HSL.out] at hE1
            have HLB := Lib.hid (fun w => rlabels_x (preC 62 b) w (by omega))
            have HLO := Lib.hid (fun w => lower_x (preC 62 b) w (by omega))
            have hlg : longB (acc, smallL (preC 62 b)) = (decide (64 < acc.length) || decide (255 < E - k - 1)) := by
              simp only [longB, smallL_length]
              rw [show E - k - 1 = (preC 62 b).length by omega]
            rw [hlg] at HPV0
            have dE0 : decide ((E : Int) < 0) = false := decide_eq_false (by omega)
            have dEl : decide ((255 : Int) < (E : Int) - (k : Int) - 1) = decide (255 < E - k - 1) := by
              by_cases h : 255 < E - k - 1
              · rw [decide_eq_true h]; exact decide_eq_true (by omega)
              · rw [decide_eq_false h]; exact decide_eq_false (by omega)
            have dAl : decide ((64 : Int) < (acc.length : Int)) = decide (64 < acc.length) := by
              by_cases h : 64 < acc.length
              · rw [decide_eq_true h]; exact decide_eq_true (by omega)
              · rw [decide_eq_false h]; exact decide_eq_false (by omega)
            have b1 : (0 : Int) ≤ (k : Int) + 1 := by omega
            have b2 : (k : Int) + 1 ≤ (E : Int) := by omega
            have b3 : (E : Int) ≤ (n : Int) := by omega
            have b4 : (E : Int) + 1 ≤ (n : Int) := by omega
            have b5 : (0 : Int) ≤ (E : Int) + 1 := by omega
            generalize preC 62 b = dom at HLB HLO HPV0 hexd hE hlg
            generalize postC 62 b = rest at HPV0 hexr
            generalize labels dom = q3 at HLB HPV0
            generalize hsd : smallL dom = sd at HLO HPV0
            generalize decide (64 < acc.length) = q4 at dAl HPV0
            generalize decide (255 < E - k - 1) = q5 at dEl HPV0
            clear h62 hu hE hE2 hE3 hlg hsd
            cases q3
            · have HPV := Lib.hid (show parseV s = none2 by rw [HPV0.out]; rfl)
              refine (HUW.out _).mono ?_
              rintro e w2 ⟨rfl, rfl⟩
              go_wp2_with fail
              refine (HLB.out _).mono ?_
              rintro e w3 ⟨rfl, hb⟩
              have H3 := Lib.hid (H2.out.next hb)
              clear hb
              obtain ⟨d0, d1, f0, f1⟩ := H3.out.res
              go_wp2_with fail
              refine bodyPost_ret (v := .tuple #[.agg #[.string { data := #[] }, .string { data := #[] }], .string { data := #[] }, .int .i64 2]) (by simp [results, Try.results12, go_sem, d0, d1]) rfl ?_
              first | exact pa_no (HPV.out) (H3.out.set _ _) | exact pa_no (HPV.out) H3.out.below
            · cases q4 <;> cases q5
              · have HPV := Lib.hid (show parseV s = ((acc, sd), rest, 0) by rw [HPV0.out]; rfl)
                refine (HUW.out _).mono ?_
                rintro e w2 ⟨rfl, rfl⟩
                go_wp2_with fail
                refine (HLB.out _).mono ?_
                rintro e w3 ⟨rfl, hb⟩
                have H3 := Lib.hid (H2.out.next hb)
                clear hb
                obtain ⟨d0, d1, f0, f1⟩ := H3.out.res
                go_wp2_with fail
                have e1 : IntKind.i64.wrap ((k : Int) + 1) = (k : Int) + 1 := IntWalk.i64_in _ (by omega)
                have e2 : IntKind.i64.wrap ((E : Int) + 1) = (E : Int) + 1 := IntWalk.i64_in _ (by omega)
                have e3 : ((k : Int) + 1).toNat = k + 1 := by omega
                have e4 : ((E : Int) + 1).toNat = E + 1 := by omega
                have e5 : (E : Int).toNat = E := by omega
                first | (go_region_held3 (fun wr => (convert 42 9 (.slice A acc.length c)).run Try.prog wr = .ok (.string (mkS acc)) wr)
                  (first | exact conv_own H3.out.drew.row | exact conv_own H3.out.row | exact conv_own (Hid.out (by assumption : Hid (QI w ([], []) acc (.slice A acc.length c) _))).row | exact conv_own (QI.setRow (Hid.out (by assumption : Hid (QI w ([], []) acc (.slice A acc.length c) _))) _ _))
                  (first
                    | (go_at_call 32; (with_reducible refine (HLO.out _).mono ?_); rintro e w4 ⟨rfl, hb4⟩; have g0 := Lib.hid (H3.out.drew.next hb4); obtain ⟨g1, g2, g3, g4⟩ := g0.out.res)))
                all_goals
                  have HF := Lib.hid (g0.out.set (.string (mkS acc)) (.string (mkS sd)))
                  clear e1 e2 e3 e4 e5 b1 b2 b3 b4 b5 hb4 d0 d1 f0 f1
                  go_wp2_with fail
                  refine bodyPost_ret (v := .tuple #[.agg #[.string (mkS acc), .string (mkS sd)], .string (mkS rest), .int .i64 0]) (by simp [results, Try.results12, go_sem, g1, g2]) rfl ?_
                  exact pa_yes (p := (acc, sd)) HPV.out HF.out
              all_goals
                have HPV := Lib.hid (show parseV s = (([], []), [], 3) by rw [HPV0.out]; rfl)
                refine (HUW.out _).mono ?_
                rintro e w2 ⟨rfl, rfl⟩
                go_wp2_with fail
                refine (HLB.out _).mono ?_
                rintro e w3 ⟨rfl, hb⟩
                have H3 := Lib.hid (H2.out.next hb)
                clear hb
                obtain ⟨d0, d1, f0, f1⟩ := H3.out.res
                go_wp2_with fail
                refine bodyPost_ret (v := .tuple #[.agg #[.string { data := #[] }, .string { data := #[] }], .string { data := #[] }, .int .i64 3]) (by simp [results, Try.results12, go_sem, d0, d1]) rfl ?_
                first | exact pa_no (HPV.out) (H3.out.set _ _) | exact pa_no (HPV.out) H3.out.below
      · by_cases h6 : z = 62
        · subst h6
          obtain ⟨r, hr⟩ : ∃ r, s.drop (k + 1) = r := ⟨_, rfl⟩
          have HDK := Lib.hid (show s.drop k = 62 :: r by rw [HDZ.out, hr])
          have HPP := Lib.hid (HP1.out _ r (by rw [← HDK.out]; exact HC.out) HFR.out)
          have hex : (mkS s).extract (k + 1) n = mkS r := by rw [mkS_extract, ← HSL.out, List.take_length, hr]
          generalize (s.take k).drop 1 = acc at HI HPP hal hv
          subst hv
          have hcv := conv_own HI.out.row
          have HAT := Lib.hid (fun w => ratoms_x acc w (by omega))
          clear hZ hr
          cases hq : atoms acc
          · rw [hq] at HAT
            have HPV := Lib.hid (show parseV s = none2 by rw [HPP.out, hq]; rfl)
            clear hq
            go_wp2_with fail
            refine (HAT.out _).mono ?_
            rintro e w2 ⟨rfl, hb⟩
            have H2 := Lib.hid (HI.out.next hb)
            clear hb hcv
            obtain ⟨d0, d1, f0, f1⟩ := H2.out.res
            go_wp2_with fail
            refine bodyPost_ret (v := .tuple #[.agg #[.string { data := #[] }, .string { data := #[] }], .string { data := #[] }, .int .i64 2]) (by simp [results, Try.results12, go_sem, d0, d1]) rfl ?_
            first | exact pa_no (HPV.out) (H2.out.set _ _) | exact pa_no (HPV.out) H2.out.below
          · rw [hq] at HAT
            have HLW := Lib.hid (fun w => lowpm_x acc w (by omega))
            have hTL := mkS_toList (smallL acc)
            have hpm : (smallL acc == [112, 111, 115, 116, 109, 97, 115, 116, 101, 114]) = (smallL acc == pmL) := rfl
            have hpv : parseV s = if smallL acc == pmL then ((pmL, []), r, 0) else none2 := by rw [HPP.out, hq]; rfl
            generalize hsa : (smallL acc == pmL) = qp at hpm hpv
            have HPV0 := Lib.hid hpv
            clear hq hpv
            go_wp2_with fail
            refine (HAT.out _).mono ?_
            rintro e w2 ⟨rfl, hb⟩
            have H2 := Lib.hid (HI.out.next hb)
            clear hb hcv
            have hcv := conv_own H2.out.row
            go_wp2_with fail
            refine (HLW.out _).mono ?_
            rintro e w3 ⟨rfl, hb⟩
            have H3 := Lib.hid (H2.out.next hb)
            clear hb hcv
            obtain ⟨d0, d1, f0, f1⟩ := H3.out.res
            cases qp
            · have HPV := Lib.hid (show parseV s = none2 by rw [HPV0.out]; rfl)
              go_wp2_with fail
              refine bodyPost_ret (v := .tuple #[.agg #[.string { data := #[] }, .string { data := #[] }], .string { data := #[] }, .int .i64 2]) (by simp [results, Try.results12, go_sem, d0, d1]) rfl ?_
              first | exact pa_no (HPV.out) (H3.out.set _ _) | exact pa_no (HPV.out) H3.out.below
            · have HPV := Lib.hid (show parseV s = ((pmL, []), r, 0) by rw [HPV0.out]; rfl)
              have e1 : IntKind.i64.wrap ((k : Int) + 1) = (k : Int) + 1 := IntWalk.i64_in _ (by omega)
              have e3 : ((k : Int) + 1).toNat = k + 1 := by omega
              have b1 : (0 : Int) ≤ (k : Int) + 1 := by omega
              have b2 : (k : Int) + 1 ≤ (n : Int) := by omega
              go_wp2_with fail
              go_region
              have HF := Lib.hid (H3.out.drew.set (.string (mkS pmL)) (.string (mkS [])))
              clear e1 e3 b1 b2
              go_wp2_with fail
              refine bodyPost_ret (v := .tuple #[.agg #[.string { data := #[112, 111, 115, 116, 109, 97, 115, 116, 101, 114] }, .string { data := #[] }], .string (mkS r), .int .i64 0]) (by simp [results, Try.results12, go_sem, d0, d1]) rfl ?_
              exact pa_yes (p := (pmL, [])) HPV.out HF.out
        · obtain ⟨HN1, HN2⟩ := free_take hk1 hZ HFR.out h4 h6
          have HNF := Lib.hid HN1
          have HNE := Lib.hid HN2
          have e4 : ((z.toNat : Int) != 64) = true := by rw [byte_bne z 64 (by decide) 64 rfl]; exact bne_iff_ne.2 h4
          have e6 : ((z.toNat : Int) != 62) = true := by rw [byte_bne z 62 (by decide) 62 rfl]; exact bne_iff_ne.2 h6
          generalize (s.take k).drop 1 = acc at HI HNE hal hv
          subst hv
          clear hZ HN1 HN2 h4 h6
          go_wp2_with (at_builtin; refine app_bytes rfl (.tmp 95) (.tmp 99) rfl (w.heap.size + 1) (.slice A acc.length c) acc rfl (HI.out.row.alloc _) ⟨wr.heap.size, 0, none⟩ 1 1 [z] rfl rfl ?a1 ?a2 ?a3 ?_)
          case a1 => exact cells_new wr [z] _ rfl _ rfl
          case a2 => omega
          case a3 => have := HI.out.size; simp; omega
          intro v1 w3 hown hg
          have HN := Lib.hid (HI.out.more (m := [z]) (by first | exact hown | (rw [List.length_append]; exact hown)) hg)
          clear hown hg
          go_wp2_with fail
          go_roundw
          case rel => exact ⟨k + 1, by omega, by omega, by go_num, by rw [HNE.out]; exact HN, HNF⟩
          case measure => simp [intOf]; omega
    · obtain rfl : k = n := by omega
      have HPV := Lib.hid (show parseV s = none2 from HP0.out (by
        have h1 := HC.out
        have hd : s.drop k = [] := List.drop_eq_nil_of_le (by rw [HSL.out]; exact Nat.le_refl _)
        rw [hd, List.append_nil] at h1
        rw [h1]; exact HFR.out))
      obtain ⟨d0, d1, f0, f1⟩ := HI.out.res
      go_wp2_with fail
      refine bodyPost_ret (v := .tuple #[.agg #[.string { data := #[] }, .string { data := #[] }], .string { data := #[] }, .int .i64 2]) (by simp [results, Try.results12, go_sem, d0, d1]) rfl ?_
      first | exact pa_no (HPV.out) (HI.out.set _ _) | exact pa_no (HPV.out) HI.out.below
set_option maxRecDepth 100000 in
set_option maxHeartbeats 16000000 in
theorem rparse_q (u : List UInt8) (w : World) (hu : u.length ≤ 100000) : Calls Try.prog 12 #[.string (mkS (60 :: 34 :: u))] w (PaPost (60 :: 34 :: u) w) := by
  obtain ⟨s, hs⟩ : ∃ s, 60 :: 34 :: u = s := ⟨_, rfl⟩
  obtain ⟨n, hn⟩ : ∃ n, s.length = n := ⟨_, rfl⟩
  have HSL := Lib.hid hn
  have hn2 : u.length + 2 = n := by rw [← hn, ← hs]; rfl
  have hms : (mkS s).size = n := (mkS_size s).trans hn
  have hx0 : (mkS s)[0]'(by omega) = 60 := mkS_get (by omega) (by rw [← hs]; rfl)
  have hx1 : (mkS s)[1]'(by omega) = 34 := mkS_get (by omega) (by rw [← hs]; rfl)
  have d : decide ((n : Int) < 2) = false := decide_eq_false (by omega)
  have HP0 := Lib.hid (fun (h : unqL u false [] = none) => show parseV s = none2 by rw [← hs]; exact parse_q0 h)
  have HP1 := Lib.hid (fun r (h : unqL u false [] = some ([], r)) => show parseV s = none2 by rw [← hs]; exact parse_q1 h)
  have HP2 := Lib.hid (fun a r (h : unqL u false [] = some (a, r)) (hr : r.head? ≠ some 64) => show parseV s = none2 by rw [← hs]; exact parse_q2 h hr)
  have HP3 := Lib.hid (fun a b (h : unqL u false [] = some (a, 64 :: b)) (ha : a ≠ []) => show parseV s = endV a b true by rw [← hs]; exact parse_q3 h ha)
  have HI0 := Lib.hid (qi_new w)
  have HT0 := Lib.hid (show s.drop 2 = u by rw [← hs]; rfl)
  rw [hs]
  clear hs hn
  go_enter Try.func12, Try.ntmps12
  go_wp2_with fail
  go_loopw [5, 6] (fun v i wr => ∃ (k : Nat) (acc : List UInt8), 2 ≤ k ∧ k ≤ n ∧ i = .int .i64 k ∧ Hid (QI w ([], []) acc v wr) ∧ Hid (unqL u false [] = unqL (s.drop k) false acc ∧ acc.length ≤ k)) (fun _ i _ => n - (intOf i).toNat)
  case atStart => exact ⟨2, [], Nat.le_refl _, by omega, rfl, HI0, by rw [HT0.out], by simp⟩
  case round =>
    obtain ⟨k, acc, hk2, hk, rfl, HI, HUQ⟩ := hrel
    have hal : acc.length ≤ 200000 := by have := HUQ.out.2; omega
    obtain ⟨A, c, hv⟩ := own_slice HI.out.row
    by_cases hlt : k < n
    · obtain ⟨z, hz⟩ : ∃ z : UInt8, (mkS s)[k]'(by omega) = z := ⟨_, rfl⟩
      have hZ : s[k]? = some z := by rw [← hz]; have := Lib.data_getElem? (mkS s) k (by omega); rwa [mkS_data] at this
      have HDZ := Lib.hid (drop_at hZ)
      have hz256 := z.toNat_lt
      clear hZ
      by_cases h4 : z = 34
      · subst h4
        have hun : unqL u false [] = some (acc, s.drop (k + 1)) := by rw [HUQ.out.1, HDZ.out, unq_end34]
        by_cases ha : acc = []
        · have HPV := Lib.hid (show parseV s = none2 from HP1.out (s.drop (k + 1)) (by rw [hun, ha]))
          have e1 : ((acc.length : Int) == 0) = true := by rw [ha]; rfl
          subst hv
          clear hun ha
          obtain ⟨d0, d1, f0, f1⟩ := HI.out.res
          go_wp2_with fail
          refine bodyPost_ret (v := .tuple #[.agg #[.string { data := #[] }, .string { data := #[] }], .string { data := #[] }, .int .i64 2]) (by simp [results, Try.results12, go_sem, d0, d1]) rfl ?_
          first | exact pa_no (HPV.out) (HI.out.set _ _) | exact pa_no (HPV.out) HI.out.below
        · have e1 : ((acc.length : Int) == 0) = false := beq_eq_false_iff_ne.2 (by
            cases acc with
            | nil => exact absurd rfl ha
            | cons _ _ => simp; omega)
          have HUN := Lib.hid hun
          have HAN := Lib.hid ha
          obtain ⟨K, hK⟩ : ∃ K, k + 1 = K := ⟨_, rfl⟩
          have hKI : (k : Int) + 1 = (K : Int) := by omega
          rw [hK] at HUN
          have hKn : K ≤ n := by omega
          subst hv
          clear hun ha HDZ
          go_wp2_with fail
          clear hKI hK
          by_cases hr : (s.drop K).head? = some 64
          · obtain ⟨b, hb⟩ : ∃ b, s.drop K = 64 :: b := by
              cases hd : s.drop K with
              | nil => rw [hd] at hr; simp at hr
              | cons y l => rw [hd] at hr; simp at hr; exact ⟨l, by rw [hr]⟩
            have HDK := Lib.hid hb
            have HPAR := Lib.hid (show parseV s = endV acc b true from HP3.out acc b (by rw [HUN.out, hb]) HAN.out)
            have hKlt : K < n := by
              rcases Nat.lt_or_ge K n with h | h
              · exact h
              · rw [List.drop_eq_nil_of_le (by rw [HSL.out]; exact h)] at hb; cases hb
            have hxK : (mkS s)[K]'(by omega) = 64 := mkS_get (by omega) (by
              have : (s.drop K)[0]? = some 64 := by rw [hb]; rfl
              rwa [List.getElem?_drop, Nat.add_zero] at this)
            clear hr hb
            have HU := Lib.hid (unt_b HDK.out)
            have HUW := Lib.hid (fun w => until62 s K w (by rw [HSL.out]; omega) (by rw [HSL.out]; omega) (K : Int) rfl)
            cases h62 : hasC 62 b
            · have hu : untV s K 62 = -1 := by rw [HU.out, h62]; rfl
              rw [hu] at HUW
              have HPV := Lib.hid (show parseV s = none2 by rw [HPAR.out, endV_true, h62]; rfl)
              clear h62 hu
              refine (HUW.out _).mono ?_
              rintro e w2 ⟨rfl, rfl⟩
              obtain ⟨d0, d1, f0, f1⟩ := HI.out.res
              go_wp2_with fail
              refine bodyPost_ret (v := .tuple #[.agg #[.string { data := #[] }, .string { data := #[] }], .string { data := #[] }, .int .i64 2]) (by simp [results, Try.results12, go_sem, d0, d1]) rfl ?_
              first | exact pa_no (HPV.out) (HI.out.set _ _) | exact pa_no (HPV.out) HI.out.below
            · obtain ⟨hE1, hE2, hE3⟩ := pieces HDK.out h62
              have hu : untV s K 62 = ((K + 1 + (preC 62 b).length : Nat) : Int) := by rw [HU.out, h62]; rfl
              obtain ⟨E, hE⟩ : ∃ E, K + 1 + (preC 62 b).length = E := ⟨_, rfl⟩
              rw [hE] at hE1 hE2 hE3 hu
              rw [hu] at HUW
              have hexd : (mkS s).extract (K + 1) E = mkS (preC 62 b) := by rw [mkS_extract, hE2]
              have hexr : (mkS s).extract (E + 1) n = mkS (postC 62 b) := by rw [mkS_extract, ← HSL.out, List.take_length, hE3]
              have HPV0 := Lib.hid (show parseV s = if labels (preC 62 b) then (if longB (acc, smallL (preC 62 b)) then (([], []), [], 3) else ((acc, smallL (preC 62 b)), postC 62 b, 0)) else none2 by rw [HPAR.out, endV_true, h62]; rfl)
              rw [HSL.out] at hE1
              have HLB := Lib.hid (fun w => rlabels_x (preC 62 b) w (by omega))
              have HLO := Lib.hid (fun w => lower_x (preC 62 b) w (by omega))
              have hlg : longB (acc, smallL (preC 62 b)) = (decide (64 < acc.length) || decide (255 < E - K - 1)) := by
                simp only [longB, smallL_length]
                rw [show E - K - 1 = (preC 62 b).length by omega]
              rw [hlg] at HPV0
              have dE0 : decide ((E : Int) < 0) = false := decide_eq_false (by omega)
              have dEl : decide ((255 : Int) < (E : Int) - (K : Int) - 1) = decide (255 < E - K - 1) := by
                by_cases h : 255 < E - K - 1
                · rw [decide_eq_true h]; exact decide_eq_true (by omega)
                · rw [decide_eq_false h]; exact decide_eq_false (by omega)
              have dAl : decide ((64 : Int) < (acc.length : Int)) = decide (64 < acc.length) := by
                by_cases h : 64 < acc.length
                · rw [decide_eq_true h]; exact decide_eq_true (by omega)
                · rw [decide_eq_false h]; exact decide_eq_false (by omega)
              have b1 : (0 : Int) ≤ (K : Int) + 1 := by omega
              have b2 : (K : Int) + 1 ≤ (E : Int) := by omega
              have b3 : (E : Int) ≤ (n : Int) := by omega
              have b4 : (E : Int) + 1 ≤ (n : Int) := by omega
              have b5 : (0 : Int) ≤ (E : Int) + 1 := by omega
              generalize preC 62 b = dom at HLB HLO HPV0 hexd hE hlg
              generalize postC 62 b = rest at HPV0 hexr
              generalize labels dom = q3 at HLB HPV0
              generalize hsd : smallL dom = sd at HLO HPV0
              generalize decide (64 < acc.length) = q4 at dAl HPV0
              generalize decide (255 < E - K - 1) = q5 at dEl HPV0
              clear h62 hu hE hE2 hE3 hlg hsd
              cases q3
              · have HPV := Lib.hid (show parseV s = none2 by rw [HPV0.out]; rfl)
                refine (HUW.out _).mono ?_
                rintro e w2 ⟨rfl, rfl⟩
                go_wp2_with fail
                refine (HLB.out _).mono ?_
                rintro e w3 ⟨rfl, hb⟩
                have H3 := Lib.hid (HI.out.next hb)
                clear hb
                obtain ⟨d0, d1, f0, f1⟩ := H3.out.res
                go_wp2_with fail
                refine bodyPost_ret (v := .tuple #[.agg #[.string { data := #[] }, .string { data := #[] }], .string { data := #[] }, .int .i64 2]) (by simp [results, Try.results12, go_sem, d0, d1]) rfl ?_
                first | exact pa_no (HPV.out) (H3.out.set _ _) | exact pa_no (HPV.out) H3.out.below
              · cases q4 <;> cases q5
                · have HPV := Lib.hid (show parseV s = ((acc, sd), rest, 0) by rw [HPV0.out]; rfl)
                  refine (HUW.out _).mono ?_
                  rintro e w2 ⟨rfl, rfl⟩
                  go_wp2_with fail
                  refine (HLB.out _).mono ?_
                  rintro e w3 ⟨rfl, hb⟩
                  have H3 := Lib.hid (HI.out.next hb)
                  clear hb
                  obtain ⟨d0, d1, f0, f1⟩ := H3.out.res
                  go_wp2_with fail
                  have e1 : IntKind.i64.wrap ((K : Int) + 1) = (K : Int) + 1 := IntWalk.i64_in _ (by omega)
                  have e2 : IntKind.i64.wrap ((E : Int) + 1) = (E : Int) + 1 := IntWalk.i64_in _ (by omega)
                  have e3 : ((K : Int) + 1).toNat = K + 1 := by omega
                  have e4 : ((E : Int) + 1).toNat = E + 1 := by omega
                  have e5 : (E : Int).toNat = E := by omega
                  first | (go_region_held3 (fun wr => (convert 42 9 (.slice A acc.length c)).run Try.prog wr = .ok (.string (mkS acc)) wr)
                    (first | exact conv_own H3.out.drew.row | exact conv_own H3.out.row | exact conv_own (Hid.out (by assumption : Hid (QI w ([], []) acc (.slice A acc.length c) _))).row | exact conv_own (QI.setRow (Hid.out (by assumption : Hid (QI w ([], []) acc (.slice A acc.length c) _))) _ _))
                    (first
                      | (go_at_call 32; (with_reducible refine (HLO.out _).mono ?_); rintro e w4 ⟨rfl, hb4⟩; have g0 := Lib.hid (H3.out.drew.next hb4); obtain ⟨g1, g2, g3, g4⟩ := g0.out.res)))
                  all_goals
                    have HF := Lib.hid (g0.out.set (.string (mkS acc)) (.string (mkS sd)))
                    clear e1 e2 e3 e4 e5 b1 b2 b3 b4 b5 hb4 d0 d1 f0 f1
                    go_wp2_with fail
                    refine bodyPost_ret (v := .tuple #[.agg #[.string (mkS acc), .string (mkS sd)], .string (mkS rest), .int .i64 0]) (by simp [results, Try.results12, go_sem, g1, g2]) rfl ?_
                    exact pa_yes (p := (acc, sd)) HPV.out HF.out
                all_goals
                  have HPV := Lib.hid (show parseV s = (([], []), [], 3) by rw [HPV0.out]; rfl)
                  refine (HUW.out _).mono ?_
                  rintro e w2 ⟨rfl, rfl⟩
                  go_wp2_with fail
                  refine (HLB.out _).mono ?_
                  rintro e w3 ⟨rfl, hb⟩
                  have H3 := Lib.hid (HI.out.next hb)
                  clear hb
                  obtain ⟨d0, d1, f0, f1⟩ := H3.out.res
                  go_wp2_with fail
                  refine bodyPost_ret (v := .tuple #[.agg #[.string { data := #[] }, .string { data := #[] }], .string { data := #[] }, .int .i64 3]) (by simp [results, Try.results12, go_sem, d0, d1]) rfl ?_
                  first | exact pa_no (HPV.out) (H3.out.set _ _) | exact pa_no (HPV.out) H3.out.below
          · have HPV := Lib.hid (show parseV s = none2 from HP2.out acc (s.drop K) HUN.out hr)
            have HUW := Lib.hid (fun w => until62 s K w (by rw [HSL.out]; omega) (by rw [HSL.out]; omega) (K : Int) rfl)
            by_cases hKlt : K < n
            · obtain ⟨y, hy⟩ : ∃ y : UInt8, (mkS s)[K]'(by omega) = y := ⟨_, rfl⟩
              have hY : s[K]? = some y := by rw [← hy]; have := Lib.data_getElem? (mkS s) K (by omega); rwa [mkS_data] at this
              have hy64 : ((y.toNat : Int) != 64) = true := by
                rw [byte_bne y 64 (by decide) 64 rfl]
                refine bne_iff_ne.2 fun e => hr ?_
                rw [drop_at hY, e]; rfl
              generalize untV s K 62 = ev at HUW
              clear hr hY
              by_cases hev : ev < 0
              · have e2 : decide (ev < 0) = true := decide_eq_true hev
                refine (HUW.out _).mono ?_
                rintro e w2 ⟨rfl, rfl⟩
                obtain ⟨d0, d1, f0, f1⟩ := HI.out.res
                go_wp2_with fail
                refine bodyPost_ret (v := .tuple #[.agg #[.string { data := #[] }, .string { data := #[] }], .string { data := #[] }, .int .i64 2]) (by simp [results, Try.results12, go_sem, d0, d1]) rfl ?_
                first | exact pa_no (HPV.out) (HI.out.set _ _) | exact pa_no (HPV.out) HI.out.below
              · have e2 : decide (ev < 0) = false := decide_eq_false hev
                refine (HUW.out _).mono ?_
                rintro e w2 ⟨rfl, rfl⟩
                obtain ⟨d0, d1, f0, f1⟩ := HI.out.res
                go_wp2_with fail
                refine bodyPost_ret (v := .tuple #[.agg #[.string { data := #[] }, .string { data := #[] }], .string { data := #[] }, .int .i64 2]) (by simp [results, Try.results12, go_sem, d0, d1]) rfl ?_
                first | exact pa_no (HPV.out) (HI.out.set _ _) | exact pa_no (HPV.out) HI.out.below
            · have hev : untV s K 62 = -1 := unt_end (by rw [HSL.out]; omega)
              rw [hev] at HUW
              clear hev hr
              refine (HUW.out _).mono ?_
              rintro e w2 ⟨rfl, rfl⟩
              obtain ⟨d0, d1, f0, f1⟩ := HI.out.res
              go_wp2_with fail
              refine bodyPost_ret (v := .tuple #[.agg #[.string { data := #[] }, .string { data := #[] }], .string { data := #[] }, .int .i64 2]) (by simp [results, Try.results12, go_sem, d0, d1]) rfl ?_
              first | exact pa_no (HPV.out) (HI.out.set _ _) | exact pa_no (HPV.out) HI.out.below
      · have e4 : ((z.toNat : Int) != 34) = true := by rw [byte_bne z 34 (by decide) 34 rfl]; exact bne_iff_ne.2 h4
        by_cases h9 : z = 92
        · subst h9
          by_cases hlt2 : k + 1 < n
          · obtain ⟨y, hy⟩ : ∃ y : UInt8, (mkS s)[k + 1]'(by omega) = y := ⟨_, rfl⟩
            have hY : s[k + 1]? = some y := by rw [← hy]; have := Lib.data_getElem? (mkS s) (k + 1) (by omega); rwa [mkS_data] at this
            have hy256 := y.toNat_lt
            have HUB := Lib.hid (show unqL u false [] = if printB y then unqL (s.drop (k + 1 + 1)) false (acc ++ [y]) else none by rw [HUQ.out.1, HDZ.out, drop_at hY, unq_back])
            have HPY := Lib.hid (show printB y = (decide (32 ≤ y.toNat) && decide (y.toNat ≤ 126)) from rfl)
            have e7 : decide ((n : Int) ≤ (k : Int) + 1) = false := decide_eq_false (by omega)
            subst hv
            clear hY h4
            by_cases h3 : y.toNat < 32
            · have e5 : decide ((y.toNat : Int) < 32) = true := decide_eq_true (by omega)
              have HPV := Lib.hid (HP0.out (by rw [HUB.out, HPY.out, decide_eq_false (by omega)]; rfl))
              obtain ⟨d0, d1, f0, f1⟩ := HI.out.res
              go_wp2_with fail
              refine bodyPost_ret (v := .tuple #[.agg #[.string { data := #[] }, .string { data := #[] }], .string { data := #[] }, .int .i64 2]) (by simp [results, Try.results12, go_sem, d0, d1]) rfl ?_
              first | exact pa_no (HPV.out) (HI.out.set _ _) | exact pa_no (HPV.out) HI.out.below
            · have e5 : decide ((y.toNat : Int) < 32) = false := decide_eq_false (by omega)
              by_cases h12 : 126 < y.toNat
              · have e6 : decide ((126 : Int) < (y.toNat : Int)) = true := decide_eq_true (by omega)
                have HPV := Lib.hid (HP0.out (by rw [HUB.out, HPY.out, decide_eq_false (show ¬ y.toNat ≤ 126 by omega), Bool.and_false]; rfl))
                obtain ⟨d0, d1, f0, f1⟩ := HI.out.res
                go_wp2_with fail
                refine bodyPost_ret (v := .tuple #[.agg #[.string { data := #[] }, .string { data := #[] }], .string { data := #[] }, .int .i64 2]) (by simp [results, Try.results12, go_sem, d0, d1]) rfl ?_
                first | exact pa_no (HPV.out) (HI.out.set _ _) | exact pa_no (HPV.out) HI.out.below
              · have e6 : decide ((126 : Int) < (y.toNat : Int)) = false := decide_eq_false (by omega)
                have HNU := Lib.hid (show unqL u false [] = unqL (s.drop (k + 1 + 1)) false (acc ++ [y]) by rw [HUB.out, HPY.out, decide_eq_true (by omega), decide_eq_true (by omega)]; rfl)
                go_wp2_with (at_builtin; refine app_bytes rfl (.tmp 59) (.tmp 63) rfl (w.heap.size + 1) (.slice A acc.length c) acc rfl (HI.out.row.alloc _) ⟨wr.heap.size, 0, none⟩ 1 1 [y] rfl rfl ?a1 ?a2 ?a3 ?_)
                case a1 => exact cells_new wr [y] _ rfl _ rfl
                case a2 => omega
                case a3 => have := HI.out.size; simp; omega
                intro v1 w3 hown hg
                have HN := Lib.hid (HI.out.more (m := [y]) (by first | exact hown | (rw [List.length_append]; exact hown)) hg)
                clear hown hg
                go_wp2_with fail
                go_roundw
                case rel => exact ⟨k + 1 + 1, _, by omega, by omega, by go_num, HN, HNU.out, by rw [List.length_append]; have := HUQ.out.2; simp; omega⟩
                case measure => simp [intOf]; omega
          · have e7 : decide ((n : Int) ≤ (k : Int) + 1) = true := decide_eq_true (by omega)
            have HPV := Lib.hid (HP0.out (by rw [HUQ.out.1, HDZ.out, List.drop_eq_nil_of_le (by rw [HSL.out]; omega), unq_lone]))
            clear h4
            obtain ⟨d0, d1, f0, f1⟩ := HI.out.res
            go_wp2_with fail
            refine bodyPost_ret (v := .tuple #[.agg #[.string { data := #[] }, .string { data := #[] }], .string { data := #[] }, .int .i64 2]) (by simp [results, Try.results12, go_sem, d0, d1]) rfl ?_
            first | exact pa_no (HPV.out) (HI.out.set _ _) | exact pa_no (HPV.out) HI.out.below
        · have e9 : ((z.toNat : Int) == 92) = false := by rw [byte_beq z 92 (by decide) 92 rfl]; exact beq_eq_false_iff_ne.2 h9
          have e7 : decide ((n : Int) ≤ (k : Int)) = false := decide_eq_false (by omega)
          have HPZ := Lib.hid (show printB z = (decide (32 ≤ z.toNat) && decide (z.toNat ≤ 126)) from rfl)
          have H49 := Lib.hid (And.intro h4 h9)
          subst hv
          clear h4 h9
          by_cases h3 : z.toNat < 32
          · have e5 : decide ((z.toNat : Int) < 32) = true := decide_eq_true (by omega)
            have HPV := Lib.hid (HP0.out (by rw [HUQ.out.1, HDZ.out, unq_stop (by rw [HPZ.out, decide_eq_false (by omega)]; rfl)]))
            obtain ⟨d0, d1, f0, f1⟩ := HI.out.res
            go_wp2_with fail
            refine bodyPost_ret (v := .tuple #[.agg #[.string { data := #[] }, .string { data := #[] }], .string { data := #[] }, .int .i64 2]) (by simp [results, Try.results12, go_sem, d0, d1]) rfl ?_
            first | exact pa_no (HPV.out) (HI.out.set _ _) | exact pa_no (HPV.out) HI.out.below
          · have e5 : decide ((z.toNat : Int) < 32) = false := decide_eq_false (by omega)
            by_cases h12 : 126 < z.toNat
            · have e6 : decide ((126 : Int) < (z.toNat : Int)) = true := decide_eq_true (by omega)
              have HPV := Lib.hid (HP0.out (by rw [HUQ.out.1, HDZ.out, unq_stop (by rw [HPZ.out, decide_eq_false (show ¬ z.toNat ≤ 126 by omega), Bool.and_false])]))
              obtain ⟨d0, d1, f0, f1⟩ := HI.out.res
              go_wp2_with fail
              refine bodyPost_ret (v := .tuple #[.agg #[.string { data := #[] }, .string { data := #[] }], .string { data := #[] }, .int .i64 2]) (by simp [results, Try.results12, go_sem, d0, d1]) rfl ?_
              first | exact pa_no (HPV.out) (HI.out.set _ _) | exact pa_no (HPV.out) HI.out.below
            · have e6 : decide ((126 : Int) < (z.toNat : Int)) = false := decide_eq_false (by omega)
              have HNU := Lib.hid (show unqL u false [] = unqL (s.drop (k + 1)) false (acc ++ [z]) by rw [HUQ.out.1, HDZ.out, unq_more (by rw [HPZ.out, decide_eq_true (by omega), decide_eq_true (by omega)]; rfl) H49.out.1 H49.out.2])
              go_wp2_with (at_builtin; refine app_bytes rfl (.tmp 59) (.tmp 63) rfl (w.heap.size + 1) (.slice A acc.length c) acc rfl (HI.out.row.alloc _) ⟨wr.heap.size, 0, none⟩ 1 1 [z] rfl rfl ?b1 ?b2 ?b3 ?_)
              case b1 => exact cells_new wr [z] _ rfl _ rfl
              case b2 => omega
              case b3 => have := HI.out.size; simp; omega
              intro v1 w3 hown hg
              have HN := Lib.hid (HI.out.more (m := [z]) (by first | exact hown | (rw [List.length_append]; exact hown)) hg)
              clear hown hg
              go_wp2_with fail
              go_roundw
              case rel => exact ⟨k + 1, _, by omega, by omega, by go_num, HN, HNU.out, by rw [List.length_append]; have := HUQ.out.2; simp; omega⟩
              case measure => simp [intOf]; omega
    · obtain rfl : k = n := by omega
      have HPV := Lib.hid (HP0.out (by rw [HUQ.out.1, List.drop_eq_nil_of_le (by rw [HSL.out]; exact Nat.le_refl _)]; rfl))
      obtain ⟨d0, d1, f0, f1⟩ := HI.out.res
      go_wp2_with fail
      refine bodyPost_ret (v := .tuple #[.agg #[.string { data := #[] }, .string { data := #[] }], .string { data := #[] }, .int .i64 2]) (by simp [results, Try.results12, go_sem, d0, d1]) rfl ?_
      first | exact pa_no (HPV.out) (HI.out.set _ _) | exact pa_no (HPV.out) HI.out.below
theorem rparse_x (s : List UInt8) (w : World) (hs : s.length ≤ 100000) : Calls Try.prog 12 #[.string (mkS s)] w (PaPost s w) := by
  match s, hs with
  | [], _ => exact rparse_short [] w (by decide)
  | [b], _ => exact rparse_short [b] w (by simp)
  | a :: x :: t, hs =>
    have ht : t.length ≤ 100000 := by simp at hs; omega
    by_cases h0 : a = 60
    · subst h0
      by_cases h1 : x = 62
      · subst h1; exact rparse_null t w ht
      · by_cases h2 : x = 34
        · subst h2; exact rparse_q t w ht
        · exact rparse_d x t w ht h2 h1
    · exact rparse_head a (x :: t) w (by simp) h0
end Go.Proofs.Ytamjoleknjmpoaa
