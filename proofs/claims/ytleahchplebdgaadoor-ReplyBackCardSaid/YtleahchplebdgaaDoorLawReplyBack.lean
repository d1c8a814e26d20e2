/-
  The walk of the law ReplyBack.
-/
import Derived.Test.YtleahchplebdgaaDoorRpApp
namespace Go.Proofs.YtleahchplebdgaaDoor
set_option maxRecDepth 100000
open Go.RowKit
set_option maxHeartbeats 8000000 in
theorem replyBack_x (r : Rp) (behind : List Txt) (sv bv : Value) (w : World) (hR : Ready w) (hRI : RI r.code r.e) (hT : TxtsAt w sv r.text) (hB : TxtsAt w bv behind) :
    Calls Tryd.prog 5 #[RV r.code r.e sv, bv] w fun x w' => x = .returned (.bool true) ∧ Below w.heap.size w w' := by
  have HAw := Lib.hid (fun w hR => awake_x w hR)
  have hRI := Lib.hid hRI
  have HT := Lib.hid (fun (w' : World) (hb : Below w.heap.size w w') => hT.below hb)
  have HBv := Lib.hid (fun (w' : World) (hb : Below w.heap.size w w') => hB.below hb)
  have HX0 := Lib.hid (RX.new r.code r.e sv hR)
  have hTT := Lib.hid hT
  obtain ⟨a, cap, rfl, hcc⟩ := id hT
  obtain ⟨a2, cap2, rfl, -⟩ := id hB
  have HCC := Lib.hid hcc.2.2
  have he : ∀ w, (Op.equalIn 10000 23 (.agg #[.int .i64 r.e.1, .int .i64 r.e.2.1, .int .i64 r.e.2.2]) (.agg #[.int .i64 0, .int .i64 0, .int .i64 0])).run Tryd.prog w = .ok (r.e == rpE0) w := fun w => eqE3 r.e rpE0 w
  clear hR hT hB hcc
  go_enter Tryd.func5, Tryd.ntmps5
  go_wp2_with fail
  refine (HAw.out _ HX0.out.ready).mono ?_
  rintro x w1 ⟨rfl, hb1⟩
  have HX := Lib.hid (HX0.out.next hb1)
  clear hb1
  have k0 := cellOf HX.out.box 0
  have k1 := cellOf HX.out.box 1
  have k2 := cellOf HX.out.box 2
  have k3 := cellOf HX.out.box 3
  have k4 := cellOf HX.out.box 4
  go_wp2_with fail
  refine (few_x _ _ _ (HT.out _ HX.out.below)).mono ?_
  rintro x w2 ⟨rfl, rfl⟩
  cases hf : fewL r.text
  · have HZ := Lib.hid HX.out.below
    go_wp2_with fail
    go_ret
    exact ⟨rfl, HZ.out⟩
  · have HF1 := Lib.hid (few_yes hf)
    clear hf
    go_wp2_with fail
    refine (few_x _ _ _ (HBv.out _ HX.out.below)).mono ?_
    rintro x w2 ⟨rfl, rfl⟩
    cases hf : fewL behind
    · have HZ := Lib.hid HX.out.below
      go_wp2_with fail
      go_ret
      exact ⟨rfl, HZ.out⟩
    · have HFew := Lib.hid (few_yes hf)
      have HNL := Lib.hid (show r.text.length ≤ 1000000000000000 ∧ ∀ t ∈ r.text, t.length ≤ 1000000000000000 from ⟨Nat.le_trans HF1.out.1 (by decide), fun t ht => Nat.le_trans (HF1.out.2 t ht) (by decide)⟩)
      clear hf
      cases hh : (r.e == rpE0)
      · have HNP := Lib.hid (show rpHas r.e = false → ∀ t ∈ r.text, ∀ b, t.head? = some b → digB b = false from fun h => by rw [rpHas, hh] at h; cases h)
        rw [hh] at he
        clear hh
        go_wp2_with fail
        refine (print_x r (.slice a r.text.length cap) hRI.out _ HX.out.ready (HT.out _ HX.out.below) HNL.out.1 HNL.out.2).mono ?_
        rintro x w4 ⟨lv, rfl, hL, hb4⟩
        have HX4 := Lib.hid (HX.out.next hb4)
        clear hb4 k0 k1 k2 k3 k4
        by_cases h0 : rpRight r = 0
        · have hok := right_ok.1 h0
          rw [rpPrintL, if_pos h0] at hL
          rw [h0]
          have HLL := Lib.hid (lines_len r hok.ne)
          have HM := Lib.hid hok.many
          have HNe := Lib.hid (show 0 < r.text.length from List.length_pos_iff.2 hok.ne)
          have HBack := Lib.hid (again_plain h0 HNP.out behind)
          have HShort := Lib.hid (parse_short hok)
          obtain ⟨A4, c4, rfl, hcL⟩ := id hL
          obtain ⟨y0, hy0⟩ : ∃ y0, (rpLines r)[0]? = some y0 := ⟨_, List.getElem?_eq_getElem (by rw [HLL.out]; exact HNe.out)⟩
          obtain ⟨ad4, rfl, -, -⟩ := hcL.2.2 0 y0 hy0
          clear hcL hy0
          have HL := Lib.hid hL
          have hll : (rpLines r).length = r.text.length := HLL.out
          rw [hll]
          rw [hll] at HL
          have HLZ := Lib.hid (show ∀ t ∈ rpLines r, t.length ≤ 1000 from fun t ht => by
            obtain ⟨a, u, h1, h2⟩ := lines_split hok.ne
            rw [h2] at ht
            rcases List.mem_append.1 ht with ht | ht
            · obtain ⟨y, hy, rfl⟩ := List.mem_map.1 ht
              have h5 := hok.len y (by rw [h1]; simp [hy])
              rw [List.length_append, headlen_eq]; omega
            · simp at ht
              subst ht
              have h5 := hok.len u (by rw [h1]; simp)
              rw [List.length_append]; omega)
          clear h0 hok hL hll
          obtain ⟨N, hN⟩ : ∃ N, r.text.length = N + 1 := ⟨r.text.length - 1, by have := HNe.out; omega⟩
          have HNN := Lib.hid hN
          have HBN := Lib.hid (show behind.length ≤ 60 from HFew.out.1)
          have hm32 : N ≤ 31 := by have := HM.out; omega
          rw [hN]
          rw [hN] at HL
          clear hN
          have hc4 : N + 1 ≤ c4 := by obtain ⟨_, _, h1, h2, _⟩ := HL.out; injection h1 with _ h3 h4; rw [h3, h4]; exact h2
          go_wp2_with (first | (at_builtin; refine app_new rfl (.tmp 78) (.tmp 79) rfl _ rfl (by simp) _ (rpLines r) rfl HL.out (by have := HLL.out; have := HM.out; omega) ?_; intro v5 w5 hown5 hb5; have HX5 := Lib.hid (HX4.out.next hb5); have HL5 := Lib.hid (HL.out.below hb5)) | (at_builtin; refine app_more rfl (.tmp 80) (.tmp 81) rfl v5 (rpLines r) rfl hown5 hb5.size hb5 (.slice a2 behind.length cap2) behind rfl ((HBv.out _ HX5.out.below)) (by have := HLL.out; have := HM.out; have := HBN.out; omega) ?_; intro v6 w6 hown6 hb6; have HX6 := Lib.hid (HX4.out.next hb6); have HL6 := Lib.hid (HL.out.below hb6)))
          refine (parse_x (rpLines r ++ behind) v6 w6 (own_txts hown6) (by have := HLL.out; have := HM.out; have := HBN.out; rw [List.length_append]; omega) (fun t ht => by
            rcases List.mem_append.1 ht with ht | ht
            · exact HLZ.out t ht
            · exact HFew.out.2 t ht)).mono ?_
          unfold ParsePost
          rw [HBack.out]
          rintro x w7 ⟨v7, rfl, hT7, hb7⟩
          obtain ⟨A7, c7, rfl, -⟩ := id hT7
          have hn7 : ((r.text.length : Nat) : Int) = (N : Int) + 1 := by have := HNN.out; omega
          have HK7 := Lib.hid (RBx.new (c := r.code) (e := r.e) hT7)
          have hq7 := below_next hb7 (below_box w7 (.cells #[.int .i64 r.code, .int .i64 r.e.1, .int .i64 r.e.2.1, .int .i64 r.e.2.2, .slice A7 r.text.length c7] 25))
          have HX7 := Lib.hid (HX6.out.next hq7)
          have HL7 := Lib.hid (HL6.out.below hq7)
          clear hT7 hb7 hq7 hown5 hb5 hown6 hb6 HX5 HL5 HX6 HL6
          have hw1 : IntKind.i64.wrap ((N : Int) + 1 - 1) = (N : Int) := IntWalk.i64_in _ (by omega) |>.trans (by omega)
          go_wp2_with (at_builtin; refine app_new rfl (.tmp 88) (.tmp 93) rfl _ rfl (by simp) _ ((rpLines r).take N) rfl (HL7.out.take (by have := HLL.out; have := HNN.out; omega)) (by rw [List.length_take]; omega) ?_; intro v8 w8 hown8 hb8)
          refine (parse_x ((rpLines r).take N) v8 w8 (own_txts hown8) (by rw [List.length_take]; omega) (fun t ht => HLZ.out t (List.mem_of_mem_take ht))).mono ?_
          unfold ParsePost
          rw [show (rpLines r).take N = (rpLines r).take (r.text.length - 1) by have := HNN.out; congr 1; omega, HShort.out]
          rintro x w9 ⟨v9, rfl, hT9, hb9⟩
          obtain ⟨A9, c9, rfl, -⟩ := id hT9
          have hq9 := below_next (below_next hb8 hb9) (below_box w9 (.cells #[.int .i64 rp0.code, .int .i64 rp0.e.1, .int .i64 rp0.e.2.1, .int .i64 rp0.e.2.2, .slice A9 rp0.text.length c9] 25))
          have HX9 := Lib.hid (HX7.out.next hq9)
          have HK9 := Lib.hid (HK7.out.next hq9)
          clear hT9 hb9 hq9 hown8 hb8 HX7 HK7
          have k0 := cellOf HX9.out.box 0
          have k1 := cellOf HX9.out.box 1
          have k2 := cellOf HX9.out.box 2
          have k3 := cellOf HX9.out.box 3
          have k4 := cellOf HX9.out.box 4
          have j0 := cellOf HK9.out.box 0
          have j1 := cellOf HK9.out.box 1
          have j2 := cellOf HK9.out.box 2
          have j3 := cellOf HK9.out.box 3
          have j4 := cellOf HK9.out.box 4
          go_wp2_with fail
          refine (psame_x r r _ _ _ HK9.out.txts (HT.out _ HX9.out.below) (by have := HNN.out; omega)).mono ?_
          rintro x w10 ⟨rfl, hb10⟩
          rw [show sameR r r = true by rw [sameR]; simp]
          have HZ := Lib.hid (HX9.out.next hb10).below
          clear hb10 k0 k1 k2 k3 k4 j0 j1 j2 j3 j4
          go_wp2_with fail
          go_ret
          exact ⟨rfl, HZ.out⟩
        · have d1 : (rpRight r != 0) = true := bne_iff_ne.2 h0
          rw [rpPrintL, if_neg h0] at hL
          obtain ⟨A4, c4, rfl, -⟩ := id hL
          have HRX := Lib.hid (right_x r (.slice a r.text.length cap) hRI.out w4 HX4.out.ready (HT.out _ HX4.out.below) HNL.out.1 HNL.out.2)
          generalize rpRight r = q at d1 HRX ⊢
          clear h0 hL
          have k0 := cellOf HX4.out.box 0
          have k1 := cellOf HX4.out.box 1
          have k2 := cellOf HX4.out.box 2
          have k3 := cellOf HX4.out.box 3
          have k4 := cellOf HX4.out.box 4
          go_wp2_with fail
          refine HRX.out.mono ?_
          rintro x w5 ⟨rfl, hb5⟩
          have HZ := Lib.hid (HX4.out.next hb5).below
          clear hb5 k0 k1 k2 k3 k4
          go_wp2_with fail
          go_ret
          exact ⟨by simp, HZ.out⟩
      · have HE0 := Lib.hid hh
        rw [hh] at he
        clear hh
        go_wp2_with fail
        clear k0 k1 k2 k3 k4
        go_loop [5] (fun i => ∃ k : Nat, k ≤ r.text.length ∧ i = .int .i64 k ∧ Hid (∀ t ∈ r.text.take k, ∀ b, t.head? = some b → digB b = false)) (fun i => r.text.length - (intOf i).toNat)
        case atStart => exact ⟨0, Nat.zero_le _, rfl, Lib.hid (by simp)⟩
        case round =>
          obtain ⟨k, hk, rfl, HJ⟩ := hrel
          have k4 := cellOf HX.out.box 4
          have hL60 : r.text.length ≤ 60 := HF1.out.1
          have hw0 : IntKind.i64.wrap ((k : Int) + 1) = (k : Int) + 1 := IntWalk.i64_in _ (by omega)
          by_cases hlt : k < r.text.length
          · obtain ⟨u, hu⟩ : ∃ u, r.text[k]? = some u := ⟨_, List.getElem?_eq_getElem hlt⟩
            obtain ⟨ad, rfl, hab, hcw⟩ := HCC.out k u hu
            have hcl : w1.cell? (ad.add k) = some (.string (mkS u)) := (HX.out.below.cell (by rw [add_block]; exact hab)).trans hcw
            have hms := mkS_size u
            have HMore := Lib.hid (fun (hb : ∀ b, u.head? = some b → digB b = false) => show ∀ t ∈ r.text.take (k + 1), ∀ b, t.head? = some b → digB b = false from fun t ht => by
              obtain ⟨i, hi⟩ := List.getElem?_of_mem ht
              rw [List.getElem?_take] at hi
              split at hi
              · by_cases e : i = k
                · subst e
                  rw [hu] at hi
                  injection hi with hi
                  rw [← hi]; exact hb
                · exact HJ.out t (List.mem_of_getElem? (i := i) (by rw [List.getElem?_take, if_pos (by omega), hi]))
              · cases hi)
            have HZ := Lib.hid HX.out.below
            clear hu hab hcw
            by_cases hu0 : u = []
            · have d0 : decide ((0 : Int) < (u.length : Int)) = false := decide_eq_false (by rw [hu0]; simp)
              have HM1 := Lib.hid (HMore.out (fun b hb => by rw [hu0] at hb; cases hb))
              have d0' : decide (0 < u.length) = false := decide_eq_false (by rw [hu0]; simp)
              clear hu0
              go_wp2_with fail
              go_round
              case rel => exact ⟨k + 1, by omega, by go_num, HM1⟩
              case measure => simp [intOf]; omega
            · have hul : 0 < u.length := List.length_pos_iff.2 hu0
              obtain ⟨b, hb⟩ : ∃ b, u[0]? = some b := ⟨_, List.getElem?_eq_getElem hul⟩
              have hb0 : (mkS u)[0]'(by rw [hms]; exact hul) = b := mkS_get (by rw [hms]; exact hul) hb
              have HB0 := Lib.hid (show ∀ x, u.head? = some x → x = b from fun x hx => by rw [List.head?_eq_getElem?, hb] at hx; injection hx with hx; exact hx.symm)
              clear hb hu0
              by_cases h48 : 48 ≤ b.toNat
              · have d1 : decide ((48 : Int) ≤ (b.toNat : Int)) = true := decide_eq_true (by omega)
                by_cases h57 : b.toNat ≤ 57
                · have d2 : decide ((b.toNat : Int) ≤ 57) = true := decide_eq_true (by omega)
                  go_wp2_with fail
                  go_ret
                  exact ⟨rfl, HZ.out⟩
                · have d2 : decide ((b.toNat : Int) ≤ 57) = false := decide_eq_false (by omega)
                  have HM1 := Lib.hid (HMore.out (fun x hx => by rw [HB0.out x hx, digB, decide_eq_false h57, Bool.and_false]))
                  clear h48 h57
                  go_wp2_with fail
                  go_round
                  case rel => exact ⟨k + 1, by omega, by go_num, HM1⟩
                  case measure => simp [intOf]; omega
              · have d1 : decide ((48 : Int) ≤ (b.toNat : Int)) = false := decide_eq_false (by omega)
                have HM1 := Lib.hid (HMore.out (fun x hx => by rw [HB0.out x hx, digB, decide_eq_false h48, Bool.false_and]))
                clear h48
                go_wp2_with fail
                go_round
                case rel => exact ⟨k + 1, by omega, by go_num, HM1⟩
                case measure => simp [intOf]; omega
          · have HNP := Lib.hid (show rpHas r.e = false → ∀ t ∈ r.text, ∀ b, t.head? = some b → digB b = false from fun _ => by
              have h := HJ.out
              rwa [List.take_of_length_le (by omega)] at h)
            clear k4
            have k0 := cellOf HX.out.box 0
            have k1 := cellOf HX.out.box 1
            have k2 := cellOf HX.out.box 2
            have k3 := cellOf HX.out.box 3
            have k4 := cellOf HX.out.box 4
            go_wp2_with fail
            refine (print_x r (.slice a r.text.length cap) hRI.out _ HX.out.ready (HT.out _ HX.out.below) HNL.out.1 HNL.out.2).mono ?_
            rintro x w4 ⟨lv, rfl, hL, hb4⟩
            have HX4 := Lib.hid (HX.out.next hb4)
            clear hb4 k0 k1 k2 k3 k4
            by_cases h0 : rpRight r = 0
            · have hok := right_ok.1 h0
              rw [rpPrintL, if_pos h0] at hL
              rw [h0]
              have HLL := Lib.hid (lines_len r hok.ne)
              have HM := Lib.hid hok.many
              have HNe := Lib.hid (show 0 < r.text.length from List.length_pos_iff.2 hok.ne)
              have HBack := Lib.hid (again_plain h0 HNP.out behind)
              have HShort := Lib.hid (parse_short hok)
              obtain ⟨A4, c4, rfl, hcL⟩ := id hL
              obtain ⟨y0, hy0⟩ : ∃ y0, (rpLines r)[0]? = some y0 := ⟨_, List.getElem?_eq_getElem (by rw [HLL.out]; exact HNe.out)⟩
              obtain ⟨ad4, rfl, -, -⟩ := hcL.2.2 0 y0 hy0
              clear hcL hy0
              have HL := Lib.hid hL
              have hll : (rpLines r).length = r.text.length := HLL.out
              rw [hll]
              rw [hll] at HL
              have HLZ := Lib.hid (show ∀ t ∈ rpLines r, t.length ≤ 1000 from fun t ht => by
                obtain ⟨a, u, h1, h2⟩ := lines_split hok.ne
                rw [h2] at ht
                rcases List.mem_append.1 ht with ht | ht
                · obtain ⟨y, hy, rfl⟩ := List.mem_map.1 ht
                  have h5 := hok.len y (by rw [h1]; simp [hy])
                  rw [List.length_append, headlen_eq]; omega
                · simp at ht
                  subst ht
                  have h5 := hok.len u (by rw [h1]; simp)
                  rw [List.length_append]; omega)
              clear h0 hok hL hll
              obtain ⟨N, hN⟩ : ∃ N, r.text.length = N + 1 := ⟨r.text.length - 1, by have := HNe.out; omega⟩
              have HNN := Lib.hid hN
              have HBN := Lib.hid (show behind.length ≤ 60 from HFew.out.1)
              have hm32 : N ≤ 31 := by have := HM.out; omega
              rw [hN]
              rw [hN] at HL
              clear hN
              have hc4 : N + 1 ≤ c4 := by obtain ⟨_, _, h1, h2, _⟩ := HL.out; injection h1 with _ h3 h4; rw [h3, h4]; exact h2
              go_wp2_with (first | (at_builtin; refine app_new rfl (.tmp 78) (.tmp 79) rfl _ rfl (by simp) _ (rpLines r) rfl HL.out (by have := HLL.out; have := HM.out; omega) ?_; intro v5 w5 hown5 hb5; have HX5 := Lib.hid (HX4.out.next hb5); have HL5 := Lib.hid (HL.out.below hb5)) | (at_builtin; refine app_more rfl (.tmp 80) (.tmp 81) rfl v5 (rpLines r) rfl hown5 hb5.size hb5 (.slice a2 behind.length cap2) behind rfl ((HBv.out _ HX5.out.below)) (by have := HLL.out; have := HM.out; have := HBN.out; omega) ?_; intro v6 w6 hown6 hb6; have HX6 := Lib.hid (HX4.out.next hb6); have HL6 := Lib.hid (HL.out.below hb6)))
              refine (parse_x (rpLines r ++ behind) v6 w6 (own_txts hown6) (by have := HLL.out; have := HM.out; have := HBN.out; rw [List.length_append]; omega) (fun t ht => by
                rcases List.mem_append.1 ht with ht | ht
                · exact HLZ.out t ht
                · exact HFew.out.2 t ht)).mono ?_
              unfold ParsePost
              rw [HBack.out]
              rintro x w7 ⟨v7, rfl, hT7, hb7⟩
              obtain ⟨A7, c7, rfl, -⟩ := id hT7
              have hn7 : ((r.text.length : Nat) : Int) = (N : Int) + 1 := by have := HNN.out; omega
              have HK7 := Lib.hid (RBx.new (c := r.code) (e := r.e) hT7)
              have hq7 := below_next hb7 (below_box w7 (.cells #[.int .i64 r.code, .int .i64 r.e.1, .int .i64 r.e.2.1, .int .i64 r.e.2.2, .slice A7 r.text.length c7] 25))
              have HX7 := Lib.hid (HX6.out.next hq7)
              have HL7 := Lib.hid (HL6.out.below hq7)
              clear hT7 hb7 hq7 hown5 hb5 hown6 hb6 HX5 HL5 HX6 HL6
              have hw1 : IntKind.i64.wrap ((N : Int) + 1 - 1) = (N : Int) := IntWalk.i64_in _ (by omega) |>.trans (by omega)
              go_wp2_with (at_builtin; refine app_new rfl (.tmp 88) (.tmp 93) rfl _ rfl (by simp) _ ((rpLines r).take N) rfl (HL7.out.take (by have := HLL.out; have := HNN.out; omega)) (by rw [List.length_take]; omega) ?_; intro v8 w8 hown8 hb8)
              refine (parse_x ((rpLines r).take N) v8 w8 (own_txts hown8) (by rw [List.length_take]; omega) (fun t ht => HLZ.out t (List.mem_of_mem_take ht))).mono ?_
              unfold ParsePost
              rw [show (rpLines r).take N = (rpLines r).take (r.text.length - 1) by have := HNN.out; congr 1; omega, HShort.out]
              rintro x w9 ⟨v9, rfl, hT9, hb9⟩
              obtain ⟨A9, c9, rfl, -⟩ := id hT9
              have hq9 := below_next (below_next hb8 hb9) (below_box w9 (.cells #[.int .i64 rp0.code, .int .i64 rp0.e.1, .int .i64 rp0.e.2.1, .int .i64 rp0.e.2.2, .slice A9 rp0.text.length c9] 25))
              have HX9 := Lib.hid (HX7.out.next hq9)
              have HK9 := Lib.hid (HK7.out.next hq9)
              clear hT9 hb9 hq9 hown8 hb8 HX7 HK7
              have k0 := cellOf HX9.out.box 0
              have k1 := cellOf HX9.out.box 1
              have k2 := cellOf HX9.out.box 2
              have k3 := cellOf HX9.out.box 3
              have k4 := cellOf HX9.out.box 4
              have j0 := cellOf HK9.out.box 0
              have j1 := cellOf HK9.out.box 1
              have j2 := cellOf HK9.out.box 2
              have j3 := cellOf HK9.out.box 3
              have j4 := cellOf HK9.out.box 4
              go_wp2_with fail
              refine (psame_x r r _ _ _ HK9.out.txts (HT.out _ HX9.out.below) (by have := HNN.out; omega)).mono ?_
              rintro x w10 ⟨rfl, hb10⟩
              rw [show sameR r r = true by rw [sameR]; simp]
              have HZ := Lib.hid (HX9.out.next hb10).below
              clear hb10 k0 k1 k2 k3 k4 j0 j1 j2 j3 j4
              go_wp2_with fail
              go_ret
              exact ⟨rfl, HZ.out⟩
            · have d1 : (rpRight r != 0) = true := bne_iff_ne.2 h0
              rw [rpPrintL, if_neg h0] at hL
              obtain ⟨A4, c4, rfl, -⟩ := id hL
              have HRX := Lib.hid (right_x r (.slice a r.text.length cap) hRI.out w4 HX4.out.ready (HT.out _ HX4.out.below) HNL.out.1 HNL.out.2)
              generalize rpRight r = q at d1 HRX ⊢
              clear h0 hL
              have k0 := cellOf HX4.out.box 0
              have k1 := cellOf HX4.out.box 1
              have k2 := cellOf HX4.out.box 2
              have k3 := cellOf HX4.out.box 3
              have k4 := cellOf HX4.out.box 4
              go_wp2_with fail
              refine HRX.out.mono ?_
              rintro x w5 ⟨rfl, hb5⟩
              have HZ := Lib.hid (HX4.out.next hb5).below
              clear hb5 k0 k1 k2 k3 k4
              go_wp2_with fail
              go_ret
              exact ⟨by simp, HZ.out⟩
end Go.Proofs.YtleahchplebdgaaDoor
