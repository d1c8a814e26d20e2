/-
  The walk of the law ReplyAgain.
-/
import Derived.Test.YtleahchplebdgaaDoorRpApp
namespace Go.Proofs.YtleahchplebdgaaDoor
set_option maxRecDepth 100000
open Go.RowKit
theorem region_in {P : Program} {id : Nat} {Q : Exit → Act → World → Prop} {a : Act} {w : World} {l : List Oper} (hm : P.follows .mixedOrders = true) (hB : Region.lexB .any l.toArray = true) {Y : Type} (F : Y → World) (y0 : Y) (hy : F y0 = w.drew)
    (h : wpQuiet P l.toArray (fun w' => ∃ y, w' = F y) (fun a' => ∀ w', (∃ y, w' = F y) → Q .normal a' w') l a) : (Code.region id l.toArray true).wp P Q a w :=
  wp_region_quiet (C := fun w' => ∃ y, w' = F y) hm hB ⟨y0, hy.symm⟩ (by simpa using h)
theorem parse_text_len (l : List Txt) (h : ∀ t ∈ l, t.length ≤ 1000) : ∀ t ∈ (rpParse l).r.text, t.length ≤ 1000 := by
  rcases parse_cases l with (e | e | e) | ⟨k, hk, hk2, e, hL⟩
  · rw [e]; intro t ht; cases ht
  · rw [e]; intro t ht; cases ht
  · rw [e]; intro t ht; cases ht
  · rw [e]
    intro t ht
    have ht : t ∈ (rpPart (valX (((l.take (k + 1)).headD []).take 3) : Int) ((l.take (k + 1)).map (·.drop 4))).2 := ht
    have hq : ∀ u ∈ (l.take (k + 1)).map (·.drop 4), u.length ≤ 1000 := fun u hu => by
      obtain ⟨x, hx, rfl⟩ := List.mem_map.1 hu
      have := h x (List.mem_of_mem_take hx)
      simp; omega
    rcases part_cases (valX (((l.take (k + 1)).headD []).take 3) : Int) ((l.take (k + 1)).map (·.drop 4)) with e | ⟨e, _, he, _⟩
    · rw [e] at ht; exact hq t ht
    · rw [he] at ht
      obtain ⟨u, hu, rfl⟩ := List.mem_map.1 ht
      have := hq u hu
      have := post_le 32 u
      omega
set_option maxHeartbeats 8000000 in
theorem replyAgain_x (l : List Txt) (lv : Value) (w : World) (hR : Ready w) (hT : TxtsAt w lv l) :
    Calls Tryd.prog 6 #[lv] w fun x w' => x = .returned (.bool true) ∧ Below w.heap.size w w' := by
  have HAw := Lib.hid (awake_x w hR)
  have HRd := Lib.hid (fun (w' : World) (hb : Below w.heap.size w w') => ready_below hR hb)
  have HT := Lib.hid (fun (w' : World) (hb : Below w.heap.size w w') => hT.below hb)
  obtain ⟨a, cap, rfl, -⟩ := id hT
  clear hR hT
  go_enter Tryd.func6, Tryd.ntmps6
  go_wp2_with fail
  refine HAw.out.mono ?_
  rintro x w1 ⟨rfl, hb1⟩
  have HB1 := Lib.hid hb1
  clear hb1
  go_wp2_with fail
  refine (few_x _ _ _ (HT.out _ HB1.out)).mono ?_
  rintro x w2 ⟨rfl, rfl⟩
  cases hf : fewL l
  · go_wp2_with fail
    go_ret
    exact ⟨rfl, HB1.out⟩
  · have HF := Lib.hid (few_yes hf)
    have HG := Lib.hid (parse_got l)
    have HTZ0 := Lib.hid (parse_text_len l (fun t ht => (few_yes hf).2 t ht))
    clear hf
    go_wp2_with (at_builtin; refine app_new rfl (.tmp 17) (.tmp 18) rfl _ rfl rfl _ l rfl (HT.out _ HB1.out) (by have := HF.out.1; omega) ?_; intro v3 w3 hown3 hb3; have HB3 := Lib.hid (below_next HB1.out hb3))
    refine (parse_x l v3 w3 (own_txts hown3) (by have := HF.out.1; omega) (fun t ht => HF.out.2 t ht)).mono ?_
    unfold ParsePost
    have hlen60 : l.length ≤ 60 := HF.out.1
    generalize rpParse l = pa at HG HTZ0 ⊢
    obtain ⟨r, n, err⟩ := pa
    dsimp only
    rintro x w4 ⟨v4, rfl, hT4, hb4⟩
    obtain ⟨A4, c4, rfl, -⟩ := id hT4
    have hT4 : TxtsAt w4 (.slice A4 r.text.length c4) r.text := hT4
    have HK := Lib.hid (RBx.new (c := r.code) (e := r.e) hT4)
    have HB4 := Lib.hid (below_next (below_next HB3.out hb4) (below_box w4 (.cells #[.int .i64 r.code, .int .i64 r.e.1, .int .i64 r.e.2.1, .int .i64 r.e.2.2, .slice A4 r.text.length c4] 25)))
    clear hown3 hb3 hT4 hb4 HB3
    have hG := HG.out
    clear HG
    dsimp only at hG
    rcases hG with ⟨g1, g2, g3⟩ | ⟨g1, g2, g3, g4⟩
    · have d1 : (err != 0) = true := bne_iff_ne.2 g1
      have g2 : r = rp0 := g2
      have g3 : n = 0 := g3
      subst g2 g3
      clear g1
      have k0 := cellOf HK.out.box 0
      have k1 := cellOf HK.out.box 1
      have k2 := cellOf HK.out.box 2
      have k3 := cellOf HK.out.box 3
      have k4 := cellOf HK.out.box 4
      go_wp2_with fail
      go_ret
      exact ⟨rfl, HB4.out⟩
    · have g1 : err = 0 := g1
      have g3 : n = (r.text.length : Nat) := g3
      have g4 : r.text.length ≤ l.length := g4
      have HGot : Hid (RpGot r) := Lib.hid g2
      subst g1 g3
      have hcl := g2.cls
      have h2 := cls_code hcl
      have hbd := cls_bd r.code
      have hpos : 0 < r.text.length := List.length_pos_iff.2 g2.ne
      have HC := Lib.hid (fun w => still (class_x r.code w))
      have hE0 : (r.e.1 == 0) = true ∨ ((r.e.1 == 0) = false ∧ (r.e.1 == rpCls r.code) = true) := by
        cases hh : rpHas r.e
        · refine .inl ?_
          have : r.e = rpE0 := by rw [rpHas] at hh; simpa using hh
          rw [this]; rfl
        · obtain ⟨h5, h6, _⟩ := bel_parts (g2.bel hh)
          exact .inr ⟨beq_eq_false_iff_ne.2 (by omega), beq_iff_eq.2 h6⟩
      have HGM := Lib.hid g2.many
      have HRI := Lib.hid (show RI r.code r.e from by
        refine ⟨⟨by omega, by omega⟩, ?_, ?_, ?_⟩
        cases hh : rpHas r.e
        · have : r.e = rpE0 := by rw [rpHas] at hh; simpa using hh
          rw [this]; exact ⟨by decide, by decide⟩
        · obtain ⟨_, _, h5, h6, h7⟩ := bel_parts (g2.bel hh)
          simp only [rpIn, Bool.and_eq_true, decide_eq_true_eq] at h5 h6 h7
          exact ⟨by omega, by omega⟩
        · cases hh : rpHas r.e
          · have : r.e = rpE0 := by rw [rpHas] at hh; simpa using hh
            rw [this]; exact ⟨by decide, by decide⟩
          · obtain ⟨_, _, h5, h6, h7⟩ := bel_parts (g2.bel hh)
            simp only [rpIn, Bool.and_eq_true, decide_eq_true_eq] at h5 h6 h7
            exact ⟨by omega, by omega⟩
        · cases hh : rpHas r.e
          · have : r.e = rpE0 := by rw [rpHas] at hh; simpa using hh
            rw [this]; exact ⟨by decide, by decide⟩
          · obtain ⟨_, _, h5, h6, h7⟩ := bel_parts (g2.bel hh)
            simp only [rpIn, Bool.and_eq_true, decide_eq_true_eq] at h5 h6 h7
            exact ⟨by omega, by omega⟩)
      have HTZ := Lib.hid (show ∀ t ∈ r.text, t.length ≤ 1000 from HTZ0.out)
      clear g2
      generalize rpCls r.code = q at HC hE0 h2 hbd hcl
      have d1 : decide ((r.text.length : Int) < 1) = false := decide_eq_false (by omega)
      have d2 : decide ((l.length : Int) < (r.text.length : Int)) = false := decide_eq_false (by omega)
      have d2' : decide (l.length < r.text.length) = false := decide_eq_false (by omega)
      have d3 : decide (q < 2) = false := decide_eq_false (by omega)
      have d4 : decide (5 < q) = false := decide_eq_false (by omega)
      clear hcl h2 hbd
      have HCQ := HC
      clear HC
      go_wp2_with fail
      generalize w4.alloc (.cells #[.int .i64 r.code, .int .i64 r.e.1, .int .i64 r.e.2.1, .int .i64 r.e.2.2, .slice A4 r.text.length c4] 25) = wc at HK HB4 ⊢
      generalize w4.heap.size = b at HK ⊢
      have HHE := Lib.hid hE0
      clear hE0
      have k0 := cellOf HK.out.box 0
      have k1 := cellOf HK.out.box 1
      have k2 := cellOf HK.out.box 2
      have k3 := cellOf HK.out.box 3
      have k4 := cellOf HK.out.box 4
      rcases HHE.out with h5 | ⟨h5, h6⟩
      · have d5 : (r.e.1 != 0) = false := by rw [bne, h5]; rfl
        obtain ⟨F, hF⟩ : ∃ F : Nat → World, F = fun n => wc.drewN (n + 1) := ⟨_, rfl⟩
        have HB5 := Lib.hid (show ∀ n, Below w.heap.size w (F n) from fun n => by rw [hF]; exact below_drewN HB4.out (n + 1))
        have HK5 := Lib.hid (show ∀ n, RBx b r.code r.e (.slice A4 r.text.length c4) r.text (F n) from fun n => by rw [hF]; exact HK.out.next (below_drewN (Below.refl _ _) (n + 1)))
        have hy0 : F 0 = wc.drew := by rw [hF]; rfl
        have j0 := fun y => cellOf (HK5.out y).box 0
        have j1 := fun y => cellOf (HK5.out y).box 1
        have j4 := fun y => cellOf (HK5.out y).box 4
        have HC5 := Lib.hid (show ∀ y, Calls Tryd.prog 19 #[.int .i64 r.code] (F y) (fun e w' => e = .returned (.int .i64 q) ∧ ∃ y, w' = F y) from fun y => (HCQ.out (F y)).mono fun e w' h => ⟨h.1, y, h.2⟩)
        clear hF k0 k1 k2 k3 k4
        refine region_in (by kernel_rfl) (by kernel_rfl) F 0 hy0 ?_
        repeat (go_big_quiet_step ((go_at_call 19; exact HC5.out _)))
        refine wpQuiet_nil ?_
        rintro _ ⟨y, rfl⟩
        clear j0 j1 j4 hy0
        have k0 := cellOf (HK5.out y).box 0
        have k1 := cellOf (HK5.out y).box 1
        have k2 := cellOf (HK5.out y).box 2
        have k3 := cellOf (HK5.out y).box 3
        have k4 := cellOf (HK5.out y).box 4
        go_wp2_with fail
        refine (print_x r _ HRI.out _ (HRd.out _ (HB5.out _)) (HK5.out _).txts (by have := HGM.out; omega) (fun t ht => Nat.le_trans (HTZ.out t ht) (by decide))).mono ?_
        rintro x w6 ⟨lv6, rfl, hL6, hb6⟩
        have HB6 := Lib.hid (below_next (HB5.out _) hb6)
        have HK6 := Lib.hid ((HK5.out _).next hb6)
        clear k0 k1 k2 k3 k4 hb6
        rcases got_right HGot.out with h0 | h0
        · have HA := Lib.hid (again HGot.out h0 [])
          have hok := right_ok.1 h0
          rw [rpPrintL, if_pos h0] at hL6
          rw [h0]
          have HLen := Lib.hid (lines_len r HGot.out.ne)
          have HLZ := Lib.hid (show ∀ t ∈ rpLines r, t.length ≤ 1000 from fun t ht => by
            obtain ⟨a, u, h1, h2⟩ := lines_split hok.ne
            rw [h2] at ht
            rcases List.mem_append.1 ht with ht | ht
            · obtain ⟨y, hy, rfl⟩ := List.mem_map.1 ht
              have h5 := hok.len y (by rw [h1]; simp [hy])
              rw [List.length_append, headlen_eq]; omega
            · simp at ht
              subst ht
              have h5 := hok.len u (by rw [h1]; simp)
              rw [List.length_append]; omega)
          have HL6 := Lib.hid hL6
          clear h0 hok hL6
          go_wp2_with fail
          refine (parse_x (rpLines r) lv6 w6 HL6.out (by have := HLen.out; have := HGM.out; omega) (fun t ht => HLZ.out t ht)).mono ?_
          unfold ParsePost
          rw [show rpParse (rpLines r) = ⟨r, (r.text.length : Nat), 0⟩ by have h := HA.out; rwa [List.append_nil] at h]
          dsimp only
          rintro x w7 ⟨v7, rfl, hT7, hb7⟩
          obtain ⟨A7, c7, rfl, -⟩ := id hT7
          have hT7 : TxtsAt w7 (.slice A7 r.text.length c7) r.text := hT7
          have hq7 := below_next hb7 (below_box w7 (.cells #[.int .i64 r.code, .int .i64 r.e.1, .int .i64 r.e.2.1, .int .i64 r.e.2.2, .slice A7 r.text.length c7] 25))
          have HB7 := Lib.hid (below_next HB6.out hq7)
          have HK7 := Lib.hid (HK6.out.next hq7)
          have HJ7 := Lib.hid (RBx.new (c := r.code) (e := r.e) hT7)
          clear hT7 hb7 hq7
          have k0 := cellOf HK7.out.box 0
          have k1 := cellOf HK7.out.box 1
          have k2 := cellOf HK7.out.box 2
          have k3 := cellOf HK7.out.box 3
          have k4 := cellOf HK7.out.box 4
          have j0 := cellOf HJ7.out.box 0
          have j1 := cellOf HJ7.out.box 1
          have j2 := cellOf HJ7.out.box 2
          have j3 := cellOf HJ7.out.box 3
          have j4 := cellOf HJ7.out.box 4
          go_wp2_with fail
          refine (psame_x r r _ _ _ HK7.out.txts HJ7.out.txts (by have := HGM.out; omega)).mono ?_
          rintro x w8 ⟨rfl, hb8⟩
          rw [show sameR r r = true by rw [sameR]; simp]
          have HZ := Lib.hid (below_next HB7.out hb8)
          clear hb8 k0 k1 k2 k3 k4 j0 j1 j2 j3 j4
          go_wp2_with fail
          go_ret
          exact ⟨rfl, HZ.out⟩
        · obtain ⟨A6, c6, rfl, -⟩ := id hL6
          rw [h0]
          clear h0 hL6
          go_wp2_with fail
          go_ret
          exact ⟨rfl, HB6.out⟩
      · have d5 : (r.e.1 != 0) = true := by rw [bne, h5]; rfl
        have d6 : (r.e.1 != q) = false := by rw [bne, h6]; rfl
        obtain ⟨F, hF⟩ : ∃ F : Nat → World, F = fun n => wc.drewN (n + 1) := ⟨_, rfl⟩
        have HB5 := Lib.hid (show ∀ n, Below w.heap.size w (F n) from fun n => by rw [hF]; exact below_drewN HB4.out (n + 1))
        have HK5 := Lib.hid (show ∀ n, RBx b r.code r.e (.slice A4 r.text.length c4) r.text (F n) from fun n => by rw [hF]; exact HK.out.next (below_drewN (Below.refl _ _) (n + 1)))
        have hy0 : F 0 = wc.drew := by rw [hF]; rfl
        have j0 := fun y => cellOf (HK5.out y).box 0
        have j1 := fun y => cellOf (HK5.out y).box 1
        have j4 := fun y => cellOf (HK5.out y).box 4
        have HC5 := Lib.hid (show ∀ y, Calls Tryd.prog 19 #[.int .i64 r.code] (F y) (fun e w' => e = .returned (.int .i64 q) ∧ ∃ y, w' = F y) from fun y => (HCQ.out (F y)).mono fun e w' h => ⟨h.1, y, h.2⟩)
        clear hF k0 k1 k2 k3 k4
        refine region_in (by kernel_rfl) (by kernel_rfl) F 0 hy0 ?_
        repeat (go_big_quiet_step ((go_at_call 19; exact HC5.out _)))
        refine wpQuiet_nil ?_
        rintro _ ⟨y, rfl⟩
        clear j0 j1 j4 hy0
        have k0 := cellOf (HK5.out y).box 0
        have k1 := cellOf (HK5.out y).box 1
        have k2 := cellOf (HK5.out y).box 2
        have k3 := cellOf (HK5.out y).box 3
        have k4 := cellOf (HK5.out y).box 4
        go_wp2_with fail
        refine (print_x r _ HRI.out _ (HRd.out _ (HB5.out _)) (HK5.out _).txts (by have := HGM.out; omega) (fun t ht => Nat.le_trans (HTZ.out t ht) (by decide))).mono ?_
        rintro x w6 ⟨lv6, rfl, hL6, hb6⟩
        have HB6 := Lib.hid (below_next (HB5.out _) hb6)
        have HK6 := Lib.hid ((HK5.out _).next hb6)
        clear k0 k1 k2 k3 k4 hb6
        rcases got_right HGot.out with h0 | h0
        · have HA := Lib.hid (again HGot.out h0 [])
          have hok := right_ok.1 h0
          rw [rpPrintL, if_pos h0] at hL6
          rw [h0]
          have HLen := Lib.hid (lines_len r HGot.out.ne)
          have HLZ := Lib.hid (show ∀ t ∈ rpLines r, t.length ≤ 1000 from fun t ht => by
            obtain ⟨a, u, h1, h2⟩ := lines_split hok.ne
            rw [h2] at ht
            rcases List.mem_append.1 ht with ht | ht
            · obtain ⟨y, hy, rfl⟩ := List.mem_map.1 ht
              have h5 := hok.len y (by rw [h1]; simp [hy])
              rw [List.length_append, headlen_eq]; omega
            · simp at ht
              subst ht
              have h5 := hok.len u (by rw [h1]; simp)
              rw [List.length_append]; omega)
          have HL6 := Lib.hid hL6
          clear h0 hok hL6
          go_wp2_with fail
          refine (parse_x (rpLines r) lv6 w6 HL6.out (by have := HLen.out; have := HGM.out; omega) (fun t ht => HLZ.out t ht)).mono ?_
          unfold ParsePost
          rw [show rpParse (rpLines r) = ⟨r, (r.text.length : Nat), 0⟩ by have h := HA.out; rwa [List.append_nil] at h]
          dsimp only
          rintro x w7 ⟨v7, rfl, hT7, hb7⟩
          obtain ⟨A7, c7, rfl, -⟩ := id hT7
          have hT7 : TxtsAt w7 (.slice A7 r.text.length c7) r.text := hT7
          have hq7 := below_next hb7 (below_box w7 (.cells #[.int .i64 r.code, .int .i64 r.e.1, .int .i64 r.e.2.1, .int .i64 r.e.2.2, .slice A7 r.text.length c7] 25))
          have HB7 := Lib.hid (below_next HB6.out hq7)
          have HK7 := Lib.hid (HK6.out.next hq7)
          have HJ7 := Lib.hid (RBx.new (c := r.code) (e := r.e) hT7)
          clear hT7 hb7 hq7
          have k0 := cellOf HK7.out.box 0
          have k1 := cellOf HK7.out.box 1
          have k2 := cellOf HK7.out.box 2
          have k3 := cellOf HK7.out.box 3
          have k4 := cellOf HK7.out.box 4
          have j0 := cellOf HJ7.out.box 0
          have j1 := cellOf HJ7.out.box 1
          have j2 := cellOf HJ7.out.box 2
          have j3 := cellOf HJ7.out.box 3
          have j4 := cellOf HJ7.out.box 4
          go_wp2_with fail
          refine (psame_x r r _ _ _ HK7.out.txts HJ7.out.txts (by have := HGM.out; omega)).mono ?_
          rintro x w8 ⟨rfl, hb8⟩
          rw [show sameR r r = true by rw [sameR]; simp]
          have HZ := Lib.hid (below_next HB7.out hb8)
          clear hb8 k0 k1 k2 k3 k4 j0 j1 j2 j3 j4
          go_wp2_with fail
          go_ret
          exact ⟨rfl, HZ.out⟩
        · obtain ⟨A6, c6, rfl, -⟩ := id hL6
          rw [h0]
          clear h0 hL6
          go_wp2_with fail
          go_ret
          exact ⟨rfl, HB6.out⟩
end Go.Proofs.YtleahchplebdgaaDoor
