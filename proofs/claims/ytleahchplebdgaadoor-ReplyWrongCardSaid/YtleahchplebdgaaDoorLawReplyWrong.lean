/-
  The walk of the law ReplyWrong.
-/
import Derived.Test.YtleahchplebdgaaDoorRpApp
namespace Go.Proofs.YtleahchplebdgaaDoor
set_option maxRecDepth 100000
open Go.RowKit
theorem own_set {w : World} {B : Nat} {v : Value} {l : List Txt} {k : Nat} (h : w.ownsRow B 9 1 v l.length (strsV l)) (hk : k < l.length) : ∃ g cap, v = .slice (some ⟨g, 0, none⟩) l.length cap ∧ B ≤ g ∧ (∃ old, w.cell? ⟨g, k, none⟩ = some old) ∧ w.frozen? ⟨g, k, none⟩ = false ∧ ∀ u, TxtsAt (w.setCell ⟨g, k, none⟩ (.string (mkS u))) (.slice (some ⟨g, 0, none⟩) l.length cap) (l.set k u) := by
  rcases h.2 with ⟨rfl, h0⟩ | ⟨g, cap, cur, rfl, hB, hg, hcap, _, hsz, htk⟩
  · omega
  · refine ⟨g, cap, rfl, hB, ⟨cur[k]'(by omega), by rw [cellOf hg, Array.getElem?_eq_getElem]⟩, freeOf hg k, fun u => ⟨_, cap, by rw [List.length_set], by rw [List.length_set]; exact hcap, fun e => by (cases e), fun i t hi => ⟨_, rfl, ?_, ?_⟩⟩⟩
    · rw [World.size_setCell]; exact ltOf hg
    · rw [show (⟨g, 0, none⟩ : Addr).add i = ⟨g, i, none⟩ by unfold Addr.add; split <;> simp_all, cellOf (setOf hg k _)]
      have hil := (List.getElem?_eq_some_iff.1 hi).1
      rw [List.length_set] at hil
      by_cases e : i = k
      · subst e
        rw [List.getElem?_set_self (by omega)] at hi
        injection hi with hi
        subst hi
        rw [Array.getElem?_setIfInBounds_self_of_lt (by omega)]
      · rw [List.getElem?_set_ne (fun h => e h.symm)] at hi
        rw [Array.getElem?_setIfInBounds_ne (fun h => e h.symm)]
        have h5 := congrArg (fun z : List Value => z[i]?) htk
        rw [Nat.mul_one] at h5
        simp only [List.getElem?_take, if_pos hil, strsV, List.getElem?_map, hi, Option.map_some, Array.getElem?_toList] at h5
        exact h5
/-- The lines that are none, in their box, block b, and a reply's lines. -/
structure WW (W : World) (b : Nat) (cs : Array Value) (lv : Value) (l : List Txt) (w : World) : Prop where
  box : w.heap[b]? = some (.cells cs 49 (0, 0))
  txts : TxtsAt w lv l
  below : Below W.heap.size W w
theorem WW.next {W : World} {b : Nat} {cs : Array Value} {lv : Value} {l : List Txt} {w w' : World} (h : WW W b cs lv l w) (hb : Below w.heap.size w w') : WW W b cs lv l w' := ⟨(hb.block _ (ltOf h.box)).trans h.box, h.txts.below hb, below_next h.below hb⟩
theorem line3 {r : Rp} (h : RpOk r) {y : Txt} (hy : y ∈ rpLines r) : 3 ≤ y.length ∧ y.length ≤ 1000 := by
  obtain ⟨a, u, h1, h2⟩ := lines_split h.ne
  rw [h2] at hy
  rcases List.mem_append.1 hy with hy | hy
  · obtain ⟨z, hz, rfl⟩ := List.mem_map.1 hy
    have h5 := h.len z (by rw [h1]; simp [hz])
    have h6 := (line_facts h.cls h.bel (h.pr z (by rw [h1]; simp [hz])) 45 (.inl rfl)).2.2.2
    refine ⟨(fm_parts h6).1, ?_⟩
    rw [List.length_append, headlen_eq]; omega
  · simp at hy
    subst hy
    have h5 := h.len u (by rw [h1]; simp)
    have h6 := (line_facts h.cls h.bel (h.pr u (by rw [h1]; simp)) 32 (.inr rfl)).2.2.2
    refine ⟨(fm_parts h6).1, ?_⟩
    rw [List.length_append]; omega
set_option maxHeartbeats 8000000 in
theorem replyWrong_x (r : Rp) (at_ : Int) (sv : Value) (w : World) (hR : Ready w) (hRI : RI r.code r.e) (hT : TxtsAt w sv r.text) (hA : I64 at_) :
    Calls Tryd.prog 7 #[RV r.code r.e sv, .int .i64 at_] w fun x w' => x = .returned (.bool true) ∧ Below w.heap.size w w' := by
  have HAw := Lib.hid (fun w hR => awake_x w hR)
  have HRI := Lib.hid hRI
  have HAt := Lib.hid hA
  have HT := Lib.hid (fun (w' : World) (hb : Below w.heap.size w w') => hT.below hb)
  have HX0 := Lib.hid (RX.new r.code r.e sv hR)
  obtain ⟨a, cap, rfl, -⟩ := id hT
  clear hR hT hRI hA
  go_enter Tryd.func7, Tryd.ntmps7
  go_wp2_with fail
  refine (HAw.out _ HX0.out.ready).mono ?_
  rintro x w1 ⟨rfl, hb1⟩
  have HX := Lib.hid (HX0.out.next hb1)
  clear hb1 HX0
  have k0 := cellOf HX.out.box 0
  have k1 := cellOf HX.out.box 1
  have k2 := cellOf HX.out.box 2
  have k3 := cellOf HX.out.box 3
  have k4 := cellOf HX.out.box 4
  go_wp2_with fail
  refine (few_x _ _ _ (HT.out _ HX.out.below)).mono ?_
  rintro x w2 ⟨rfl, rfl⟩
  cases hf : fewL r.text
  · have HZ := Lib.hid HX.out.below
    go_wp2_with fail
    go_ret
    exact ⟨rfl, HZ.out⟩
  · have HF1 := Lib.hid (few_yes hf)
    clear hf
    by_cases hat : at_ < 0
    · have d1 : decide (at_ < 0) = true := decide_eq_true hat
      have HZ := Lib.hid HX.out.below
      clear hat
      go_wp2_with fail
      go_ret
      exact ⟨rfl, HZ.out⟩
    · have d1 : decide (at_ < 0) = false := decide_eq_false hat
      have HNA := Lib.hid hat
      clear hat
      go_wp2_with fail
      refine (print_x r _ HRI.out _ HX.out.ready (HT.out _ HX.out.below) (Nat.le_trans HF1.out.1 (by decide)) (fun t ht => Nat.le_trans (HF1.out.2 t ht) (by decide))).mono ?_
      rintro x w4 ⟨lv, rfl, hL, hb4⟩
      have HB4 := Lib.hid (HX.out.next hb4).below
      clear hb4 k0 k1 k2 k3 k4
      obtain ⟨A4, c4, rfl, hcL⟩ := id hL
      by_cases h0 : rpRight r = 0
      · have hok := right_ok.1 h0
        rw [rpPrintL, if_pos h0] at hL hcL
        rw [h0, rpPrintL, if_pos h0, lines_len r hok.ne]
        rw [lines_len r hok.ne] at hL
        have hpos : 0 < r.text.length := List.length_pos_iff.2 hok.ne
        have hm := hok.many
        obtain ⟨N, hN⟩ : ∃ N : Nat, at_.toNat % r.text.length = N := ⟨_, rfl⟩
        have hNl : N < r.text.length := by rw [← hN]; exact Nat.mod_lt _ hpos
        have ht1 : at_.tmod (r.text.length : Int) = (N : Int) := by
          have h1 := HNA.out
          rw [IntWalk.rem_in _ _ (by omega), ← hN]
          obtain ⟨m, rfl⟩ : ∃ m : Nat, at_ = m := ⟨at_.toNat, by omega⟩
          simp
        have ht2 : IntKind.i64.wrap (at_.tmod (r.text.length : Int)) = (N : Int) := by rw [ht1]; exact IntWalk.i64_in _ (by omega)
        have hne0 : ((r.text.length : Int) == 0) = false := beq_eq_false_iff_ne.2 (by omega)
        obtain ⟨y, hy⟩ : ∃ y, (rpLines r)[N]? = some y := ⟨_, List.getElem?_eq_getElem (by rw [lines_len r hok.ne]; exact hNl)⟩
        obtain ⟨ad, rfl, hab, hcy⟩ := hcL.2.2 N y hy
        obtain ⟨hy3, hy1⟩ := line3 hok (List.mem_of_getElem? hy)
        have HOk := Lib.hid hok
        have HLZ := Lib.hid (show ∀ t ∈ rpLines r, t.length ≤ 1000 from fun t ht => (line3 hok ht).2)
        have HLen := Lib.hid (lines_len r hok.ne)
        have HRL := Lib.hid (show (rpLines r).length ≤ 32 by rw [lines_len r hok.ne]; exact hm)
        have hms := mkS_size y
        have hx1 := take3_x y
        have hz3 := mkS_size (y.take 3)
        have hzl : (y.take 3).length = 3 := by rw [List.length_take]; omega
        have hcat : mkS (y.take 3) ++ ({ data := #[120] } : ByteArray) = mkS (y.take 3 ++ [120]) := mkS_cat (y.take 3) [120]
        have hzx := mkS_size (y.take 3 ++ [120])
        have hzxl : (y.take 3 ++ [120]).length = 4 := by rw [List.length_append, hzl]; rfl
        have HF4 := Lib.hid (show rpFm (y.take 3 ++ [120]) = false from fm_sign (c := 120) (by rw [List.getElem?_append_right (by omega), hzl]; rfl) (by decide) (by decide))
        have h3i : (3 : Int) ≤ (y.length : Int) := by omega
        have HL := Lib.hid hL
        rw [hzl] at hz3
        clear h0 hok hcL hy hab hL hN hm hzl
        go_wp2_with fail
        have HW0 := Lib.hid (show WW w w4.heap.size #[.string { data := #[] }, .string { data := #[50] }, .string { data := #[57, 57, 57, 32, 120] }, .string (mkS (y.take 3 ++ [120]))] (.slice (some ad) r.text.length c4) (rpLines r) (w4.alloc (.cells #[.string { data := #[] }, .string { data := #[50] }, .string { data := #[57, 57, 57, 32, 120] }, .string (mkS (y.take 3 ++ [120]))] 49)) from ⟨newOf w4 _, HL.out.below (below_box w4 _), HB4.out.alloc HB4.out.size _⟩)
        have hNr : N < (rpLines r).length := by rw [HLen.out]; exact hNl
        have hNri : (N : Int) < ((rpLines r).length : Int) := by omega
        generalize w4.alloc (.cells #[.string { data := #[] }, .string { data := #[50] }, .string { data := #[57, 57, 57, 32, 120] }, .string (mkS (y.take 3 ++ [120]))] 49) = w5 at HW0 ⊢
        generalize w4.heap.size = b at HW0 ⊢
        clear hcy hms hx1 hz3 hcat hzx ht1 ht2
        go_loopw [8] (fun i wr => ∃ j : Nat, j ≤ 4 ∧ i = .int .i64 j ∧ Hid (WW w b #[.string { data := #[] }, .string { data := #[50] }, .string { data := #[57, 57, 57, 32, 120] }, .string (mkS (y.take 3 ++ [120]))] (.slice (some ad) r.text.length c4) (rpLines r) wr)) (fun i _ => 4 - (intOf i).toNat)
        case atStart => exact ⟨0, Nat.zero_le _, rfl, HW0⟩
        case round =>
          obtain ⟨j, hj, rfl, HW⟩ := hrel
          rcases (show j = 0 ∨ j = 1 ∨ j = 2 ∨ j = 3 ∨ j = 4 by omega) with rfl | rfl | rfl | rfl | rfl
          · have HPW := Lib.hid (parse_wrong HOk.out hNl (u := []) (fm_short (by decide)))
            go_wp2_with (at_builtin; refine app_new rfl (.tmp 52) (.tmp 53) rfl _ rfl rfl _ (rpLines r) rfl HW.out.txts (Nat.le_trans HRL.out (by decide)) ?_; intro v9 w9 hown9 hb9; obtain ⟨g, cap9, hv9, hB9, ⟨old, c9⟩, f9, hset⟩ := own_set hown9 hNr; have HW9 := Lib.hid (HW.out.next hb9); have kk := cellOf HW9.out.box 0; have HS9 := Lib.hid (hset []); have HB9 := Lib.hid (show Below wr.heap.size wr (w9.setCell ⟨g, N, none⟩ (.string (mkS []))) from hb9.setCell (p := ⟨g, N, none⟩) hB9 _); clear hset hown9 hb9 hB9; subst hv9)
            refine (parse_x ((rpLines r).set N []) _ _ HS9.out (by rw [List.length_set]; exact Nat.le_trans HRL.out (by decide)) (fun t ht => by
              rcases List.mem_or_eq_of_mem_set ht with ht | ht
              · exact HLZ.out t ht
              · subst ht; first | decide | omega)).mono ?_
            unfold ParsePost
            rw [HPW.out]
            dsimp only
            rintro x w10 ⟨v10, rfl, hT10, hb10⟩
            obtain ⟨A7, c7, rfl, -⟩ := id hT10
            have HW10 := Lib.hid (((HW.out.next HB9.out).next hb10).next (below_box w10 (.cells #[.int .i64 rp0.code, .int .i64 rp0.e.1, .int .i64 rp0.e.2.1, .int .i64 rp0.e.2.2, .slice A7 rp0.text.length c7] 25)))
            clear hT10 hb10 kk c9 f9
            go_wp2_with fail
            go_roundw
            case rel => exact ⟨1, by omega, by go_num, HW10⟩
            case measure => simp [intOf]
          · have HPW := Lib.hid (parse_wrong HOk.out hNl (u := [50]) (fm_short (by decide)))
            go_wp2_with (at_builtin; refine app_new rfl (.tmp 52) (.tmp 53) rfl _ rfl rfl _ (rpLines r) rfl HW.out.txts (Nat.le_trans HRL.out (by decide)) ?_; intro v9 w9 hown9 hb9; obtain ⟨g, cap9, hv9, hB9, ⟨old, c9⟩, f9, hset⟩ := own_set hown9 hNr; have HW9 := Lib.hid (HW.out.next hb9); have kk := cellOf HW9.out.box 1; have HS9 := Lib.hid (hset [50]); have HB9 := Lib.hid (show Below wr.heap.size wr (w9.setCell ⟨g, N, none⟩ (.string (mkS [50]))) from hb9.setCell (p := ⟨g, N, none⟩) hB9 _); clear hset hown9 hb9 hB9; subst hv9)
            refine (parse_x ((rpLines r).set N [50]) _ _ HS9.out (by rw [List.length_set]; exact Nat.le_trans HRL.out (by decide)) (fun t ht => by
              rcases List.mem_or_eq_of_mem_set ht with ht | ht
              · exact HLZ.out t ht
              · subst ht; first | decide | omega)).mono ?_
            unfold ParsePost
            rw [HPW.out]
            dsimp only
            rintro x w10 ⟨v10, rfl, hT10, hb10⟩
            obtain ⟨A7, c7, rfl, -⟩ := id hT10
            have HW10 := Lib.hid (((HW.out.next HB9.out).next hb10).next (below_box w10 (.cells #[.int .i64 rp0.code, .int .i64 rp0.e.1, .int .i64 rp0.e.2.1, .int .i64 rp0.e.2.2, .slice A7 rp0.text.length c7] 25)))
            clear hT10 hb10 kk c9 f9
            go_wp2_with fail
            go_roundw
            case rel => exact ⟨2, by omega, by go_num, HW10⟩
            case measure => simp [intOf]
          · have HPW := Lib.hid (parse_wrong HOk.out hNl (u := [57, 57, 57, 32, 120]) (fm_999))
            go_wp2_with (at_builtin; refine app_new rfl (.tmp 52) (.tmp 53) rfl _ rfl rfl _ (rpLines r) rfl HW.out.txts (Nat.le_trans HRL.out (by decide)) ?_; intro v9 w9 hown9 hb9; obtain ⟨g, cap9, hv9, hB9, ⟨old, c9⟩, f9, hset⟩ := own_set hown9 hNr; have HW9 := Lib.hid (HW.out.next hb9); have kk := cellOf HW9.out.box 2; have HS9 := Lib.hid (hset [57, 57, 57, 32, 120]); have HB9 := Lib.hid (show Below wr.heap.size wr (w9.setCell ⟨g, N, none⟩ (.string (mkS [57, 57, 57, 32, 120]))) from hb9.setCell (p := ⟨g, N, none⟩) hB9 _); clear hset hown9 hb9 hB9; subst hv9)
            refine (parse_x ((rpLines r).set N [57, 57, 57, 32, 120]) _ _ HS9.out (by rw [List.length_set]; exact Nat.le_trans HRL.out (by decide)) (fun t ht => by
              rcases List.mem_or_eq_of_mem_set ht with ht | ht
              · exact HLZ.out t ht
              · subst ht; first | decide | omega)).mono ?_
            unfold ParsePost
            rw [HPW.out]
            dsimp only
            rintro x w10 ⟨v10, rfl, hT10, hb10⟩
            obtain ⟨A7, c7, rfl, -⟩ := id hT10
            have HW10 := Lib.hid (((HW.out.next HB9.out).next hb10).next (below_box w10 (.cells #[.int .i64 rp0.code, .int .i64 rp0.e.1, .int .i64 rp0.e.2.1, .int .i64 rp0.e.2.2, .slice A7 rp0.text.length c7] 25)))
            clear hT10 hb10 kk c9 f9
            go_wp2_with fail
            go_roundw
            case rel => exact ⟨3, by omega, by go_num, HW10⟩
            case measure => simp [intOf]
          · have HPW := Lib.hid (parse_wrong HOk.out hNl (u := (y.take 3 ++ [120])) (HF4.out))
            go_wp2_with (at_builtin; refine app_new rfl (.tmp 52) (.tmp 53) rfl _ rfl rfl _ (rpLines r) rfl HW.out.txts (Nat.le_trans HRL.out (by decide)) ?_; intro v9 w9 hown9 hb9; obtain ⟨g, cap9, hv9, hB9, ⟨old, c9⟩, f9, hset⟩ := own_set hown9 hNr; have HW9 := Lib.hid (HW.out.next hb9); have kk := cellOf HW9.out.box 3; have HS9 := Lib.hid (hset (y.take 3 ++ [120])); have HB9 := Lib.hid (show Below wr.heap.size wr (w9.setCell ⟨g, N, none⟩ (.string (mkS (y.take 3 ++ [120])))) from hb9.setCell (p := ⟨g, N, none⟩) hB9 _); clear hset hown9 hb9 hB9; subst hv9)
            refine (parse_x ((rpLines r).set N (y.take 3 ++ [120])) _ _ HS9.out (by rw [List.length_set]; exact Nat.le_trans HRL.out (by decide)) (fun t ht => by
              rcases List.mem_or_eq_of_mem_set ht with ht | ht
              · exact HLZ.out t ht
              · subst ht; first | decide | omega)).mono ?_
            unfold ParsePost
            rw [HPW.out]
            dsimp only
            rintro x w10 ⟨v10, rfl, hT10, hb10⟩
            obtain ⟨A7, c7, rfl, -⟩ := id hT10
            have HW10 := Lib.hid (((HW.out.next HB9.out).next hb10).next (below_box w10 (.cells #[.int .i64 rp0.code, .int .i64 rp0.e.1, .int .i64 rp0.e.2.1, .int .i64 rp0.e.2.2, .slice A7 rp0.text.length c7] 25)))
            clear hT10 hb10 kk c9 f9
            go_wp2_with fail
            go_roundw
            case rel => exact ⟨4, by omega, by go_num, HW10⟩
            case measure => simp [intOf]
          · have HZ := Lib.hid HW.out.below
            go_wp2_with fail
            go_ret
            exact ⟨rfl, HZ.out⟩
      · have d2 : (rpRight r != 0) = true := bne_iff_ne.2 h0
        generalize rpRight r = q at d2 ⊢
        clear h0 hL hcL
        go_wp2_with fail
        go_ret
        exact ⟨rfl, HB4.out⟩
end Go.Proofs.YtleahchplebdgaaDoor
