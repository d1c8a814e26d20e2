/-
  The walk of the law ReplyMade.
-/
import Derived.Test.YtleahchplebdgaaDoorRpApp
import Derived.Test.YtleahchplebdgaaDoorRpSame
import Derived.Test.YtleahchplebdgaaDoorRrOf
namespace Go.Proofs.YtleahchplebdgaaDoor
set_option maxRecDepth 100000
open Go.RowKit
/-- What Of answers. -/
theorem of_got {code : Int} {word : Txt} {text : List Txt} {r : Rp} {n : Int} (hc : I64 code) (h : rpOf code word text = ⟨r, n⟩) : ((n != 0) = true ∨ ((n != 0) = false ∧ rpRight r = 0 ∧ RI r.code r.e)) ∧ (r.text = [] ∨ r.text = text) := by
  unfold rpOf at h
  split at h
  · injection h with h1 h2
    subst h1 h2
    exact ⟨.inl rfl, .inl rfl⟩
  · rename_i e he
    split at h
    · rename_i h0
      injection h with h1 h2
      subst h1 h2
      refine ⟨.inr ⟨rfl, h0, ?_⟩, .inr rfl⟩
      unfold rpWant at he
      split at he
      · injection he with he
        subst he
        exact ⟨hc, ⟨by show _ ≤ (0 : Int); decide, by show (0 : Int) ≤ _; decide⟩, ⟨by show _ ≤ (0 : Int); decide, by show (0 : Int) ≤ _; decide⟩, ⟨by show _ ≤ (0 : Int); decide, by show (0 : Int) ≤ _; decide⟩⟩
      · obtain ⟨h1, h2, h3, h4, h5⟩ := bel_parts (enc_bel he)
        simp only [rpIn, Bool.and_eq_true, decide_eq_true_eq] at h3 h4 h5
        exact ⟨hc, ⟨by show _ ≤ e.1; omega, by show e.1 ≤ _; omega⟩, ⟨by show _ ≤ e.2.1; omega, by show e.2.1 ≤ _; omega⟩, ⟨by show _ ≤ e.2.2; omega, by show e.2.2 ≤ _; omega⟩⟩
    · rename_i h0
      injection h with h1 h2
      subst h1 h2
      exact ⟨.inl (bne_iff_ne.2 h0), .inl rfl⟩
set_option maxHeartbeats 8000000 in
theorem replyMade_x (code : Int) (word : Txt) (text : List Txt) (v : Value) (w : World) (hR : Ready w) (hc : I64 code) (hwl : word.length ≤ 140737488355328) (hT0 : TxtsAt w v text) :
    Calls Tryd.prog 4 #[.int .i64 code, .string (mkS word), v] w fun x w' => x = .returned (.bool true) ∧ Below w.heap.size w w' := by
  have HAw := Lib.hid (awake_x w hR)
  have HRd := Lib.hid (fun (w' : World) (hb : Below w.heap.size w w') => ready_below hR hb)
  have HT := Lib.hid (fun (w' : World) (hb : Below w.heap.size w w') => hT0.below hb)
  have HC := Lib.hid hc
  have hms := mkS_size word
  obtain ⟨a, cap, rfl, -⟩ := id hT0
  clear hR hT0 hc
  go_enter Tryd.func4, Tryd.ntmps4
  go_wp2_with fail
  refine HAw.out.mono ?_
  rintro x w1 ⟨rfl, hb1⟩
  have HB1 := Lib.hid hb1
  clear hb1
  go_wp2_with fail
  refine (few_x _ _ _ (HT.out _ HB1.out)).mono ?_
  rintro x w2 ⟨rfl, rfl⟩
  cases hf : fewL text
  · go_wp2_with fail
    go_ret
    exact ⟨rfl, HB1.out⟩
  · have HF := Lib.hid (few_yes hf)
    clear hf
    by_cases h100 : 100 < word.length
    · have d1 : decide ((100 : Int) < (word.length : Int)) = true := decide_eq_true (by omega)
      have d1' : decide (100 < word.length) = true := decide_eq_true h100
      clear h100
      go_wp2_with fail
      go_ret
      exact ⟨rfl, HB1.out⟩
    · have d1 : decide ((100 : Int) < (word.length : Int)) = false := decide_eq_false (by omega)
      have d1' : decide (100 < word.length) = false := decide_eq_false h100
      have HW100 := Lib.hid (show word.length ≤ 1000 by omega)
      clear h100
      go_wp2_with (at_builtin; refine app_new rfl (.tmp 24) (.tmp 25) rfl _ rfl rfl _ text rfl (HT.out _ HB1.out) (by have := HF.out.1; omega) ?_; intro v3 w3 hown3 hb3; have HB3 := Lib.hid (below_next HB1.out hb3))
      refine (of_x code word text v3 w3 (HRd.out _ HB3.out) HC.out (Nat.le_trans HW100.out (by decide)) (own_txts hown3) (Nat.le_trans HF.out.1 (by decide)) (fun t ht => Nat.le_trans (HF.out.2 t ht) (by decide))).mono ?_
      have HRef := Lib.hid (fun (w' : World) (hb : Below w.heap.size w w') => rof_x code word text (.slice a text.length cap) w' (HRd.out _ hb) HW100.out (HT.out _ hb) (Nat.le_trans HF.out.1 (by decide)) (fun t ht => Nat.le_trans (HF.out.2 t ht) (by decide)))
      have HG := Lib.hid (fun r n => of_got (code := code) (word := word) (text := text) (r := r) (n := n) HC.out)
      unfold OfPost at HRef
      unfold OfPost
      generalize rpOf code word text = o at HG HRef ⊢
      obtain ⟨r, n⟩ := o
      obtain ⟨hG1, hG2⟩ := HG.out r n rfl
      have HGR := Lib.hid hG1
      have HTL := Lib.hid (show r.text.length ≤ 60 ∧ ∀ t ∈ r.text, t.length ≤ 1000 by
        rcases hG2 with h | h
        · rw [h]; exact ⟨by decide, fun t ht => by cases ht⟩
        · rw [h]; exact HF.out)
      have HTLN := Lib.hid (show r.text.length ≤ 1000000000000000 ∧ ∀ t ∈ r.text, t.length ≤ 1000000000000000 from ⟨Nat.le_trans HTL.out.1 (by decide), fun t ht => Nat.le_trans (HTL.out.2 t ht) (by decide)⟩)
      clear hG1 hG2 HG
      dsimp only at HRef ⊢
      rintro x w4 ⟨v4, rfl, hT4, hb4⟩
      obtain ⟨A4, c4, rfl, -⟩ := id hT4
      have HK := Lib.hid (RBx.new (c := r.code) (e := r.e) hT4)
      have HB4 := Lib.hid (below_next (below_next HB3.out hb4) (below_box w4 (.cells #[.int .i64 r.code, .int .i64 r.e.1, .int .i64 r.e.2.1, .int .i64 r.e.2.2, .slice A4 r.text.length c4] 25)))
      clear hown3 hb3 hT4 hb4 HB3
      go_wp2_with fail
      generalize w4.alloc (.cells #[.int .i64 r.code, .int .i64 r.e.1, .int .i64 r.e.2.1, .int .i64 r.e.2.2, .slice A4 r.text.length c4] 25) = wc at HK HB4 ⊢
      generalize w4.heap.size = b at HK ⊢
      refine (HRef.out _ HB4.out).mono ?_
      rintro x w5 ⟨v5, rfl, hT5, hb5⟩
      obtain ⟨A5, c5, rfl, -⟩ := id hT5
      have HJ := Lib.hid (RBx.new (c := r.code) (e := r.e) hT5)
      have hbx := below_next hb5 (below_box w5 (.cells #[.int .i64 r.code, .int .i64 r.e.1, .int .i64 r.e.2.1, .int .i64 r.e.2.2, .slice A5 r.text.length c5] 25))
      have HB5 := Lib.hid (below_next HB4.out hbx)
      have HK5 := Lib.hid (HK.out.next hbx)
      clear hT5 hb5 hbx HK HB4
      have k0 := cellOf HK5.out.box 0
      have k1 := cellOf HK5.out.box 1
      have k2 := cellOf HK5.out.box 2
      have k3 := cellOf HK5.out.box 3
      have k4 := cellOf HK5.out.box 4
      have j0 := cellOf HJ.out.box 0
      have j1 := cellOf HJ.out.box 1
      have j2 := cellOf HJ.out.box 2
      have j3 := cellOf HJ.out.box 3
      have j4 := cellOf HJ.out.box 4
      go_wp2_with fail
      refine (rsame_x r r _ _ _ HK5.out.txts HJ.out.txts (by have := HTL.out.1; omega)).mono ?_
      rintro x w8 ⟨rfl, hb8⟩
      rw [show sameR r r = true by rw [sameR]; simp]
      have HB8 := Lib.hid (below_next HB5.out hb8)
      have HK8 := Lib.hid (HK5.out.next hb8)
      clear hb8 k0 k1 k2 k3 k4 j0 j1 j2 j3 j4
      rcases HGR.out with h1 | ⟨h1, h2, h3⟩
      · go_wp2_with fail
        go_ret
        exact ⟨rfl, HB8.out⟩
      · have k0 := cellOf HK8.out.box 0
        have k1 := cellOf HK8.out.box 1
        have k2 := cellOf HK8.out.box 2
        have k3 := cellOf HK8.out.box 3
        have k4 := cellOf HK8.out.box 4
        have H2 := Lib.hid h2
        have H3 := Lib.hid h3
        clear h2 h3
        go_wp2_with fail
        refine (right_x r _ H3.out _ (HRd.out _ HB8.out) HK8.out.txts HTLN.out.1 HTLN.out.2).mono ?_
        rintro x w9 ⟨rfl, hb9⟩
        rw [H2.out]
        have HZ := Lib.hid (below_next HB8.out hb9)
        clear hb9 k0 k1 k2 k3 k4
        go_wp2_with fail
        go_ret
        exact ⟨rfl, HZ.out⟩
end Go.Proofs.YtleahchplebdgaaDoor
