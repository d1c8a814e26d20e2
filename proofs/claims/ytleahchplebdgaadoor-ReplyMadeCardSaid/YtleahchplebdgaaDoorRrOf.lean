/-
  The walk of the reference's Of.
-/
import Derived.Test.YtleahchplebdgaaDoorRrRead
import Derived.Test.YtleahchplebdgaaDoorRrRight
namespace Go.Proofs.YtleahchplebdgaaDoor
set_option maxRecDepth 100000
open Go.RowKit
theorem rd_none {c : Int} {t : Txt} {w : World} (hl : t.length ≤ 1000000) (h : rpFront c t = none) : Calls Tryd.prog 29 #[.int .i64 c, .string (mkS t)] w fun x w' => x = .returned (.tuple #[.agg #[.int .i64 0, .int .i64 0, .int .i64 0], .string (mkS []), .bool false]) ∧ Below w.heap.size w w' :=
  (rread_x c t w hl).mono fun _ _ ⟨he, hb⟩ => ⟨by rw [he, h]; rfl, hb⟩
theorem rd_some {c : Int} {t : Txt} {e : E3} {w : World} (hl : t.length ≤ 1000000) (h : rpFront c t = some e) : Calls Tryd.prog 29 #[.int .i64 c, .string (mkS t)] w fun x w' => x = .returned (.tuple #[EV e, .string (mkS (postC 32 t)), .bool true]) ∧ Below w.heap.size w w' :=
  (rread_x c t w hl).mono fun _ _ ⟨he, hb⟩ => ⟨by rw [he, h]; rfl, hb⟩
set_option maxHeartbeats 8000000 in
theorem rof_x (code : Int) (word : Txt) (text : List Txt) (v : Value) (w : World) (hR : Ready w) (hw : word.length ≤ 1000) (hv : TxtsAt w v text) (hn : text.length ≤ 100000) (hz : ∀ t ∈ text, t.length ≤ 1000000) :
    Calls Tryd.prog 22 #[.int .i64 code, .string (mkS word), v] w (OfPost code word text w) := by
  have HV := Lib.hid (show rpOf code word text = match rpWant word code with | none => ⟨rp0, 2⟩ | some e => if rpRight ⟨code, e, text⟩ = 0 then ⟨⟨code, e, text⟩, 0⟩ else ⟨rp0, rpRight ⟨code, e, text⟩⟩ from rfl)
  have HRight := Lib.hid (fun (e : E3) (w' : World) (hb : Below w.heap.size w w') => rright_x ⟨code, e, text⟩ v w' (ready_below hR hb) (hv.below hb) (Nat.le_trans hn (by decide)) (fun t ht => Nat.le_trans (hz t ht) (by decide)))
  have HT := Lib.hid (fun (w' : World) (hb : Below w.heap.size w w') => hv.below hb)
  obtain ⟨a, cap, rfl, hcp⟩ := id hv
  have HO := Lib.hid (OS.new w code (.slice a text.length cap))
  have hs1 : (w.alloc (.cells #[.int .i64 0, .int .i64 0, .int .i64 0, .int .i64 0, .slice none 0 0] 25)).heap.size = w.heap.size + 1 := by simp
  have hT := mkS_toList word
  clear hcp hR hv hn hz
  by_cases hwd : word = []
  · obtain ⟨e, he⟩ : ∃ e, rpE0 = e := ⟨_, rfl⟩
    have HW := Lib.hid (show rpOf code word text = if rpRight ⟨code, e, text⟩ = 0 then ⟨⟨code, e, text⟩, 0⟩ else ⟨rp0, rpRight ⟨code, e, text⟩⟩ by rw [HV.out, rpWant, if_pos hwd, ← he])
    rw [he] at HO
    have hem : word.isEmpty = true := by rw [hwd]; rfl
    have hde : decide (word = []) = true := decide_eq_true hwd
    clear hwd
    have k0 := cellOf HO.out.box 0
    have k1 := cellOf HO.out.box 1
    have k2 := cellOf HO.out.box 2
    have k3 := cellOf HO.out.box 3
    have k4 := cellOf HO.out.box 4
    go_enter Tryd.func22, Tryd.ntmps22
    go_wp2_with fail
    refine (HRight.out e _ HO.out.below).mono ?_
    rintro x w5 ⟨rfl, hb5⟩
    have H5 := Lib.hid (HO.out.next hb5)
    clear hb5 k0 k1 k2 k3 k4
    by_cases hr0 : rpRight ⟨code, e, text⟩ = 0
    · have HR0 := Lib.hid (show rpOf code word text = ⟨⟨code, e, text⟩, 0⟩ by rw [HW.out, if_pos hr0])
      rw [hr0]
      clear hr0
      have k0 := cellOf H5.out.box 0
      have k1 := cellOf H5.out.box 1
      have k2 := cellOf H5.out.box 2
      have k3 := cellOf H5.out.box 3
      have k4 := cellOf H5.out.box 4
      go_wp2_with (refine wpList_store_blk rfl 25 _ _ rfl w.heap.size 0 25 #[.int .i64 0, .int .i64 0, .int .i64 0, .int .i64 0, .slice none 0 0] #[.int .i64 code, .int .i64 e.1, .int .i64 e.2.1, .int .i64 e.2.2, .slice a text.length cap] #[.int .i64 code, .int .i64 e.1, .int .i64 e.2.1, .int .i64 e.2.2, .slice a text.length cap] rfl rfl H5.out.res size_rep (by kernel_rfl) (Nat.le_of_eq rfl) (by kernel_rfl) ?_; intro w9 hB9 hA9)
      have hBL := H5.out.below.trans (hA9.below H5.out.below.size (Nat.le_refl _))
      exact bodyPost_ret (v := .tuple #[RV code e (.slice a text.length cap), .int .i64 0]) (ans_rep2 rfl rfl rfl hB9) rfl ⟨_, by rw [HR0.out], by rw [HR0.out]; exact HT.out _ hBL, hBL⟩
    · have HR0 := Lib.hid (show rpOf code word text = ⟨rp0, rpRight ⟨code, e, text⟩⟩ by rw [HW.out, if_neg hr0])
      have d1 : (rpRight ⟨code, e, text⟩ != 0) = true := bne_iff_ne.2 hr0
      generalize rpRight ⟨code, e, text⟩ = q at HR0 d1 ⊢
      clear hr0
      go_wp2_with (refine wpList_store_blk rfl 25 _ _ rfl w.heap.size 0 25 #[.int .i64 0, .int .i64 0, .int .i64 0, .int .i64 0, .slice none 0 0] #[.int .i64 0, .int .i64 0, .int .i64 0, .int .i64 0, .slice none 0 0] #[.int .i64 0, .int .i64 0, .int .i64 0, .int .i64 0, .slice none 0 0] rfl rfl H5.out.res size_rep (by kernel_rfl) (Nat.le_of_eq rfl) (by kernel_rfl) ?_; intro w9 hB9 hA9)
      exact bodyPost_ret (v := .tuple #[.agg #[.int .i64 0, .int .i64 0, .int .i64 0, .int .i64 0, .slice none 0 0], .int .i64 q]) (ans_rep2 (c := 0) (e := rpE0) rfl rfl rfl hB9) rfl (of_err HR0.out (H5.out.below.trans (hA9.below H5.out.below.size (Nat.le_refl _))))
  · have hem : word.isEmpty = false := by cases h : word with | nil => exact absurd h hwd | cons => rfl
    have hde : decide (word = []) = false := decide_eq_false hwd
    have HFW := Lib.hid (front_word (word := word) (c := code))
    have hct : mkS word ++ { data := #[32] } = mkS (word ++ [32]) := mkS_cat word [32]
    have hms := mkS_size word
    have hz4 : ¬ 9223372036854775807 < word.length + 1 := by omega
    have hl2 : (word ++ [32]).length ≤ 1000000 := by simp; omega
    cases hf : rpFront code (word ++ [32]) with
    | none =>
      have HW := Lib.hid (show rpOf code word text = ⟨rp0, 2⟩ by rw [HV.out, rpWant, if_neg hwd, HFW.out, hf])
      have HRd := Lib.hid (fun w => rd_none (w := w) hl2 hf)
      clear hwd hf hl2 HFW
      go_enter Tryd.func22, Tryd.ntmps22
      go_wp2_with fail
      refine (HRd.out _).mono ?_
      rintro x w2 ⟨rfl, hb2⟩
      have H3 := Lib.hid ((HO.out.next hb2).next (below_box w2 (.cells #[.int .i64 0, .int .i64 0, .int .i64 0] 23)))
      clear hb2
      go_wp2_with (refine wpList_store_blk rfl 25 _ _ rfl w.heap.size 0 25 #[.int .i64 0, .int .i64 0, .int .i64 0, .int .i64 0, .slice none 0 0] #[.int .i64 0, .int .i64 0, .int .i64 0, .int .i64 0, .slice none 0 0] #[.int .i64 0, .int .i64 0, .int .i64 0, .int .i64 0, .slice none 0 0] rfl rfl H3.out.res size_rep (by kernel_rfl) (Nat.le_of_eq rfl) (by kernel_rfl) ?_; intro w9 hB9 hA9)
      exact bodyPost_ret (v := .tuple #[.agg #[.int .i64 0, .int .i64 0, .int .i64 0, .int .i64 0, .slice none 0 0], .int .i64 2]) (ans_rep2 (c := 0) (e := rpE0) rfl rfl rfl hB9) rfl (of_err HW.out (H3.out.below.trans (hA9.below H3.out.below.size (Nat.le_refl _))))
    | some e =>
      have HRd := Lib.hid (fun w => rd_some (w := w) hl2 hf)
      obtain ⟨rr, hrr⟩ : ∃ rr, postC 32 (word ++ [32]) = rr := ⟨_, rfl⟩
      rw [hrr] at HRd HFW
      rw [hf] at HFW
      clear hf hl2 hrr
      have hT2 := mkS_toList rr
      by_cases hre : rr = []
      · have HW := Lib.hid (show rpOf code word text = if rpRight ⟨code, e, text⟩ = 0 then ⟨⟨code, e, text⟩, 0⟩ else ⟨rp0, rpRight ⟨code, e, text⟩⟩ by rw [HV.out, rpWant, if_neg hwd, HFW.out]; simp only [if_pos hre])
        have hem2 : rr.isEmpty = true := by rw [hre]; rfl
        have hde2 : decide (rr = []) = true := decide_eq_true hre
        clear hwd hre HFW
        go_enter Tryd.func22, Tryd.ntmps22
        go_wp2_with fail
        refine (HRd.out _).mono ?_
        rintro x w2 ⟨rfl, hb2⟩
        have H3 := Lib.hid ((HO.out.next hb2).next (below_box w2 (.cells #[.int .i64 e.1, .int .i64 e.2.1, .int .i64 e.2.2] 23)))
        clear hb2
        go_wp2_with (refine wpList_store_blk rfl 23 _ _ rfl (w.heap.size + 1) 1 25 #[.int .i64 code, .int .i64 0, .int .i64 0, .int .i64 0, .slice a text.length cap] #[.int .i64 e.1, .int .i64 e.2.1, .int .i64 e.2.2] #[.int .i64 code, .int .i64 e.1, .int .i64 e.2.1, .int .i64 e.2.2, .slice a text.length cap] rfl rfl H3.out.box size_arr (one_arr _ _ _) (by simp) (by kernel_rfl) ?_; intro w4 hB4 hA4; have H4 := Lib.hid (H3.out.put (e' := e) (v' := .slice a text.length cap) hB4 hA4); have k0 := cellOf H4.out.box 0; have k1 := cellOf H4.out.box 1; have k2 := cellOf H4.out.box 2; have k3 := cellOf H4.out.box 3; have k4 := cellOf H4.out.box 4)
        refine (HRight.out e _ H4.out.below).mono ?_
        rintro x w5 ⟨rfl, hb5⟩
        have H5 := Lib.hid (H4.out.next hb5)
        clear hb5 k0 k1 k2 k3 k4
        by_cases hr0 : rpRight ⟨code, e, text⟩ = 0
        · have HR0 := Lib.hid (show rpOf code word text = ⟨⟨code, e, text⟩, 0⟩ by rw [HW.out, if_pos hr0])
          rw [hr0]
          clear hr0
          have k0 := cellOf H5.out.box 0
          have k1 := cellOf H5.out.box 1
          have k2 := cellOf H5.out.box 2
          have k3 := cellOf H5.out.box 3
          have k4 := cellOf H5.out.box 4
          go_wp2_with (refine wpList_store_blk rfl 25 _ _ rfl w.heap.size 0 25 #[.int .i64 0, .int .i64 0, .int .i64 0, .int .i64 0, .slice none 0 0] #[.int .i64 code, .int .i64 e.1, .int .i64 e.2.1, .int .i64 e.2.2, .slice a text.length cap] #[.int .i64 code, .int .i64 e.1, .int .i64 e.2.1, .int .i64 e.2.2, .slice a text.length cap] rfl rfl H5.out.res size_rep (by kernel_rfl) (Nat.le_of_eq rfl) (by kernel_rfl) ?_; intro w9 hB9 hA9)
          have hBL := H5.out.below.trans (hA9.below H5.out.below.size (Nat.le_refl _))
          exact bodyPost_ret (v := .tuple #[RV code e (.slice a text.length cap), .int .i64 0]) (ans_rep2 rfl rfl rfl hB9) rfl ⟨_, by rw [HR0.out], by rw [HR0.out]; exact HT.out _ hBL, hBL⟩
        · have HR0 := Lib.hid (show rpOf code word text = ⟨rp0, rpRight ⟨code, e, text⟩⟩ by rw [HW.out, if_neg hr0])
          have d1 : (rpRight ⟨code, e, text⟩ != 0) = true := bne_iff_ne.2 hr0
          generalize rpRight ⟨code, e, text⟩ = q at HR0 d1 ⊢
          clear hr0
          go_wp2_with (refine wpList_store_blk rfl 25 _ _ rfl w.heap.size 0 25 #[.int .i64 0, .int .i64 0, .int .i64 0, .int .i64 0, .slice none 0 0] #[.int .i64 0, .int .i64 0, .int .i64 0, .int .i64 0, .slice none 0 0] #[.int .i64 0, .int .i64 0, .int .i64 0, .int .i64 0, .slice none 0 0] rfl rfl H5.out.res size_rep (by kernel_rfl) (Nat.le_of_eq rfl) (by kernel_rfl) ?_; intro w9 hB9 hA9)
          exact bodyPost_ret (v := .tuple #[.agg #[.int .i64 0, .int .i64 0, .int .i64 0, .int .i64 0, .slice none 0 0], .int .i64 q]) (ans_rep2 (c := 0) (e := rpE0) rfl rfl rfl hB9) rfl (of_err HR0.out (H5.out.below.trans (hA9.below H5.out.below.size (Nat.le_refl _))))
      · have HW := Lib.hid (show rpOf code word text = ⟨rp0, 2⟩ by rw [HV.out, rpWant, if_neg hwd, HFW.out]; simp only [if_neg hre])
        have hem2 : rr.isEmpty = false := by cases h : rr with | nil => exact absurd h hre | cons => rfl
        have hde2 : decide (rr = []) = false := decide_eq_false hre
        clear hwd hre HFW
        go_enter Tryd.func22, Tryd.ntmps22
        go_wp2_with fail
        refine (HRd.out _).mono ?_
        rintro x w2 ⟨rfl, hb2⟩
        have H3 := Lib.hid ((HO.out.next hb2).next (below_box w2 (.cells #[.int .i64 e.1, .int .i64 e.2.1, .int .i64 e.2.2] 23)))
        clear hb2
        go_wp2_with (refine wpList_store_blk rfl 25 _ _ rfl w.heap.size 0 25 #[.int .i64 0, .int .i64 0, .int .i64 0, .int .i64 0, .slice none 0 0] #[.int .i64 0, .int .i64 0, .int .i64 0, .int .i64 0, .slice none 0 0] #[.int .i64 0, .int .i64 0, .int .i64 0, .int .i64 0, .slice none 0 0] rfl rfl H3.out.res size_rep (by kernel_rfl) (Nat.le_of_eq rfl) (by kernel_rfl) ?_; intro w9 hB9 hA9)
        exact bodyPost_ret (v := .tuple #[.agg #[.int .i64 0, .int .i64 0, .int .i64 0, .int .i64 0, .slice none 0 0], .int .i64 2]) (ans_rep2 (c := 0) (e := rpE0) rfl rfl rfl hB9) rfl (of_err HW.out (H3.out.below.trans (hA9.below H3.out.below.size (Nat.le_refl _))))
end Go.Proofs.YtleahchplebdgaaDoor
