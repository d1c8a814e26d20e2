/-
  The walk of Of: a reply made of its parts.
-/
import Derived.Test.YtdcakmamdabiaaaDoorRpParse
import Derived.Test.YtdcakmamdabiaaaDoorRpRight
namespace Go.Proofs.YtdcakmamdabiaaaDoor
set_option maxRecDepth 100000
open Go.RowKit
/-- A reply and a number, read off its box. -/
theorem ans_rep2 {fn : Func} {p u : Tmp} (hf : fn.results = #[.cell p 25, .tmp u]) {tmps : Array Value} {w : World} {g : Nat} {c : Int} {e : E3} {v a : Value} (hp : tmps.getD p undef = .pointer (some ⟨g, 0, none⟩)) (hu : tmps.getD u undef = a)
    (hb : w.heap[g]? = some (.cells #[.int .i64 c, .int .i64 e.1, .int .i64 e.2.1, .int .i64 e.2.2, v] 25 (0, 0))) : (results fn tmps).run Tryd.prog w = .ok (.tuple #[RV c e v, a]) w := by
  have hl := loadVar_blk (P := Tryd.prog) (ty := 25) (o := 0) (vs := #[.int .i64 c, .int .i64 e.1, .int .i64 e.2.1, .int .i64 e.2.2, v]) hb Tryd.underlying25 rfl size_rep (fun j _ => by rw [Nat.zero_add])
  rw [results_cell_tmp hf, hp, hu]
  simp [asAddr, Result.andThen, hl]
def OfPost (code : Int) (word : Txt) (text : List Txt) (w : World) (x : Ending) (w' : World) : Prop := ∃ v, x = .returned (.tuple #[RV (rpOf code word text).r.code (rpOf code word text).r.e v, .int .i64 (rpOf code word text).err]) ∧ TxtsAt w' v (rpOf code word text).r.text ∧ Below w.heap.size w w'
theorem of_err {code : Int} {word : Txt} {text : List Txt} {w w' : World} {n : Int} (h : rpOf code word text = ⟨rp0, n⟩) (hb : Below w.heap.size w w') : OfPost code word text w (.returned (.tuple #[RV 0 rpE0 (.slice none 0 0), .int .i64 n])) w' := ⟨_, by rw [h]; rfl, by rw [h]; exact txts_nil w', hb⟩
/-- The box of what is answered, and that of what is made. -/
structure OS (W : World) (c : Int) (e : E3) (v : Value) (w : World) : Prop where
  res : w.heap[W.heap.size]? = some (.cells #[.int .i64 0, .int .i64 0, .int .i64 0, .int .i64 0, .slice none 0 0] 25 (0, 0))
  box : w.heap[W.heap.size + 1]? = some (.cells #[.int .i64 c, .int .i64 e.1, .int .i64 e.2.1, .int .i64 e.2.2, v] 25 (0, 0))
  below : Below W.heap.size W w
theorem OS.next {W w w' : World} {c : Int} {e : E3} {v : Value} (h : OS W c e v w) (hb : Below w.heap.size w w') : OS W c e v w' := ⟨(hb.block _ (ltOf h.res)).trans h.res, (hb.block _ (ltOf h.box)).trans h.box, below_next h.below hb⟩
theorem OS.new (W : World) (c : Int) (v : Value) : OS W c rpE0 v ((W.alloc (.cells #[.int .i64 0, .int .i64 0, .int .i64 0, .int .i64 0, .slice none 0 0] 25)).alloc (.cells #[.int .i64 c, .int .i64 0, .int .i64 0, .int .i64 0, v] 25)) := by
  have hb1 := below_box W (.cells #[.int .i64 0, .int .i64 0, .int .i64 0, .int .i64 0, .slice none 0 0] 25)
  have n1 := newOf W (.cells #[.int .i64 0, .int .i64 0, .int .i64 0, .int .i64 0, .slice none 0 0] 25)
  generalize hw1 : W.alloc (.cells #[.int .i64 0, .int .i64 0, .int .i64 0, .int .i64 0, .slice none 0 0] 25) = w1 at hb1 n1
  have hs1 : w1.heap.size = W.heap.size + 1 := by rw [← hw1]; simp
  have n2 := newOf w1 (.cells #[.int .i64 c, .int .i64 0, .int .i64 0, .int .i64 0, v] 25)
  rw [hs1] at n2
  have hb2 := below_box w1 (.cells #[.int .i64 c, .int .i64 0, .int .i64 0, .int .i64 0, v] 25)
  exact ⟨(hb2.block _ (by omega)).trans n1, n2, below_next hb1 hb2⟩
theorem OS.put {W w w' : World} {c : Int} {e e' : E3} {v v' : Value} (h : OS W c e v w) (hb : w'.heap[W.heap.size + 1]? = some (.cells #[.int .i64 c, .int .i64 e'.1, .int .i64 e'.2.1, .int .i64 e'.2.2, v'] 25 (0, 0))) (ha : Apart (W.heap.size + 1) w.heap.size w w') : OS W c e' v' w' :=
  ⟨(ha.block _ (ltOf h.res) (by omega)).trans h.res, hb, h.below.trans (ha.below h.below.size (by omega))⟩
set_option maxHeartbeats 8000000 in
theorem of_x (code : Int) (word : Txt) (text : List Txt) (v : Value) (w : World) (hR : Ready w) (hc : I64 code) (hw : word.length ≤ 1000000) (hv : TxtsAt w v text) (hn : text.length ≤ 100000) (hz : ∀ t ∈ text, t.length ≤ 1000000) :
    Calls Tryd.prog 17 #[.int .i64 code, .string (mkS word), v] w (OfPost code word text w) := by
  have HV := Lib.hid (show rpOf code word text = match rpWant word code with | none => ⟨rp0, 2⟩ | some e => if rpRight ⟨code, e, text⟩ = 0 then ⟨⟨code, e, text⟩, 0⟩ else ⟨rp0, rpRight ⟨code, e, text⟩⟩ from rfl)
  have HRt := Lib.hid (fun (e : E3) (he : RI code e) (w' : World) (hb : Below w.heap.size w w') => right_x ⟨code, e, text⟩ v he w' (ready_below hR hb) (hv.below hb) (Nat.le_trans hn (by decide)) (fun t ht => Nat.le_trans (hz t ht) (by decide)))
  have HCl := Lib.hid (fun (w' : World) (hb : Below w.heap.size w w') => clones_x text v w' (hv.below hb) hn (fun t ht => Nat.le_trans (hz t ht) (by decide)))
  have HNum := Lib.hid (fun w => nums_x word code w hw)
  unfold NumsPost at HNum
  have HI := Lib.hid hc
  obtain ⟨a, cap, rfl, hcp⟩ := id hv
  have HO := Lib.hid (OS.new w code (.slice a text.length cap))
  have hs1 : (w.alloc (.cells #[.int .i64 0, .int .i64 0, .int .i64 0, .int .i64 0, .slice none 0 0] 25)).heap.size = w.heap.size + 1 := by simp
  have hT := mkS_toList word
  clear hcp hR hc hw hv hn hz
  by_cases hwd : word = []
  · obtain ⟨e, he⟩ : ∃ e, rpE0 = e := ⟨_, rfl⟩
    have HW := Lib.hid (show rpOf code word text = if rpRight ⟨code, e, text⟩ = 0 then ⟨⟨code, e, text⟩, 0⟩ else ⟨rp0, rpRight ⟨code, e, text⟩⟩ by rw [HV.out, rpWant, if_pos hwd, ← he])
    have HRight := Lib.hid (HRt.out e (by rw [← he]; exact ⟨HI.out, ⟨by decide, by decide⟩, ⟨by decide, by decide⟩, ⟨by decide, by decide⟩⟩))
    rw [he] at HO
    have hem : word.isEmpty = true := by rw [hwd]; rfl
    have hde : decide (word = []) = true := decide_eq_true hwd
    clear hwd
    have k0 := cellOf HO.out.box 0
    have k1 := cellOf HO.out.box 1
    have k2 := cellOf HO.out.box 2
    have k3 := cellOf HO.out.box 3
    have k4 := cellOf HO.out.box 4
    go_enter Tryd.func17, Tryd.ntmps17
    go_wp2_with fail
    refine (HRight.out _ HO.out.below).mono ?_
    rintro x w5 ⟨rfl, hb5⟩
    have H5 := Lib.hid (HO.out.next hb5)
    clear hb5 k0 k1 k2 k3 k4
    by_cases hr0 : rpRight ⟨code, e, text⟩ = 0
    · have HR0 := Lib.hid (show rpOf code word text = ⟨⟨code, e, text⟩, 0⟩ by rw [HW.out, if_pos hr0])
      rw [hr0]
      clear hr0
      go_wp2_with fail
      refine (HCl.out _ H5.out.below).mono ?_
      rintro x w6 ⟨v6, rfl, hT6, hb6, hge6⟩
      obtain ⟨A6, cap6, rfl, _⟩ := id hT6
      have H6 := Lib.hid (H5.out.next hb6)
      have HT6 := Lib.hid hT6
      have HG6 := Lib.hid (show ∀ ad, A6 = some ad → w.heap.size + 1 < ad.block from fun A e => by subst e; have h1 := hge6 A _ _ rfl; have h2 := ltOf H5.out.box; omega)
      clear hT6 hb6 hge6
      have HA7 := Lib.hid (show Apart (w.heap.size + 1) w6.heap.size w6 (w6.setCell ⟨w.heap.size + 1, 4, none⟩ (.slice A6 text.length cap6)) from (Apart.refl _ _ _).set 4 _)
      have H7 := Lib.hid (OS.put (e' := e) (v' := .slice A6 text.length cap6) H6.out (setOf H6.out.box 4 _) HA7.out)
      have c4 := cellOf H6.out.box 4
      have f4 := freeOf H6.out.box 4
      have k0 := cellOf H7.out.box 0
      have k1 := cellOf H7.out.box 1
      have k2 := cellOf H7.out.box 2
      have k3 := cellOf H7.out.box 3
      have k4 := cellOf H7.out.box 4
      go_wp2_with (refine wpList_store_blk rfl 25 _ _ rfl w.heap.size 0 25 #[.int .i64 0, .int .i64 0, .int .i64 0, .int .i64 0, .slice none 0 0] #[.int .i64 code, .int .i64 e.1, .int .i64 e.2.1, .int .i64 e.2.2, .slice A6 text.length cap6] #[.int .i64 code, .int .i64 e.1, .int .i64 e.2.1, .int .i64 e.2.2, .slice A6 text.length cap6] rfl rfl H7.out.res size_rep (by kernel_rfl) (Nat.le_of_eq rfl) (by kernel_rfl) ?_; intro w9 hB9 hA9)
      refine bodyPost_ret (v := .tuple #[RV code e (.slice A6 text.length cap6), .int .i64 0]) (ans_rep2 rfl rfl rfl hB9) rfl ?_
      refine ⟨_, by rw [HR0.out], by rw [HR0.out]; exact (HT6.out.apart' HA7.out (fun ad e => Nat.ne_of_gt (HG6.out ad e))).apart' hA9 (fun ad e => by have := HG6.out ad e; omega), H7.out.below.trans (hA9.below H7.out.below.size (Nat.le_refl _))⟩
    · have HR0 := Lib.hid (show rpOf code word text = ⟨rp0, rpRight ⟨code, e, text⟩⟩ by rw [HW.out, if_neg hr0])
      have d1 : (rpRight ⟨code, e, text⟩ != 0) = true := bne_iff_ne.2 hr0
      generalize rpRight ⟨code, e, text⟩ = q at HR0 d1 ⊢
      clear hr0
      go_wp2_with (refine wpList_store_blk rfl 25 _ _ rfl w.heap.size 0 25 #[.int .i64 0, .int .i64 0, .int .i64 0, .int .i64 0, .slice none 0 0] #[.int .i64 0, .int .i64 0, .int .i64 0, .int .i64 0, .slice none 0 0] #[.int .i64 0, .int .i64 0, .int .i64 0, .int .i64 0, .slice none 0 0] rfl rfl H5.out.res size_rep (by kernel_rfl) (Nat.le_of_eq rfl) (by kernel_rfl) ?_; intro w9 hB9 hA9)
      exact bodyPost_ret (v := .tuple #[.agg #[.int .i64 0, .int .i64 0, .int .i64 0, .int .i64 0, .slice none 0 0], .int .i64 q]) (ans_rep2 (c := 0) (e := rpE0) rfl rfl rfl hB9) rfl (of_err HR0.out (H5.out.below.trans (hA9.below H5.out.below.size (Nat.le_refl _))))
  · have hem : word.isEmpty = false := by cases h : word with | nil => exact absurd h hwd | cons => rfl
    have hde : decide (word = []) = false := decide_eq_false hwd
    cases hen : rpEnc word code with
    | none =>
      have HW := Lib.hid (show rpOf code word text = ⟨rp0, 2⟩ by rw [HV.out, rpWant, if_neg hwd, hen])
      rw [hen, Option.isSome_none] at HNum
      clear hwd hen
      generalize encE word code = en at HNum
      go_enter Tryd.func17, Tryd.ntmps17
      go_wp2_with fail
      refine (HNum.out _).mono ?_
      rintro x w2 ⟨rfl, hb2⟩
      have H3 := Lib.hid ((HO.out.next hb2).next (below_box w2 (.cells #[.int .i64 en.1, .int .i64 en.2.1, .int .i64 en.2.2] 23)))
      clear hb2
      go_wp2_with (refine wpList_store_blk rfl 25 _ _ rfl w.heap.size 0 25 #[.int .i64 0, .int .i64 0, .int .i64 0, .int .i64 0, .slice none 0 0] #[.int .i64 0, .int .i64 0, .int .i64 0, .int .i64 0, .slice none 0 0] #[.int .i64 0, .int .i64 0, .int .i64 0, .int .i64 0, .slice none 0 0] rfl rfl H3.out.res size_rep (by kernel_rfl) (Nat.le_of_eq rfl) (by kernel_rfl) ?_; intro w9 hB9 hA9)
      exact bodyPost_ret (v := .tuple #[.agg #[.int .i64 0, .int .i64 0, .int .i64 0, .int .i64 0, .slice none 0 0], .int .i64 2]) (ans_rep2 (c := 0) (e := rpE0) rfl rfl rfl hB9) rfl (of_err HW.out (H3.out.below.trans (hA9.below H3.out.below.size (Nat.le_refl _))))
    | some e =>
      have HW := Lib.hid (show rpOf code word text = if rpRight ⟨code, e, text⟩ = 0 then ⟨⟨code, e, text⟩, 0⟩ else ⟨rp0, rpRight ⟨code, e, text⟩⟩ by rw [HV.out, rpWant, if_neg hwd, hen])
      have HRight := Lib.hid (HRt.out e (by
        obtain ⟨h1, h2, h3, h4, h5⟩ := bel_parts (enc_bel hen)
        simp only [rpIn, Bool.and_eq_true, decide_eq_true_eq] at h3 h4 h5
        exact ⟨HI.out, ⟨by omega, by omega⟩, ⟨by omega, by omega⟩, ⟨by omega, by omega⟩⟩))
      rw [show encE word code = e by rw [encE, hen]; rfl, hen, Option.isSome_some] at HNum
      clear hwd hen
      go_enter Tryd.func17, Tryd.ntmps17
      go_wp2_with fail
      refine (HNum.out _).mono ?_
      rintro x w2 ⟨rfl, hb2⟩
      have H3 := Lib.hid ((HO.out.next hb2).next (below_box w2 (.cells #[.int .i64 e.1, .int .i64 e.2.1, .int .i64 e.2.2] 23)))
      clear hb2
      go_wp2_with (refine wpList_store_blk rfl 23 _ _ rfl (w.heap.size + 1) 1 25 #[.int .i64 code, .int .i64 0, .int .i64 0, .int .i64 0, .slice a text.length cap] #[.int .i64 e.1, .int .i64 e.2.1, .int .i64 e.2.2] #[.int .i64 code, .int .i64 e.1, .int .i64 e.2.1, .int .i64 e.2.2, .slice a text.length cap] rfl rfl H3.out.box size_arr (one_arr _ _ _) (by simp) (by kernel_rfl) ?_; intro w4 hB4 hA4; have H4 := Lib.hid (H3.out.put (e' := e) (v' := .slice a text.length cap) hB4 hA4); have k0 := cellOf H4.out.box 0; have k1 := cellOf H4.out.box 1; have k2 := cellOf H4.out.box 2; have k3 := cellOf H4.out.box 3; have k4 := cellOf H4.out.box 4)
      refine (HRight.out _ H4.out.below).mono ?_
      rintro x w5 ⟨rfl, hb5⟩
      have H5 := Lib.hid (H4.out.next hb5)
      clear hb5 k0 k1 k2 k3 k4
      by_cases hr0 : rpRight ⟨code, e, text⟩ = 0
      · have HR0 := Lib.hid (show rpOf code word text = ⟨⟨code, e, text⟩, 0⟩ by rw [HW.out, if_pos hr0])
        rw [hr0]
        clear hr0
        go_wp2_with fail
        refine (HCl.out _ H5.out.below).mono ?_
        rintro x w6 ⟨v6, rfl, hT6, hb6, hge6⟩
        obtain ⟨A6, cap6, rfl, _⟩ := id hT6
        have H6 := Lib.hid (H5.out.next hb6)
        have HT6 := Lib.hid hT6
        have HG6 := Lib.hid (show ∀ ad, A6 = some ad → w.heap.size + 1 < ad.block from fun A e => by subst e; have h1 := hge6 A _ _ rfl; have h2 := ltOf H5.out.box; omega)
        clear hT6 hb6 hge6
        have HA7 := Lib.hid (show Apart (w.heap.size + 1) w6.heap.size w6 (w6.setCell ⟨w.heap.size + 1, 4, none⟩ (.slice A6 text.length cap6)) from (Apart.refl _ _ _).set 4 _)
        have H7 := Lib.hid (OS.put (e' := e) (v' := .slice A6 text.length cap6) H6.out (setOf H6.out.box 4 _) HA7.out)
        have c4 := cellOf H6.out.box 4
        have f4 := freeOf H6.out.box 4
        have k0 := cellOf H7.out.box 0
        have k1 := cellOf H7.out.box 1
        have k2 := cellOf H7.out.box 2
        have k3 := cellOf H7.out.box 3
        have k4 := cellOf H7.out.box 4
        go_wp2_with (refine wpList_store_blk rfl 25 _ _ rfl w.heap.size 0 25 #[.int .i64 0, .int .i64 0, .int .i64 0, .int .i64 0, .slice none 0 0] #[.int .i64 code, .int .i64 e.1, .int .i64 e.2.1, .int .i64 e.2.2, .slice A6 text.length cap6] #[.int .i64 code, .int .i64 e.1, .int .i64 e.2.1, .int .i64 e.2.2, .slice A6 text.length cap6] rfl rfl H7.out.res size_rep (by kernel_rfl) (Nat.le_of_eq rfl) (by kernel_rfl) ?_; intro w9 hB9 hA9)
        refine bodyPost_ret (v := .tuple #[RV code e (.slice A6 text.length cap6), .int .i64 0]) (ans_rep2 rfl rfl rfl hB9) rfl ?_
        refine ⟨_, by rw [HR0.out], by rw [HR0.out]; exact (HT6.out.apart' HA7.out (fun ad e => Nat.ne_of_gt (HG6.out ad e))).apart' hA9 (fun ad e => by have := HG6.out ad e; omega), H7.out.below.trans (hA9.below H7.out.below.size (Nat.le_refl _))⟩
      · have HR0 := Lib.hid (show rpOf code word text = ⟨rp0, rpRight ⟨code, e, text⟩⟩ by rw [HW.out, if_neg hr0])
        have d1 : (rpRight ⟨code, e, text⟩ != 0) = true := bne_iff_ne.2 hr0
        generalize rpRight ⟨code, e, text⟩ = q at HR0 d1 ⊢
        clear hr0
        go_wp2_with (refine wpList_store_blk rfl 25 _ _ rfl w.heap.size 0 25 #[.int .i64 0, .int .i64 0, .int .i64 0, .int .i64 0, .slice none 0 0] #[.int .i64 0, .int .i64 0, .int .i64 0, .int .i64 0, .slice none 0 0] #[.int .i64 0, .int .i64 0, .int .i64 0, .int .i64 0, .slice none 0 0] rfl rfl H5.out.res size_rep (by kernel_rfl) (Nat.le_of_eq rfl) (by kernel_rfl) ?_; intro w9 hB9 hA9)
        exact bodyPost_ret (v := .tuple #[.agg #[.int .i64 0, .int .i64 0, .int .i64 0, .int .i64 0, .slice none 0 0], .int .i64 q]) (ans_rep2 (c := 0) (e := rpE0) rfl rfl rfl hB9) rfl (of_err HR0.out (H5.out.below.trans (hA9.below H5.out.below.size (Nat.le_refl _))))
end Go.Proofs.YtdcakmamdabiaaaDoor
