/-
  The walk of parted: the enhanced code at the front of all texts.
-/
import Derived.Test.YtdcakmamdabiaaaDoorRpClones
namespace Go.Proofs.YtdcakmamdabiaaaDoor
set_option maxRecDepth 100000
open Go.RowKit
theorem part_bad {code : Int} {ts : List Txt} {t : Txt} (ht : t ∈ ts) (h : rpFront code t = none) : rpPart code ts = (rpE0, ts) := by
  cases ts with
  | nil => rfl
  | cons a r =>
    rw [rpPart]
    split
    · rfl
    · rename_i e he
      rw [if_neg]
      intro hall
      have := (List.all_eq_true.1 hall) t ht
      rw [h] at this
      simp at this
theorem part_diff {code : Int} {ts : List Txt} {t0 t : Txt} {e0 e : E3} (h0 : ts[0]? = some t0) (hf0 : rpFront code t0 = some e0) (ht : t ∈ ts) (h : rpFront code t = some e) (hne : (e == e0) = false) : rpPart code ts = (rpE0, ts) := by
  cases ts with
  | nil => rfl
  | cons a r =>
    simp at h0
    subst h0
    rw [rpPart, hf0]
    show (if _ then _ else _) = _
    rw [if_neg]
    intro hall
    have := (List.all_eq_true.1 hall) t ht
    rw [h] at this
    have e1 : e = e0 := by simpa using this
    rw [e1] at hne
    simp at hne
theorem part_all {code : Int} {ts : List Txt} {e : E3} (h : ∀ t ∈ ts, rpFront code t = some e) (h0 : ts = [] → e = rpE0) : rpPart code ts = (e, ts.map (postC 32)) := by
  cases ts with
  | nil => rw [h0 rfl]; rfl
  | cons a r =>
    rw [rpPart, h a (by simp)]
    show (if _ then _ else _) = _
    rw [if_pos]
    exact List.all_eq_true.2 fun t ht => by rw [h t ht]; simp
/-- The box of what is answered, that of the code which all texts share, and the rests. -/
structure PT (W : World) (g n k : Nat) (sh : E3) (l : List Txt) (w : World) : Prop where
  res : w.heap[W.heap.size]? = some (.cells #[.int .i64 0, .int .i64 0, .int .i64 0] 23 (0, 0))
  shr : w.heap[W.heap.size + 1]? = some (.cells #[.int .i64 sh.1, .int .i64 sh.2.1, .int .i64 sh.2.2] 23 (0, 0))
  fr : FR W g n k l w
  hg : W.heap.size + 1 < g
section
variable {W w w' : World} {g n k : Nat} {sh : E3} {l : List Txt}
theorem PT.next (h : PT W g n k sh l w) (hb : Below w.heap.size w w') : PT W g n k sh l w' := ⟨(hb.block _ (ltOf h.res)).trans h.res, (hb.block _ (ltOf h.shr)).trans h.shr, h.fr.next hb, h.hg⟩
theorem PT.share {e : E3} (h : PT W g n k sh l w) (hb : w'.heap[W.heap.size + 1]? = some (.cells #[.int .i64 e.1, .int .i64 e.2.1, .int .i64 e.2.2] 23 (0, 0))) (ha : Apart (W.heap.size + 1) w.heap.size w w') : PT W g n k e l w' := by
  obtain ⟨cur, h1, h2, h3⟩ := h.fr.row
  have hg := h.hg
  exact ⟨(ha.block _ (ltOf h.res) (by omega)).trans h.res, hb, ⟨⟨cur, (ha.block _ (ltOf h1) (by omega)).trans h1, h2, h3⟩, h.fr.below.trans (ha.below h.fr.below.size (by omega)), h.fr.ge⟩, hg⟩
theorem PT.put {t : Txt} (h : PT W g n k sh l w) (hk : k < n) (ht : l[k]? = some t) : PT W g n (k + 1) sh l (w.setCell ⟨g, k, none⟩ (.string (mkS t))) := by
  have hg := h.hg
  exact ⟨(Below.heap_setCell w ⟨g, k, none⟩ _ _ (by show W.heap.size ≠ g; omega)).trans h.res, (Below.heap_setCell w ⟨g, k, none⟩ _ _ (by show W.heap.size + 1 ≠ g; omega)).trans h.shr, h.fr.set hk ht, hg⟩
theorem PT.new (n : Nat) (l : List Txt) : PT W (W.heap.size + 2) n 0 rpE0 l (((W.alloc (.cells #[.int .i64 0, .int .i64 0, .int .i64 0] 23)).alloc (.cells #[.int .i64 0, .int .i64 0, .int .i64 0] 23)).alloc (.cells (madeCells #[.string { data := #[] }] n) 9)) := by
  have hb1 := below_box W (.cells #[.int .i64 0, .int .i64 0, .int .i64 0] 23)
  have n1 := newOf W (.cells #[.int .i64 0, .int .i64 0, .int .i64 0] 23)
  generalize hw1 : W.alloc (.cells #[.int .i64 0, .int .i64 0, .int .i64 0] 23) = w1 at hb1 n1
  have hs1 : w1.heap.size = W.heap.size + 1 := by rw [← hw1]; simp
  have hb2 := below_box w1 (.cells #[.int .i64 0, .int .i64 0, .int .i64 0] 23)
  have n2 := newOf w1 (.cells #[.int .i64 0, .int .i64 0, .int .i64 0] 23)
  rw [hs1] at n2
  generalize hw2 : w1.alloc (.cells #[.int .i64 0, .int .i64 0, .int .i64 0] 23) = w2 at hb2 n2
  have hs2 : w2.heap.size = W.heap.size + 2 := by rw [← hw2]; simp [hs1]
  have hb3 := below_box w2 (.cells (madeCells #[.string { data := #[] }] n) 9)
  have hf := FR.new (W := W) n l (below_next hb1 hb2)
  rw [hs2] at hf
  refine ⟨?_, ?_, hf, by omega⟩
  · exact (hb3.block _ (by omega)).trans ((hb2.block _ (by omega)).trans n1)
  · exact (hb3.block _ (by omega)).trans n2
end
def PartPost (code : Int) (ts : List Txt) (w : World) (e : Ending) (w' : World) : Prop := ∃ v', e = .returned (.tuple #[EV (rpPart code ts).1, v']) ∧ TxtsAt w' v' (rpPart code ts).2 ∧ Below w.heap.size w w'
theorem part_no {code : Int} {ts : List Txt} {v : Value} {w w' : World} (h : rpPart code ts = (rpE0, ts)) (hT : TxtsAt w' v ts) (hb : Below w.heap.size w w') : PartPost code ts w (.returned (.tuple #[.agg #[.int .i64 0, .int .i64 0, .int .i64 0], v])) w' :=
  ⟨v, by rw [h]; rfl, by rw [h]; exact hT, hb⟩
theorem part_yes {code : Int} {ts : List Txt} {v : Value} {w w' : World} {e : E3} (h : rpPart code ts = (e, ts.map (postC 32))) (hT : TxtsAt w' v (ts.map (postC 32))) (hb : Below w.heap.size w w') : PartPost code ts w (.returned (.tuple #[.agg #[.int .i64 e.1, .int .i64 e.2.1, .int .i64 e.2.2], v])) w' :=
  ⟨v, by rw [h], by rw [h]; exact hT, hb⟩
set_option maxHeartbeats 4000000 in
theorem parted_x (code : Int) (ts : List Txt) (v : Value) (w : World) (hv : TxtsAt w v ts) (hn : ts.length ≤ 100000) (hz : ∀ t ∈ ts, t.length ≤ 1000000) :
    Calls Tryd.prog 41 #[.int .i64 code, v] w (PartPost code ts w) := by
  have HT := Lib.hid (fun (w' : World) (hb : Below w.heap.size w w') => hv.below hb)
  obtain ⟨a, cap, rfl, _, _, hc⟩ := hv
  have HC := Lib.hid hc
  have HZ := Lib.hid hz
  have HP0 := Lib.hid (PT.new (W := w) ts.length (ts.map (postC 32)))
  have HM := Lib.hid (make_txts ts.length (by omega))
  have hmk := HM.out ((w.alloc (.cells #[.int .i64 0, .int .i64 0, .int .i64 0] 23)).alloc (.cells #[.int .i64 0, .int .i64 0, .int .i64 0] 23))
  have hs2 : ((w.alloc (.cells #[.int .i64 0, .int .i64 0, .int .i64 0] 23)).alloc (.cells #[.int .i64 0, .int .i64 0, .int .i64 0] 23)).heap.size = w.heap.size + 2 := by simp
  have hs1 : (w.alloc (.cells #[.int .i64 0, .int .i64 0, .int .i64 0] 23)).heap.size = w.heap.size + 1 := by simp
  rw [hs2] at hmk
  clear hc hz hs2 hs1
  go_enter Tryd.func41, Tryd.ntmps41
  go_wp2_with fail
  clear hmk
  go_loopw [20] (fun i wr => ∃ k : Nat, k ≤ ts.length ∧ i = .int .i64 k ∧ ∃ sh : E3, Hid (PT w (w.heap.size + 2) ts.length k sh (ts.map (postC 32)) wr) ∧ Hid (∀ t ∈ ts.take k, rpFront code t = some sh) ∧ Hid (k = 0 → sh = rpE0)) (fun i _ => ts.length - (intOf i).toNat)
  case atStart => exact ⟨0, Nat.zero_le _, rfl, rpE0, HP0, Lib.hid (by simp), Lib.hid (fun _ => rfl)⟩
  case round =>
    obtain ⟨k, hk, rfl, sh, HP, HJ, H0⟩ := hrel
    by_cases hlt : k < ts.length
    · obtain ⟨t, ht⟩ : ∃ t, ts[k]? = some t := ⟨_, List.getElem?_eq_getElem hlt⟩
      obtain ⟨ad, rfl, hab, hcw⟩ := HC.out k t ht
      have hcl : wr.cell? (ad.add k) = some (.string (mkS t)) := (HP.out.fr.below.cell (by rw [add_block]; exact hab)).trans hcw
      have htl := HZ.out t (List.mem_of_getElem? ht)
      have HCut := Lib.hid (fun w => cut_x 32 t w (by omega))
      have HNum := Lib.hid (fun w => nums_x (preC 32 t) code w (by have := pre_le 32 t; omega))
      have HF := Lib.hid (show rpFront code t = if hasC 32 t then rpEnc (preC 32 t) code else none from rfl)
      have HTK := Lib.hid ht
      have HPost := Lib.hid (show (ts.map (postC 32))[k]? = some (postC 32 t) by rw [List.getElem?_map, ht]; rfl)
      unfold NumsPost at HNum
      obtain ⟨en, hen0⟩ : ∃ en, encE (preC 32 t) code = en := ⟨_, rfl⟩
      have HENC := Lib.hid hen0
      rw [hen0] at HNum
      clear hen0
      clear ht hcw hab htl
      cases hq : hasC 32 t
      · have HE := Lib.hid (part_bad (code := code) (List.mem_of_getElem? HTK.out) (by rw [HF.out, hq]; rfl))
        rw [hq] at HCut
        clear hq
        generalize (rpEnc (preC 32 t) code).isSome = qs at HNum
        go_wp2_with fail
        refine (HCut.out _).mono ?_
        rintro x w1 ⟨rfl, n, rfl⟩
        have HP1 := Lib.hid (HP.out.next (below_drewN (Below.refl _ _) n))
        clear hcl
        go_wp2_with fail
        refine (HNum.out _).mono ?_
        rintro x w2 ⟨rfl, hb2⟩
        have HP3 := Lib.hid ((HP1.out.next hb2).next (below_box w2 (.cells #[.int .i64 en.1, .int .i64 en.2.1, .int .i64 en.2.2] 23)))
        clear hb2
        go_wp2_with (refine wpList_store_blk rfl 23 _ _ rfl w.heap.size 0 23 #[.int .i64 0, .int .i64 0, .int .i64 0] #[.int .i64 0, .int .i64 0, .int .i64 0] #[.int .i64 0, .int .i64 0, .int .i64 0] rfl rfl HP3.out.res size_arr (one_arr _ _ _) (Nat.le_of_eq rfl) (whole_arr 0 0 0 0 0 0) ?_; intro w4 hB4 hA4)
        have hb4 := HP3.out.fr.below.trans (hA4.below HP3.out.fr.below.size (Nat.le_refl _))
        exact bodyPost_ret (v := .tuple #[.agg #[.int .i64 0, .int .i64 0, .int .i64 0], .slice (some ad) ts.length cap]) (ans_arr rfl rfl rfl hB4) rfl (part_no HE.out (HT.out _ hb4) hb4)
      · rw [hq] at HCut HF
        rw [if_pos rfl] at HF
        clear hq
        cases hen : rpEnc (preC 32 t) code with
        | none =>
          have HE := Lib.hid (part_bad (code := code) (List.mem_of_getElem? HTK.out) (by rw [HF.out, hen]))
          rw [hen, Option.isSome_none] at HNum
          clear hen
          go_wp2_with fail
          refine (HCut.out _).mono ?_
          rintro x w1 ⟨rfl, n, rfl⟩
          have HP1 := Lib.hid (HP.out.next (below_drewN (Below.refl _ _) n))
          clear hcl
          go_wp2_with fail
          refine (HNum.out _).mono ?_
          rintro x w2 ⟨rfl, hb2⟩
          have HP3 := Lib.hid ((HP1.out.next hb2).next (below_box w2 (.cells #[.int .i64 en.1, .int .i64 en.2.1, .int .i64 en.2.2] 23)))
          clear hb2
          go_wp2_with (refine wpList_store_blk rfl 23 _ _ rfl w.heap.size 0 23 #[.int .i64 0, .int .i64 0, .int .i64 0] #[.int .i64 0, .int .i64 0, .int .i64 0] #[.int .i64 0, .int .i64 0, .int .i64 0] rfl rfl HP3.out.res size_arr (one_arr _ _ _) (Nat.le_of_eq rfl) (whole_arr 0 0 0 0 0 0) ?_; intro w4 hB4 hA4)
          have hb4 := HP3.out.fr.below.trans (hA4.below HP3.out.fr.below.size (Nat.le_refl _))
          exact bodyPost_ret (v := .tuple #[.agg #[.int .i64 0, .int .i64 0, .int .i64 0], .slice (some ad) ts.length cap]) (ans_arr rfl rfl rfl hB4) rfl (part_no HE.out (HT.out _ hb4) hb4)
        | some e1 =>
          have HEN := Lib.hid (show rpFront code t = some en by rw [HF.out, hen]; exact congrArg some (by rw [← HENC.out, encE, hen]; rfl))
          rw [hen, Option.isSome_some] at HNum
          clear hen
          by_cases hk0 : k = 0
          · have HJ1 := Lib.hid (show ∀ u ∈ ts.take (k + 1), rpFront code u = some en from fun u hu => by
              subst hk0
              obtain ⟨i, hi⟩ := List.getElem?_of_mem hu
              rw [List.getElem?_take] at hi
              split at hi
              · rename_i h1
                obtain rfl : i = 0 := by omega
                rw [HTK.out] at hi
                injection hi with hi
                rw [← hi]; exact HEN.out
              · cases hi)
            have d2 : decide (0 < k) = false := decide_eq_false (by omega)
            clear hk0
            go_wp2_with fail
            refine (HCut.out _).mono ?_
            rintro x w1 ⟨rfl, n, rfl⟩
            have HP1 := Lib.hid (HP.out.next (below_drewN (Below.refl _ _) n))
            clear hcl
            go_wp2_with fail
            refine (HNum.out _).mono ?_
            rintro x w2 ⟨rfl, hb2⟩
            have HP3 := Lib.hid ((HP1.out.next hb2).next (below_box w2 (.cells #[.int .i64 en.1, .int .i64 en.2.1, .int .i64 en.2.2] 23)))
            clear hb2
            go_wp2_with (refine wpList_store_blk rfl 23 _ _ rfl (w.heap.size + 1) 0 23 #[.int .i64 sh.1, .int .i64 sh.2.1, .int .i64 sh.2.2] #[.int .i64 en.1, .int .i64 en.2.1, .int .i64 en.2.2] #[.int .i64 en.1, .int .i64 en.2.1, .int .i64 en.2.2] rfl rfl HP3.out.shr size_arr (one_arr _ _ _) (Nat.le_of_eq rfl) (whole_arr _ _ _ _ _ _) ?_; intro w4 hB4 hA4; have HP4 := Lib.hid (HP3.out.share (e := en) hB4 hA4); obtain ⟨old, c0, f0⟩ := HP4.out.fr.cell hlt)
            go_roundw
            case rel => exact ⟨k + 1, by omega, by go_num, en, Lib.hid (HP4.out.put hlt HPost.out), HJ1, Lib.hid (fun e => by omega)⟩
            case measure => simp [intOf]; omega
          · have d1 : decide ((0 : Int) < (k : Int)) = true := decide_eq_true (by omega)
            have he : ∀ w, (Op.equalIn 10000 23 (.agg #[.int .i64 en.1, .int .i64 en.2.1, .int .i64 en.2.2]) (.agg #[.int .i64 sh.1, .int .i64 sh.2.1, .int .i64 sh.2.2])).run Tryd.prog w = .ok (en == sh) w := fun w => eqE3 en sh w
            cases hes : (en == sh)
            · have HE := Lib.hid (show rpPart code ts = (rpE0, ts) by
                obtain ⟨t0, h0⟩ : ∃ t0, ts[0]? = some t0 := ⟨_, List.getElem?_eq_getElem (by omega)⟩
                exact part_diff h0 (HJ.out t0 (List.mem_of_getElem? (i := 0) (by rw [List.getElem?_take, if_pos (by omega), h0]))) (List.mem_of_getElem? HTK.out) HEN.out hes)
              rw [hes] at he
              clear hes
              go_wp2_with fail
              refine (HCut.out _).mono ?_
              rintro x w1 ⟨rfl, n, rfl⟩
              have HP1 := Lib.hid (HP.out.next (below_drewN (Below.refl _ _) n))
              clear hcl
              go_wp2_with fail
              refine (HNum.out _).mono ?_
              rintro x w2 ⟨rfl, hb2⟩
              have HP3 := Lib.hid ((HP1.out.next hb2).next (below_box w2 (.cells #[.int .i64 en.1, .int .i64 en.2.1, .int .i64 en.2.2] 23)))
              clear hb2
              have j0 := cellOf HP3.out.shr 0
              have j1 := cellOf HP3.out.shr 1
              have j2 := cellOf HP3.out.shr 2
              go_wp2_with (refine wpList_store_blk rfl 23 _ _ rfl w.heap.size 0 23 #[.int .i64 0, .int .i64 0, .int .i64 0] #[.int .i64 0, .int .i64 0, .int .i64 0] #[.int .i64 0, .int .i64 0, .int .i64 0] rfl rfl HP3.out.res size_arr (one_arr _ _ _) (Nat.le_of_eq rfl) (whole_arr 0 0 0 0 0 0) ?_; intro w4 hB4 hA4)
              have hb4 := HP3.out.fr.below.trans (hA4.below HP3.out.fr.below.size (Nat.le_refl _))
              exact bodyPost_ret (v := .tuple #[.agg #[.int .i64 0, .int .i64 0, .int .i64 0], .slice (some ad) ts.length cap]) (ans_arr rfl rfl rfl hB4) rfl (part_no HE.out (HT.out _ hb4) hb4)
            · have HJ1 := Lib.hid (show ∀ u ∈ ts.take (k + 1), rpFront code u = some en from fun u hu => by
                obtain ⟨i, hi⟩ := List.getElem?_of_mem hu
                rw [List.getElem?_take] at hi
                split at hi
                · rename_i h1
                  by_cases hik : i = k
                  · subst hik
                    rw [HTK.out] at hi
                    injection hi with hi
                    rw [← hi]; exact HEN.out
                  · rw [eq_of_beq hes]
                    exact HJ.out u (List.mem_of_getElem? (i := i) (by rw [List.getElem?_take, if_pos (by omega), hi]))
                · cases hi)
              rw [hes] at he
              clear hes
              go_wp2_with fail
              refine (HCut.out _).mono ?_
              rintro x w1 ⟨rfl, n, rfl⟩
              have HP1 := Lib.hid (HP.out.next (below_drewN (Below.refl _ _) n))
              clear hcl
              go_wp2_with fail
              refine (HNum.out _).mono ?_
              rintro x w2 ⟨rfl, hb2⟩
              have HP3 := Lib.hid ((HP1.out.next hb2).next (below_box w2 (.cells #[.int .i64 en.1, .int .i64 en.2.1, .int .i64 en.2.2] 23)))
              clear hb2
              have j0 := cellOf HP3.out.shr 0
              have j1 := cellOf HP3.out.shr 1
              have j2 := cellOf HP3.out.shr 2
              go_wp2_with (refine wpList_store_blk rfl 23 _ _ rfl (w.heap.size + 1) 0 23 #[.int .i64 sh.1, .int .i64 sh.2.1, .int .i64 sh.2.2] #[.int .i64 en.1, .int .i64 en.2.1, .int .i64 en.2.2] #[.int .i64 en.1, .int .i64 en.2.1, .int .i64 en.2.2] rfl rfl HP3.out.shr size_arr (one_arr _ _ _) (Nat.le_of_eq rfl) (whole_arr _ _ _ _ _ _) ?_; intro w4 hB4 hA4; have HP4 := Lib.hid (HP3.out.share (e := en) hB4 hA4); obtain ⟨old, c0, f0⟩ := HP4.out.fr.cell hlt)
              go_roundw
              case rel => exact ⟨k + 1, by omega, by go_num, en, Lib.hid (HP4.out.put hlt HPost.out), HJ1, Lib.hid (fun e => by omega)⟩
              case measure => simp [intOf]; omega
    · obtain rfl : k = ts.length := by omega
      have HE := Lib.hid (show rpPart code ts = (sh, ts.map (postC 32)) from part_all (fun t ht => HJ.out t (by rw [List.take_length]; exact ht)) (fun e => H0.out (by rw [e]; rfl)))
      have j0 := cellOf HP.out.shr 0
      have j1 := cellOf HP.out.shr 1
      have j2 := cellOf HP.out.shr 2
      go_wp2_with (refine wpList_store_blk rfl 23 _ _ rfl w.heap.size 0 23 #[.int .i64 0, .int .i64 0, .int .i64 0] #[.int .i64 sh.1, .int .i64 sh.2.1, .int .i64 sh.2.2] #[.int .i64 sh.1, .int .i64 sh.2.1, .int .i64 sh.2.2] rfl rfl HP.out.res size_arr (one_arr _ _ _) (Nat.le_of_eq rfl) (whole_arr _ _ _ _ _ _) ?_; intro w4 hB4 hA4)
      have hb4 := HP.out.fr.below.trans (hA4.below HP.out.fr.below.size (Nat.le_refl _))
      refine bodyPost_ret (v := .tuple #[.agg #[.int .i64 sh.1, .int .i64 sh.2.1, .int .i64 sh.2.2], .slice (some ⟨w.heap.size + 2, 0, none⟩) ts.length ts.length]) (ans_arr rfl rfl rfl hB4) rfl (part_yes HE.out ?_ hb4)
      obtain ⟨cur, h1, h2, h3⟩ := HP.out.fr.row
      exact FR.txts (W := w) ⟨⟨cur, (hA4.block _ (ltOf h1) (by omega)).trans h1, h2, h3⟩, hb4, HP.out.fr.ge⟩ (by simp)
end Go.Proofs.YtdcakmamdabiaaaDoor
