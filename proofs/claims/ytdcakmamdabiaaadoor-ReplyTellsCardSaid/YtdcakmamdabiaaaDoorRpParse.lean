/-
  The walk of Parse.
-/
import Derived.Test.YtdcakmamdabiaaaDoorRpRead
namespace Go.Proofs.YtdcakmamdabiaaaDoor
set_option maxRecDepth 100000
open Go.RowKit
/-- The box of what is answered. -/
structure PL (W w : World) : Prop where
  res : w.heap[W.heap.size]? = some (.cells #[.int .i64 0, .int .i64 0, .int .i64 0, .int .i64 0, .slice none 0 0] 25 (0, 0))
  below : Below W.heap.size W w
theorem PL.next {W w w' : World} (h : PL W w) (hb : Below w.heap.size w w') : PL W w' := ⟨(hb.block _ (ltOf h.res)).trans h.res, below_next h.below hb⟩
theorem PL.drewN {W w : World} (h : PL W w) (n : Nat) : PL W (w.drewN n) := h.next (below_drewN (Below.refl _ _) n)
theorem PL.new (w : World) : PL w (w.alloc (.cells #[.int .i64 0, .int .i64 0, .int .i64 0, .int .i64 0, .slice none 0 0] 25)) := ⟨newOf w _, below_box w _⟩
theorem none_x (n : Int) (w : World) : Calls Tryd.prog 18 #[.int .i64 n] w fun e w' => e = .returned (.tuple #[.agg #[.int .i64 0, .int .i64 0, .int .i64 0, .int .i64 0, .slice none 0 0], .int .i64 0, .int .i64 n]) ∧ Below w.heap.size w w' := by
  have hb := newOf w (.cells #[.int .i64 0, .int .i64 0, .int .i64 0, .int .i64 0, .slice none 0 0] 25)
  have HB := Lib.hid (below_box w (.cells #[.int .i64 0, .int .i64 0, .int .i64 0, .int .i64 0, .slice none 0 0] 25))
  go_enter Tryd.func18, Tryd.ntmps18
  go_wp2_with fail
  refine bodyPost_ret (v := .tuple #[.agg #[.int .i64 0, .int .i64 0, .int .i64 0, .int .i64 0, .slice none 0 0], .int .i64 0, .int .i64 n]) ?_ rfl ⟨rfl, ?_⟩
  · simp [results, Tryd.results18, go_sem]
  · exact HB.out
/-- A reply and two numbers, read off its box. -/
theorem ans_rep3 {fn : Func} {p u x : Tmp} (hf : fn.results = #[.cell p 25, .tmp u, .tmp x]) {tmps : Array Value} {w : World} {g : Nat} {c : Int} {e : E3} {v a b : Value} (hp : tmps.getD p undef = .pointer (some ⟨g, 0, none⟩)) (hu : tmps.getD u undef = a) (hx : tmps.getD x undef = b)
    (hb : w.heap[g]? = some (.cells #[.int .i64 c, .int .i64 e.1, .int .i64 e.2.1, .int .i64 e.2.2, v] 25 (0, 0))) : (results fn tmps).run Tryd.prog w = .ok (.tuple #[RV c e v, a, b]) w := by
  have hl := loadVar_blk (P := Tryd.prog) (ty := 25) (o := 0) (vs := #[.int .i64 c, .int .i64 e.1, .int .i64 e.2.1, .int .i64 e.2.2, v]) hb Tryd.underlying25 rfl size_rep (fun j _ => by rw [Nat.zero_add])
  rw [results_cell3 hf, hp, hu, hx]
  simp [asAddr, Result.andThen, hl]
def ParsePost (l : List Txt) (w : World) (x : Ending) (w' : World) : Prop := ∃ v, x = .returned (.tuple #[RV (rpParse l).r.code (rpParse l).r.e v, .int .i64 (rpParse l).n, .int .i64 (rpParse l).err]) ∧ TxtsAt w' v (rpParse l).r.text ∧ Below w.heap.size w w'
theorem parse_err {l : List Txt} {w w' : World} {n : Int} (h : rpParse l = ⟨rp0, 0, n⟩) (hb : Below w.heap.size w w') : ParsePost l w (.returned (.tuple #[RV 0 rpE0 (.slice none 0 0), .int .i64 0, .int .i64 n])) w' := ⟨_, by rw [h]; rfl, by rw [h]; exact txts_nil w', hb⟩
theorem scan_err {l : List Txt} {l0 : Txt} {n k : Nat} (h0 : l.headD [] = l0) (h : rpScan l0 0 l = (k, n)) (hn : n ≠ 1) : rpParse l = ⟨rp0, 0, n⟩ := by
  rw [rpParse, h0, h]
  show (if n = 1 then _ else _) = _
  rw [if_neg hn]
theorem scan_at {l0 : Txt} {l : List Txt} {k n : Nat} {t : Txt} (hJ : rpScan l0 0 l = rpScan l0 k (l.drop k)) (ht : l[k]? = some t) (h : rpStp l0 k t = n) (hn : n ≠ 0) : rpScan l0 0 l = (k, n) := by
  obtain ⟨h1, h2⟩ := List.getElem?_eq_some_iff.1 ht
  rw [hJ, List.drop_eq_getElem_cons h1, h2, rpScan, h, if_neg hn]
theorem scan_next {l0 : Txt} {l : List Txt} {k : Nat} {t : Txt} (hJ : rpScan l0 0 l = rpScan l0 k (l.drop k)) (ht : l[k]? = some t) (h : rpStp l0 k t = 0) : rpScan l0 0 l = rpScan l0 (k + 1) (l.drop (k + 1)) := by
  obtain ⟨h1, h2⟩ := List.getElem?_eq_some_iff.1 ht
  rw [hJ, List.drop_eq_getElem_cons h1, h2, rpScan, h, if_pos rfl]
/-- What holds of the lines that were gone through. -/
structure PJ (l : List Txt) (l0 : Txt) (k : Nat) : Prop where
  scan : rpScan l0 0 l = rpScan l0 k (l.drop k)
  lines : ∀ (j : Nat) (u : Txt), j < k → l[j]? = some u → rpFm u = true ∧ u.take 3 = l0.take 3
theorem PJ.more {l : List Txt} {l0 t : Txt} {k : Nat} (h : PJ l l0 k) (ht : l[k]? = some t) (h0 : rpStp l0 k t = 0) (hf : rpFm t = true) (hq : t.take 3 = l0.take 3) : PJ l l0 (k + 1) :=
  ⟨scan_next h.scan ht h0, fun j u hj hu => by
    by_cases e : j = k
    · subst e
      rw [ht] at hu
      injection hu with hu
      subst hu
      exact ⟨hf, hq⟩
    · exact h.lines j u (by omega) hu⟩
theorem stp_bool (l0 : Txt) (i : Nat) (t : Txt) : rpStp l0 i t = if rpFm t && (t.take 3 == l0.take 3) then (if decide (510 < t.length) || decide (i = 32) then 3 else if (t.drop 3).head? == some 45 then 0 else 1) else 2 := by
  rw [rpStp, List.head?_drop]
  by_cases h1 : 510 < t.length <;> by_cases h2 : i = 32 <;> by_cases h3 : t[3]? = some 45 <;> simp [h1, h2, h3]
set_option maxHeartbeats 4000000 in
theorem parse_x (l : List Txt) (v : Value) (w : World) (hv : TxtsAt w v l) (hn : l.length ≤ 1000) (hz : ∀ t ∈ l, t.length ≤ 1000) :
    Calls Tryd.prog 6 #[v] w (ParsePost l w) := by
  have HT := Lib.hid (fun (w' : World) (hb : Below w.heap.size w w') => hv.below hb)
  obtain ⟨a, cap, rfl, hcap, _, hc⟩ := hv
  have HC := Lib.hid hc
  have HZ := Lib.hid hz
  have HP0 := Lib.hid (PL.new w)
  have HNone := Lib.hid (fun n w => none_x n w)
  obtain ⟨l0, hh⟩ : ∃ l0, l.headD [] = l0 := ⟨_, rfl⟩
  have HH := Lib.hid hh
  clear hc hz hh
  go_enter Tryd.func6, Tryd.ntmps6
  go_wp2_with fail
  go_loopw [10] (fun i wr => ∃ k : Nat, k ≤ l.length ∧ i = .int .i64 k ∧ Hid (PL w wr) ∧ Hid (PJ l l0 k)) (fun i _ => l.length - (intOf i).toNat)
  case atStart => exact ⟨0, Nat.zero_le _, rfl, HP0, Lib.hid ⟨rfl, fun j u hj => absurd hj (Nat.not_lt_zero _)⟩⟩
  case round =>
    obtain ⟨k, hk, rfl, HP, HJ⟩ := hrel
    by_cases hlt : k < l.length
    · obtain ⟨t, ht⟩ : ∃ t, l[k]? = some t := ⟨_, List.getElem?_eq_getElem hlt⟩
      obtain ⟨ad, rfl, hab, hcw⟩ := HC.out k t ht
      have hcl : wr.cell? (ad.add k) = some (.string (mkS t)) := (HP.out.below.cell (by rw [add_block]; exact hab)).trans hcw
      obtain ⟨lh, h0⟩ : ∃ lh, l[0]? = some lh := ⟨_, List.getElem?_eq_getElem (by omega)⟩
      have hlh : lh = l0 := by rw [← HH.out]; cases hl : l with | nil => rw [hl] at h0; simp at h0 | cons x y => rw [hl] at h0; simpa using h0.symm
      subst hlh
      obtain ⟨A, hA, hab0, hcw0⟩ := HC.out 0 lh h0
      injection hA with hA
      subst hA
      have ha0 : ad.add 0 = ad := by unfold Addr.add; simp
      rw [ha0] at hcw0
      have hcl0 : wr.cell? ad = some (.string (mkS lh)) := (HP.out.below.cell hab0).trans hcw0
      have htl := HZ.out t (List.mem_of_getElem? ht)
      have HF := Lib.hid (fun w => still (formed_x t w (by omega)))
      have HS := Lib.hid (stp_bool lh k t)
      have HTK := Lib.hid ht
      have HAT := Lib.hid (fun n (h : rpStp lh k t = n) (h0 : n ≠ 0) (h1 : n ≠ 1) => scan_err HH.out (scan_at HJ.out.scan ht h h0) h1)
      have h3t : rpFm t = true → 3 ≤ t.length := fun h => (fm_parts h).1
      have h3l : rpFm t = true → 3 ≤ lh.length := fun h => by
        by_cases hk0 : k = 0
        · subst hk0
          rw [h0] at ht
          injection ht with ht
          rw [ht]; exact h3t h
        · exact (fm_parts (HJ.out.lines 0 lh (by omega) h0).1).1
      have HKL := Lib.hid (fun e : k = 0 => show t = lh by subst e; rw [h0] at ht; injection ht with ht; exact ht.symm)
      have hms := mkS_size t
      have hms0 := mkS_size lh
      have hx1 := take3_x t
      have hx2 := take3_x lh
      have hT1 := mkS_toList (t.take 3)
      have hT2 := mkS_toList (lh.take 3)
      cases hf : rpFm t
      · have HE := Lib.hid (show rpParse l = ⟨rp0, 0, 2⟩ from HAT.out 2 (by rw [HS.out, hf]; rfl) (by decide) (by decide))
        rw [hf] at HF
        clear ht hcw hab hab0 hcw0 ha0 h0 h3t h3l hf
        go_wp2_with fail
        go_quiet ((go_at_call 19; exact Calls.quiet_of_same (HF.out _)))
        have HP1 := Lib.hid (fun n => HP.out.drewN n)
        go_wp2_with fail
        refine (HNone.out 2 _).mono ?_
        rintro x w3 ⟨rfl, hb3⟩
        have HP3 := Lib.hid ((HP1.out _).next hb3)
        clear hb3
        go_wp2_with (refine wpList_store_blk rfl 25 _ _ rfl w.heap.size 0 25 #[.int .i64 0, .int .i64 0, .int .i64 0, .int .i64 0, .slice none 0 0] #[.int .i64 0, .int .i64 0, .int .i64 0, .int .i64 0, .slice none 0 0] #[.int .i64 0, .int .i64 0, .int .i64 0, .int .i64 0, .slice none 0 0] rfl rfl HP3.out.res size_rep (by kernel_rfl) (Nat.le_of_eq rfl) (by kernel_rfl) ?_; intro w4 hB4 hA4)
        exact bodyPost_ret (v := .tuple #[.agg #[.int .i64 0, .int .i64 0, .int .i64 0, .int .i64 0, .slice none 0 0], .int .i64 0, .int .i64 2]) (ans_rep3 (c := 0) (e := rpE0) rfl rfl rfl rfl hB4) rfl (parse_err HE.out (HP3.out.below.trans (hA4.below HP3.out.below.size (Nat.le_refl _))))
      · have h3t := h3t hf
        have h3l := h3l hf
        have h3ti : (3 : Int) ≤ (t.length : Int) := by omega
        have h3li : (3 : Int) ≤ (lh.length : Int) := by omega
        rw [hf] at HF HS
        have HFM := Lib.hid hf
        clear ht hcw hab hab0 hcw0 ha0 h0 hf
        cases hq : (t.take 3 == lh.take 3)
        · have HE := Lib.hid (show rpParse l = ⟨rp0, 0, 2⟩ from HAT.out 2 (by rw [HS.out, hq]; rfl) (by decide) (by decide))
          have HP1 := Lib.hid (fun n => HP.out.drewN n)
          go_wp2_with fail
          go_quiet ((go_at_call 19; exact Calls.quiet_of_same (HF.out _)))
          go_wp2_with fail
          refine (HNone.out 2 _).mono ?_
          rintro x w3 ⟨rfl, hb3⟩
          have HP3 := Lib.hid ((HP1.out _).next hb3)
          clear hb3
          go_wp2_with (refine wpList_store_blk rfl 25 _ _ rfl w.heap.size 0 25 #[.int .i64 0, .int .i64 0, .int .i64 0, .int .i64 0, .slice none 0 0] #[.int .i64 0, .int .i64 0, .int .i64 0, .int .i64 0, .slice none 0 0] #[.int .i64 0, .int .i64 0, .int .i64 0, .int .i64 0, .slice none 0 0] rfl rfl HP3.out.res size_rep (by kernel_rfl) (Nat.le_of_eq rfl) (by kernel_rfl) ?_; intro w4 hB4 hA4)
          exact bodyPost_ret (v := .tuple #[.agg #[.int .i64 0, .int .i64 0, .int .i64 0, .int .i64 0, .slice none 0 0], .int .i64 0, .int .i64 2]) (ans_rep3 (c := 0) (e := rpE0) rfl rfl rfl rfl hB4) rfl (parse_err HE.out (HP3.out.below.trans (hA4.below HP3.out.below.size (Nat.le_refl _))))
        · by_cases h510 : 510 < t.length
          · have d1 : decide ((510 : Int) < (t.length : Int)) = true := decide_eq_true (by omega)
            have HE := Lib.hid (show rpParse l = ⟨rp0, 0, 3⟩ from HAT.out 3 (by rw [HS.out, hq, decide_eq_true h510]; simp) (by decide) (by decide))
            have HP1 := Lib.hid (fun n => HP.out.drewN n)
            go_wp2_with fail
            go_quiet ((go_at_call 19; exact Calls.quiet_of_same (HF.out _)))
            go_wp2_with fail
            refine (HNone.out 3 _).mono ?_
            rintro x w3 ⟨rfl, hb3⟩
            have HP3 := Lib.hid ((HP1.out _).next hb3)
            clear hb3
            go_wp2_with (refine wpList_store_blk rfl 25 _ _ rfl w.heap.size 0 25 #[.int .i64 0, .int .i64 0, .int .i64 0, .int .i64 0, .slice none 0 0] #[.int .i64 0, .int .i64 0, .int .i64 0, .int .i64 0, .slice none 0 0] #[.int .i64 0, .int .i64 0, .int .i64 0, .int .i64 0, .slice none 0 0] rfl rfl HP3.out.res size_rep (by kernel_rfl) (Nat.le_of_eq rfl) (by kernel_rfl) ?_; intro w4 hB4 hA4)
            exact bodyPost_ret (v := .tuple #[.agg #[.int .i64 0, .int .i64 0, .int .i64 0, .int .i64 0, .slice none 0 0], .int .i64 0, .int .i64 3]) (ans_rep3 (c := 0) (e := rpE0) rfl rfl rfl rfl hB4) rfl (parse_err HE.out (HP3.out.below.trans (hA4.below HP3.out.below.size (Nat.le_refl _))))
          · have d1 : decide ((510 : Int) < (t.length : Int)) = false := decide_eq_false (by omega)
            by_cases hk32 : k = 32
            · have d2 : ((k : Int) == 32) = true := beq_iff_eq.2 (by omega)
              have HE := Lib.hid (show rpParse l = ⟨rp0, 0, 3⟩ from HAT.out 3 (by rw [HS.out, hq, decide_eq_true hk32]; simp) (by decide) (by decide))
              clear hk32 h510
              have HP1 := Lib.hid (fun n => HP.out.drewN n)
              go_wp2_with fail
              go_quiet ((go_at_call 19; exact Calls.quiet_of_same (HF.out _)))
              go_wp2_with fail
              refine (HNone.out 3 _).mono ?_
              rintro x w3 ⟨rfl, hb3⟩
              have HP3 := Lib.hid ((HP1.out _).next hb3)
              clear hb3
              go_wp2_with (refine wpList_store_blk rfl 25 _ _ rfl w.heap.size 0 25 #[.int .i64 0, .int .i64 0, .int .i64 0, .int .i64 0, .slice none 0 0] #[.int .i64 0, .int .i64 0, .int .i64 0, .int .i64 0, .slice none 0 0] #[.int .i64 0, .int .i64 0, .int .i64 0, .int .i64 0, .slice none 0 0] rfl rfl HP3.out.res size_rep (by kernel_rfl) (Nat.le_of_eq rfl) (by kernel_rfl) ?_; intro w4 hB4 hA4)
              exact bodyPost_ret (v := .tuple #[.agg #[.int .i64 0, .int .i64 0, .int .i64 0, .int .i64 0, .slice none 0 0], .int .i64 0, .int .i64 3]) (ans_rep3 (c := 0) (e := rpE0) rfl rfl rfl rfl hB4) rfl (parse_err HE.out (HP3.out.below.trans (hA4.below HP3.out.below.size (Nat.le_refl _))))
            · have d2 : ((k : Int) == 32) = false := beq_eq_false_iff_ne.2 (by omega)
              have hx3 := drop3_x t
              have HPre := Lib.hid (fun w => prefix_x (t.drop 3) 45 w)
              rw [decide_eq_false h510, decide_eq_false hk32, hq] at HS
              have HQ := Lib.hid (eq_of_beq hq)
              generalize t.drop 3 = d3 at hx3 HPre HS
              cases hp : (d3.head? == some 45)
              · rw [hp] at HPre HS
                have HR := Lib.hid (show rpParse l = ⟨rpRead (l.take (k + 1)), (k + 1 : Nat), 0⟩ by
                  rw [rpParse, HH.out, scan_at HJ.out.scan HTK.out HS.out (by decide)]; rfl)
                have hlen : (l.take (k + 1)).length = k + 1 := by rw [List.length_take]; omega
                have hall : ∀ u ∈ l.take (k + 1), rpFm u = true := fun u hu => by
                  obtain ⟨i, hi⟩ := List.getElem?_of_mem hu
                  rw [List.getElem?_take] at hi
                  split at hi
                  · by_cases e : i = k
                    · subst e
                      rw [HTK.out] at hi
                      injection hi with hi
                      rw [← hi]; exact HFM.out
                    · exact (HJ.out.lines i u (by omega) hi).1
                  · cases hi
                have HRead := Lib.hid (fun (w' : World) (hb : Below w.heap.size w w') => read_x (l.take (k + 1)) (.slice (some ad) (k + 1) cap) w' ((HT.out w' hb).take (by omega)) (by intro e; rw [e] at hlen; simp at hlen) (by omega)
                  (fun u hu => ⟨(fm_parts (hall u hu)).1, HZ.out u (List.mem_of_mem_take hu)⟩) (by
                    cases hc : l.take (k + 1) with
                    | nil => rw [hc] at hlen; simp at hlen
                    | cons x y => exact (fm_parts (hall x (by rw [hc]; simp))).2.2.1))
                have hw1 : IntKind.i64.wrap ((k : Int) + 1) = (k : Int) + 1 := IntWalk.i64_in _ (by omega)
                have hw2 : ((k : Int) + 1).toNat = k + 1 := by omega
                have hw3 : (k : Int) + 1 ≤ (cap : Int) := by omega
                have hw4 : (0 : Int) ≤ (k : Int) + 1 := by omega
                clear hp hall hlen
                have HP1 := Lib.hid (fun n => HP.out.drewN n)
                go_wp2_with fail
                go_quiet ((go_at_call 19; exact Calls.quiet_of_same (HF.out _)))
                go_wp2_with (go_at_call 20; refine (HPre.out _).mono ?_; rintro x w' ⟨rfl, rfl⟩)
                refine (HRead.out _ (HP1.out _).below).mono ?_
                rintro x w5 ⟨v5, rfl, hT5, hb5, hge⟩
                obtain ⟨A5, cap5, rfl, _⟩ := id hT5
                have HP5 := Lib.hid ((HP1.out _).next hb5)
                have HT5 := Lib.hid hT5
                have HG5 := Lib.hid (show ∀ ad, A5 = some ad → ad.block ≠ w.heap.size from fun A e => by subst e; have h1 := hge A _ _ rfl; have h2 := (HP1.out 0).below.size; have h3 := HP.out.below.size; simp at h1 h2; omega)
                clear hT5 hb5 hge
                go_wp2_with (refine wpList_store_blk rfl 25 _ _ rfl w.heap.size 0 25 #[.int .i64 0, .int .i64 0, .int .i64 0, .int .i64 0, .slice none 0 0] #[.int .i64 (rpRead (l.take (k + 1))).code, .int .i64 (rpRead (l.take (k + 1))).e.1, .int .i64 (rpRead (l.take (k + 1))).e.2.1, .int .i64 (rpRead (l.take (k + 1))).e.2.2, .slice A5 (rpRead (l.take (k + 1))).text.length cap5] #[.int .i64 (rpRead (l.take (k + 1))).code, .int .i64 (rpRead (l.take (k + 1))).e.1, .int .i64 (rpRead (l.take (k + 1))).e.2.1, .int .i64 (rpRead (l.take (k + 1))).e.2.2, .slice A5 (rpRead (l.take (k + 1))).text.length cap5] rfl rfl HP5.out.res size_rep (by kernel_rfl) (Nat.le_of_eq rfl) (by kernel_rfl) ?_; intro w6 hB6 hA6)
                refine bodyPost_ret (v := .tuple #[RV (rpRead (l.take (k + 1))).code (rpRead (l.take (k + 1))).e (.slice A5 (rpRead (l.take (k + 1))).text.length cap5), .int .i64 ((k : Int) + 1), .int .i64 0]) (ans_rep3 rfl rfl rfl rfl hB6) rfl ?_
                refine ⟨_, by rw [HR.out]; rfl, by rw [HR.out]; exact HT5.out.apart' hA6 HG5.out, HP5.out.below.trans (hA6.below HP5.out.below.size (Nat.le_refl _))⟩
              · rw [hp] at HPre HS
                have HJ1 := Lib.hid (HJ.out.more HTK.out HS.out HFM.out HQ.out)
                clear hp
                have HP1 := Lib.hid (fun n => HP.out.drewN n)
                go_wp2_with fail
                go_quiet ((go_at_call 19; exact Calls.quiet_of_same (HF.out _)))
                go_wp2_with (go_at_call 20; refine (HPre.out _).mono ?_; rintro x w' ⟨rfl, rfl⟩)
                go_roundw
                case rel => exact ⟨k + 1, by omega, by go_num, HP1.out _, HJ1⟩
                case measure => simp [intOf]; omega
    · obtain rfl : k = l.length := by omega
      have HE := Lib.hid (show rpParse l = ⟨rp0, 0, 12⟩ from scan_err HH.out (by rw [HJ.out.scan, List.drop_length]; rfl) (by decide))
      go_wp2_with fail
      refine (HNone.out 12 _).mono ?_
      rintro x w3 ⟨rfl, hb3⟩
      have HP3 := Lib.hid (HP.out.next hb3)
      clear hb3
      go_wp2_with (refine wpList_store_blk rfl 25 _ _ rfl w.heap.size 0 25 #[.int .i64 0, .int .i64 0, .int .i64 0, .int .i64 0, .slice none 0 0] #[.int .i64 0, .int .i64 0, .int .i64 0, .int .i64 0, .slice none 0 0] #[.int .i64 0, .int .i64 0, .int .i64 0, .int .i64 0, .slice none 0 0] rfl rfl HP3.out.res size_rep (by kernel_rfl) (Nat.le_of_eq rfl) (by kernel_rfl) ?_; intro w4 hB4 hA4)
      exact bodyPost_ret (v := .tuple #[.agg #[.int .i64 0, .int .i64 0, .int .i64 0, .int .i64 0, .slice none 0 0], .int .i64 0, .int .i64 12]) (ans_rep3 (c := 0) (e := rpE0) rfl rfl rfl rfl hB4) rfl (parse_err HE.out (HP3.out.below.trans (hA4.below HP3.out.below.size (Nat.le_refl _))))
end Go.Proofs.YtdcakmamdabiaaaDoor
