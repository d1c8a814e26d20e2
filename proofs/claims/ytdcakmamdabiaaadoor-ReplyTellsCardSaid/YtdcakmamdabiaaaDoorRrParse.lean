/-
  The walk of the reference's Parse.
-/
import Derived.Test.YtdcakmamdabiaaaDoorRrPart
namespace Go.Proofs.YtdcakmamdabiaaaDoor
set_option maxRecDepth 100000
open Go.RowKit
theorem drop4_x (t : Txt) : (mkS t).extract 4 t.length = mkS (t.drop 4) := dropx_x t 4
theorem drop4_nil {t : Txt} (h : t.length ≤ 4) : t.drop 4 = [] := List.drop_eq_nil_iff.2 h
theorem take_map {l : List Txt} {k : Nat} {t : Txt} (h : l[k]? = some t) : (l.take (k + 1)).map (·.drop 4) = (l.take k).map (·.drop 4) ++ [t.drop 4] := by
  obtain ⟨h1, h2⟩ := List.getElem?_eq_some_iff.1 h
  rw [List.take_succ_eq_append_getElem h1, h2]; simp
theorem news_b (w : World) (x : Txt) (b : Nat) (hb : b = w.heap.size) : ∀ j u, (strsV [x])[j]? = some u → (w.alloc (.cells #[.string (mkS x)] 9)).cell? ((⟨b, 0, none⟩ : Addr).add j) = some u := by subst hb; exact news_one w x
theorem code3r {l0 : Txt} {c c0 : Int} (hq1 : (rpCls c == 0) = false) (hq2 : (c != c0) = false) (h0 : rcd l0 = c0) : (valX (l0.take 3) : Int) = c := by
  have hcc : c = c0 := by rw [bne] at hq2; simpa using hq2
  have h1 : rpCls (rcd l0) ≠ 0 := by rw [h0, ← hcc]; exact beq_eq_false_iff_ne.1 hq1
  rw [← (dig3 h1).2.2.1, h0, hcc]
theorem cell0 {W w : World} {A : Option Addr} {n c : Nat} {L : List Txt} {t0 : Txt} (h : PZ W (.slice A n c) L w) (h0 : L[0]? = some t0) : ∃ Aq, A = some Aq ∧ Aq.block < w.heap.size ∧ w.cell? Aq = some (.string (mkS t0)) := by
  obtain ⟨a', cap', hv, _, _, hc⟩ := own_txts h.row
  injection hv with h1 h2 h3
  subst h1
  obtain ⟨Aq, hA, hlt, hcell⟩ := hc 0 t0 h0
  refine ⟨Aq, hA, hlt, ?_⟩
  have : Aq.add 0 = Aq := by unfold Addr.add; simp
  rwa [this] at hcell
/-- A reply in its box, an enhanced code in its box, a row of texts, and the box of what is answered. -/
structure PQ (W : World) (b9 b10 : Nat) (c : Int) (E : E3) (tv : Value) (ts : List Txt) (w : World) : Prop where
  res : w.heap[W.heap.size]? = some (.cells #[.int .i64 0, .int .i64 0, .int .i64 0, .int .i64 0, .slice none 0 0] 25 (0, 0))
  box : w.heap[b9]? = some (.cells #[.int .i64 c, .int .i64 0, .int .i64 0, .int .i64 0, tv] 25 (0, 0))
  arr : w.heap[b10]? = some (.cells #[.int .i64 E.1, .int .i64 E.2.1, .int .i64 E.2.2] 23 (0, 0))
  row : w.ownsRow (W.heap.size + 1) 9 1 tv ts.length (strsV ts)
  below : Below W.heap.size W w
  g1 : W.heap.size < b9
  g2 : b9 < b10
theorem PQ.next {W w w' : World} {b9 b10 : Nat} {c : Int} {E : E3} {tv : Value} {ts : List Txt} (h : PQ W b9 b10 c E tv ts w) (hb : Below w.heap.size w w') : PQ W b9 b10 c E tv ts w' :=
  ⟨(hb.block _ (ltOf h.res)).trans h.res, (hb.block _ (ltOf h.box)).trans h.box, (hb.block _ (ltOf h.arr)).trans h.arr, own_below h.row hb, below_next h.below hb, h.g1, h.g2⟩
theorem PQ.new {W w w4 : World} {c : Int} {tv : Value} {ts : List Txt} (h : PZ W tv ts w) (hb : Below (w.alloc (.cells #[.int .i64 c, .int .i64 0, .int .i64 0, .int .i64 0, tv] 25)).heap.size (w.alloc (.cells #[.int .i64 c, .int .i64 0, .int .i64 0, .int .i64 0, tv] 25)) w4) (E : E3) :
    PQ W w.heap.size w4.heap.size c E tv ts (w4.alloc (.cells #[.int .i64 E.1, .int .i64 E.2.1, .int .i64 E.2.2] 23)) := by
  have n1 := newOf w (.cells #[.int .i64 c, .int .i64 0, .int .i64 0, .int .i64 0, tv] 25)
  have hb1 := below_box w (.cells #[.int .i64 c, .int .i64 0, .int .i64 0, .int .i64 0, tv] 25)
  have h1 := (h.next hb1).next hb
  have n2 := (hb.block _ (ltOf n1)).trans n1
  have hb2 := below_box w4 (.cells #[.int .i64 E.1, .int .i64 E.2.1, .int .i64 E.2.2] 23)
  have h2 := h1.next hb2
  exact ⟨h2.res, (hb2.block _ (ltOf n2)).trans n2, newOf w4 _, h2.row, h2.below, ltOf h.res, ltOf n2⟩
theorem row_apart {w w' : World} {B mb n : Nat} {v : Value} {xs : List Value} (h : w.ownsRow B 9 1 v n xs) (hA : Apart mb w.heap.size w w') (hlt : mb < B) : w'.ownsRow B 9 1 v n xs :=
  own_of h fun k hk => hA.block k (h.lt k hk).2 (by have := (h.lt k hk).1; omega)
theorem set_apart (w : World) (b i : Nat) (v : Value) : Apart b w.heap.size w (w.setCell ⟨b, i, none⟩ v) := (Apart.refl b w.heap.size w).set i v
theorem below3 {W x a c : World} {b9 i : Nat} {v : Value} (h : Below W.heap.size W x) (hA8 : Apart b9 x.heap.size x a) (hA9 : Apart W.heap.size (a.setCell ⟨b9, i, none⟩ v).heap.size (a.setCell ⟨b9, i, none⟩ v) c) (hlt : W.heap.size < b9) : Below W.heap.size W c := by
  have h1 := h.trans (hA8.below h.size (Nat.le_of_lt hlt))
  have h2 := h1.setCell (p := ⟨b9, i, none⟩) (Nat.le_of_lt hlt) v
  exact h2.trans (hA9.below h2.size (Nat.le_refl _))
theorem row3 {W wb x a c : World} {b9 i n : Nat} {v u : Value} {xs : List Value} (h : x.ownsRow wb.heap.size 9 1 u n xs) (hA8 : Apart b9 x.heap.size x a) (hA9 : Apart W.heap.size (a.setCell ⟨b9, i, none⟩ v).heap.size (a.setCell ⟨b9, i, none⟩ v) c) (h1 : b9 < wb.heap.size) (h2 : W.heap.size < wb.heap.size) : c.ownsRow wb.heap.size 9 1 u n xs :=
  row_apart (row_apart (row_apart h hA8 h1) (set_apart a b9 i v) h1) hA9 h2
theorem res3 {x a : World} {b9 g i : Nat} {v : Value} {o : Obj} (h : x.heap[g]? = some o) (hA8 : Apart b9 x.heap.size x a) (hne : g ≠ b9) : (a.setCell ⟨b9, i, none⟩ v).heap[g]? = some o :=
  (Below.heap_setCell a ⟨b9, i, none⟩ v g hne).trans ((hA8.block g (ltOf h) hne).trans h)
/-- What Parse answers of what was read. -/
theorem parse_got_x {l : List Txt} {W w' : World} {k : Nat} {c : Int} {E : E3} {v : Value} {ts : List Txt} (h : rpParse l = ⟨⟨c, E, ts⟩, (k + 1 : Nat), 0⟩) (ht : TxtsAt w' v ts) (hb : Below W.heap.size W w') :
    ParsePost l W (.returned (.tuple #[.agg #[.int .i64 c, .int .i64 E.1, .int .i64 E.2.1, .int .i64 E.2.2, v], .int .i64 ((k : Int) + 1), .int .i64 0])) w' := by
  refine ⟨v, ?_, by rw [h]; exact ht, hb⟩
  rw [h]
  have e : ((k + 1 : Nat) : Int) = (k : Int) + 1 := by omega
  show _ = Ending.returned (.tuple #[RV c E v, .int .i64 ((k + 1 : Nat) : Int), .int .i64 0])
  rw [e]
set_option maxHeartbeats 16000000 in
theorem rparse_x (l : List Txt) (v : Value) (w : World) (hv : TxtsAt w v l) (hn : l.length ≤ 1000) (hz : ∀ t ∈ l, t.length ≤ 1000) :
    Calls Tryd.prog 7 #[v] w (ParsePost l w) := by
  obtain ⟨a, cap, rfl, hcap, _, hc⟩ := hv
  have HC := Lib.hid hc
  have HZ := Lib.hid hz
  have HP0 := Lib.hid (PZ.new w)
  obtain ⟨l0, hh⟩ : ∃ l0, l.headD [] = l0 := ⟨_, rfl⟩
  have HH := Lib.hid hh
  clear hc hz hh hcap
  go_enter Tryd.func7, Tryd.ntmps7
  go_wp2_with fail
  go_loopw [5, 6] (fun s i wr => ∃ k : Nat, k ≤ l.length ∧ k ≤ 32 ∧ i = .int .i64 (k : Int) ∧ Hid (PZ w s ((l.take k).map (·.drop 4)) wr) ∧ Hid (PJ l l0 k)) (fun _ i _ => l.length - (intOf i).toNat)
  case atStart => exact ⟨0, Nat.zero_le _, by omega, rfl, HP0, Lib.hid ⟨rfl, fun j u hj => absurd hj (Nat.not_lt_zero _)⟩⟩
  case round =>
    clear HP0
    obtain ⟨k, hk, hk32, rfl, HP, HJ⟩ := hrel
    have hLL : ((l.take k).map (·.drop 4)).length = k := by simp; omega
    have HTM := Lib.hid (fun t (h : l[k]? = some t) => take_map h)
    generalize (l.take k).map (·.drop 4) = Lk at HP hLL HTM
    obtain ⟨A1, cp, rfl⟩ := strs_slice HP.out.row
    by_cases hlt : k < l.length
    · obtain ⟨t, ht⟩ : ∃ t, l[k]? = some t := ⟨_, List.getElem?_eq_getElem hlt⟩
      obtain ⟨ad, rfl, hab, hcw⟩ := HC.out k t ht
      have hcl : wr.cell? (ad.add k) = some (.string (mkS t)) := (HP.out.below.cell (by rw [add_block]; exact hab)).trans hcw
      obtain ⟨lh, h0⟩ : ∃ lh, l[0]? = some lh := ⟨_, List.getElem?_eq_getElem (by omega)⟩
      have hlh : lh = l0 := by rw [← HH.out]; cases hl : l with | nil => rw [hl] at h0; simp at h0 | cons x y => rw [hl] at h0; simpa using h0.symm
      subst hlh
      obtain ⟨A, hA, hab0, hcw0⟩ := HC.out 0 lh h0
      injection hA with hA
      subst hA
      have ha0 : ad.add 0 = ad := by unfold Addr.add; simp
      rw [ha0] at hcw0
      have hcl0 : wr.cell? ad = some (.string (mkS lh)) := (HP.out.below.cell hab0).trans hcw0
      have htl := HZ.out t (List.mem_of_getElem? ht)
      have hll := HZ.out lh (List.mem_of_getElem? h0)
      have HTT := Lib.hid (HTM.out t ht)
      have HS := Lib.hid (stp_bool lh k t)
      have HFC := Lib.hid (form_code t lh)
      have HTK := Lib.hid ht
      have HAT := Lib.hid (fun n (h : rpStp lh k t = n) (h0 : n ≠ 0) (h1 : n ≠ 1) => scan_err HH.out (scan_at HJ.out.scan ht h h0) h1)
      have HCt := Lib.hid (fun w => code_x t w (by omega))
      have HCl := Lib.hid (fun w => code_x lh w (by omega))
      have HKl := Lib.hid (fun w => rclass_x (rcd t) w)
      have HSh := Lib.hid (fun w => shown_x t w (by omega))
      have hms := mkS_size t
      have hx4 := drop4_x t
      have hl0 : 0 < l.length := by omega
      have HLL := Lib.hid hLL
      clear ht hcw hab hab0 hcw0 ha0 h0 HTM hLL
      obtain ⟨c, hcq⟩ : ∃ c, rcd t = c := ⟨_, rfl⟩
      obtain ⟨c0, hcq0⟩ : ∃ c0, rcd lh = c0 := ⟨_, rfl⟩
      have HCQ := Lib.hid hcq
      have HCQ0 := Lib.hid hcq0
      rw [hcq] at HCt HKl HFC
      rw [hcq0] at HCl HFC
      clear hcq hcq0
      cases hq1 : (rpCls c == 0)
      case true =>
        have hF := HFC.out
        rw [show (rpCls c != 0) = false by rw [bne, hq1]; rfl] at HFC
        have HE := Lib.hid (show rpParse l = ⟨rp0, 0, 2⟩ from HAT.out 2 (by rw [HS.out, HFC.out]; rfl) (by decide) (by decide))
        go_wp2_with (first | (go_at_call 22; (with_reducible refine (HCt.out _).mono ?_); rintro x w' ⟨rfl, rfl⟩) | (go_at_call 22; (with_reducible refine (HCl.out _).mono ?_); rintro x w' ⟨rfl, rfl⟩) | (go_at_call 16; (with_reducible refine (HKl.out _).mono ?_); rintro x w' ⟨rfl, rfl⟩) | (go_at_call 23; (with_reducible refine (HSh.out _).mono ?_); rintro x w' ⟨rfl, rfl⟩) | (refine wpList_store_blk rfl 25 _ _ rfl w.heap.size 0 25 #[.int .i64 0, .int .i64 0, .int .i64 0, .int .i64 0, .slice none 0 0] #[.int .i64 0, .int .i64 0, .int .i64 0, .int .i64 0, .slice none 0 0] #[.int .i64 0, .int .i64 0, .int .i64 0, .int .i64 0, .slice none 0 0] rfl rfl HP.out.res size_rep (by kernel_rfl) (Nat.le_of_eq rfl) (by kernel_rfl) ?_; intro w9 hB9 hA9))
        exact bodyPost_ret (v := .tuple #[.agg #[.int .i64 0, .int .i64 0, .int .i64 0, .int .i64 0, .slice none 0 0], .int .i64 0, .int .i64 2]) (ans_rep3 (c := 0) (e := rpE0) rfl rfl rfl rfl hB9) rfl (parse_err HE.out (HP.out.below.trans (hA9.below HP.out.below.size (Nat.le_refl _))))
      case false =>
        rw [show (rpCls c != 0) = true by rw [bne, hq1]; rfl] at HFC
        cases hq2 : (c != c0)
        case true =>
          rw [show (c == c0) = false by rw [bne] at hq2; simpa using hq2] at HFC
          have HE := Lib.hid (show rpParse l = ⟨rp0, 0, 2⟩ from HAT.out 2 (by rw [HS.out, HFC.out]; rfl) (by decide) (by decide))
          go_wp2_with (first | (go_at_call 22; (with_reducible refine (HCt.out _).mono ?_); rintro x w' ⟨rfl, rfl⟩) | (go_at_call 22; (with_reducible refine (HCl.out _).mono ?_); rintro x w' ⟨rfl, rfl⟩) | (go_at_call 16; (with_reducible refine (HKl.out _).mono ?_); rintro x w' ⟨rfl, rfl⟩) | (go_at_call 23; (with_reducible refine (HSh.out _).mono ?_); rintro x w' ⟨rfl, rfl⟩) | (refine wpList_store_blk rfl 25 _ _ rfl w.heap.size 0 25 #[.int .i64 0, .int .i64 0, .int .i64 0, .int .i64 0, .slice none 0 0] #[.int .i64 0, .int .i64 0, .int .i64 0, .int .i64 0, .slice none 0 0] #[.int .i64 0, .int .i64 0, .int .i64 0, .int .i64 0, .slice none 0 0] rfl rfl HP.out.res size_rep (by kernel_rfl) (Nat.le_of_eq rfl) (by kernel_rfl) ?_; intro w9 hB9 hA9))
          exact bodyPost_ret (v := .tuple #[.agg #[.int .i64 0, .int .i64 0, .int .i64 0, .int .i64 0, .slice none 0 0], .int .i64 0, .int .i64 2]) (ans_rep3 (c := 0) (e := rpE0) rfl rfl rfl rfl hB9) rfl (parse_err HE.out (HP.out.below.trans (hA9.below HP.out.below.size (Nat.le_refl _))))
        case false =>
          rw [show (c == c0) = true by rw [bne] at hq2; simpa using hq2] at HFC
          cases hq3 : t.all rpPr
          case false =>
            rw [hq3] at HFC HSh
            have HE := Lib.hid (show rpParse l = ⟨rp0, 0, 2⟩ from HAT.out 2 (by rw [HS.out, HFC.out]; rfl) (by decide) (by decide))
            go_wp2_with (first | (go_at_call 22; (with_reducible refine (HCt.out _).mono ?_); rintro x w' ⟨rfl, rfl⟩) | (go_at_call 22; (with_reducible refine (HCl.out _).mono ?_); rintro x w' ⟨rfl, rfl⟩) | (go_at_call 16; (with_reducible refine (HKl.out _).mono ?_); rintro x w' ⟨rfl, rfl⟩) | (go_at_call 23; (with_reducible refine (HSh.out _).mono ?_); rintro x w' ⟨rfl, rfl⟩) | (refine wpList_store_blk rfl 25 _ _ rfl w.heap.size 0 25 #[.int .i64 0, .int .i64 0, .int .i64 0, .int .i64 0, .slice none 0 0] #[.int .i64 0, .int .i64 0, .int .i64 0, .int .i64 0, .slice none 0 0] #[.int .i64 0, .int .i64 0, .int .i64 0, .int .i64 0, .slice none 0 0] rfl rfl HP.out.res size_rep (by kernel_rfl) (Nat.le_of_eq rfl) (by kernel_rfl) ?_; intro w9 hB9 hA9))
            exact bodyPost_ret (v := .tuple #[.agg #[.int .i64 0, .int .i64 0, .int .i64 0, .int .i64 0, .slice none 0 0], .int .i64 0, .int .i64 2]) (ans_rep3 (c := 0) (e := rpE0) rfl rfl rfl rfl hB9) rfl (parse_err HE.out (HP.out.below.trans (hA9.below HP.out.below.size (Nat.le_refl _))))
          case true =>
            rw [hq3] at HFC HSh
            by_cases h3 : 3 < t.length
            · have d3 : decide ((3 : Int) < (t.length : Int)) = true := decide_eq_true (by omega)
              have d3' : decide (3 < t.length) = true := decide_eq_true h3
              obtain ⟨x, hx⟩ : ∃ x : UInt8, (mkS t)[3]'(by omega) = x := ⟨_, rfl⟩
              have hX : t[3]? = some x := by rw [← hx]; have := Lib.data_getElem? (mkS t) 3 (by omega); rwa [mkS_data] at this
              have HX4 := Lib.hid (show ((t.drop 3).head? == some 45) = (x == 45) by rw [List.head?_drop, hX]; rfl)
              rw [hX, decide_eq_false (show ¬ t.length ≤ 3 by omega)] at HFC
              clear hX
              by_cases hx45 : x = 45
              · have e1 : ((x.toNat : Int) != 45) = false := by rw [hx45]; rfl
                have e2 : ((x.toNat : Int) == 45) = true := by rw [hx45]; rfl
                rw [hx45] at HFC HX4
                rw [show ((45 : UInt8) == 45) = true from rfl] at HX4
                have HFM := Lib.hid (show rpFm t = true ∧ t.take 3 = lh.take 3 by have h := HFC.out; rw [show (true && true && true && (false || (some (45 : UInt8) == some 45) || (some (45 : UInt8) == some 32))) = true from rfl, Bool.and_eq_true, beq_iff_eq] at h; exact h)
                rw [show (true && true && true && (false || (some (45 : UInt8) == some 45) || (some (45 : UInt8) == some 32))) = true from rfl] at HFC
                clear hx45
                by_cases h510 : 510 < t.length
                · have d9 : decide ((510 : Int) < (t.length : Int)) = true := decide_eq_true (by omega)
                  have d9' : decide (510 < t.length) = true := decide_eq_true h510
                  have HE := Lib.hid (show rpParse l = ⟨rp0, 0, 3⟩ from HAT.out 3 (by rw [HS.out, HFC.out]; rw [d9']; rfl) (by decide) (by decide))
                  go_wp2_with (first | (go_at_call 22; (with_reducible refine (HCt.out _).mono ?_); rintro x w' ⟨rfl, rfl⟩) | (go_at_call 22; (with_reducible refine (HCl.out _).mono ?_); rintro x w' ⟨rfl, rfl⟩) | (go_at_call 16; (with_reducible refine (HKl.out _).mono ?_); rintro x w' ⟨rfl, rfl⟩) | (go_at_call 23; (with_reducible refine (HSh.out _).mono ?_); rintro x w' ⟨rfl, rfl⟩) | (refine wpList_store_blk rfl 25 _ _ rfl w.heap.size 0 25 #[.int .i64 0, .int .i64 0, .int .i64 0, .int .i64 0, .slice none 0 0] #[.int .i64 0, .int .i64 0, .int .i64 0, .int .i64 0, .slice none 0 0] #[.int .i64 0, .int .i64 0, .int .i64 0, .int .i64 0, .slice none 0 0] rfl rfl HP.out.res size_rep (by kernel_rfl) (Nat.le_of_eq rfl) (by kernel_rfl) ?_; intro w9 hB9 hA9))
                  exact bodyPost_ret (v := .tuple #[.agg #[.int .i64 0, .int .i64 0, .int .i64 0, .int .i64 0, .slice none 0 0], .int .i64 0, .int .i64 3]) (ans_rep3 (c := 0) (e := rpE0) rfl rfl rfl rfl hB9) rfl (parse_err HE.out (HP.out.below.trans (hA9.below HP.out.below.size (Nat.le_refl _))))
                · have d9 : decide ((510 : Int) < (t.length : Int)) = false := decide_eq_false (by omega)
                  have d9' : decide (510 < t.length) = false := decide_eq_false h510
                  by_cases h32 : k = 32
                  · have d8 : decide ((32 : Int) ≤ (k : Int)) = true := decide_eq_true (by omega)
                    have d8' : decide (32 ≤ k) = true := decide_eq_true (by omega)
                    have hs32 : decide (k = 32) = true := decide_eq_true h32
                    clear h32
                    have HE := Lib.hid (show rpParse l = ⟨rp0, 0, 3⟩ from HAT.out 3 (by rw [HS.out, HFC.out]; rw [d9', hs32]; rfl) (by decide) (by decide))
                    go_wp2_with (first | (go_at_call 22; (with_reducible refine (HCt.out _).mono ?_); rintro x w' ⟨rfl, rfl⟩) | (go_at_call 22; (with_reducible refine (HCl.out _).mono ?_); rintro x w' ⟨rfl, rfl⟩) | (go_at_call 16; (with_reducible refine (HKl.out _).mono ?_); rintro x w' ⟨rfl, rfl⟩) | (go_at_call 23; (with_reducible refine (HSh.out _).mono ?_); rintro x w' ⟨rfl, rfl⟩) | (refine wpList_store_blk rfl 25 _ _ rfl w.heap.size 0 25 #[.int .i64 0, .int .i64 0, .int .i64 0, .int .i64 0, .slice none 0 0] #[.int .i64 0, .int .i64 0, .int .i64 0, .int .i64 0, .slice none 0 0] #[.int .i64 0, .int .i64 0, .int .i64 0, .int .i64 0, .slice none 0 0] rfl rfl HP.out.res size_rep (by kernel_rfl) (Nat.le_of_eq rfl) (by kernel_rfl) ?_; intro w9 hB9 hA9))
                    exact bodyPost_ret (v := .tuple #[.agg #[.int .i64 0, .int .i64 0, .int .i64 0, .int .i64 0, .slice none 0 0], .int .i64 0, .int .i64 3]) (ans_rep3 (c := 0) (e := rpE0) rfl rfl rfl rfl hB9) rfl (parse_err HE.out (HP.out.below.trans (hA9.below HP.out.below.size (Nat.le_refl _))))
                  · have d8 : decide ((32 : Int) ≤ (k : Int)) = false := decide_eq_false (by omega)
                    have d8' : decide (32 ≤ k) = false := decide_eq_false (by omega)
                    have hs32 : decide (k = 32) = false := decide_eq_false h32
                    have hk31 : k < 32 := by omega
                    by_cases h4 : 4 < t.length
                    · have d5 : decide ((4 : Int) < (t.length : Int)) = true := decide_eq_true (by omega)
                      have d5' : decide (4 < t.length) = true := decide_eq_true h4
                      have hi4 : (4 : Int) ≤ (t.length : Int) := by omega
                      have HJ1 := Lib.hid (HJ.out.more HTK.out (by rw [HS.out, HFC.out, d9', hs32, HX4.out]; rfl) HFM.out.1 HFM.out.2)
                      clear d9' hs32
                      go_wp2_with (first | (go_at_call 22; (with_reducible refine (HCt.out _).mono ?_); rintro x w' ⟨rfl, rfl⟩) | (go_at_call 22; (with_reducible refine (HCl.out _).mono ?_); rintro x w' ⟨rfl, rfl⟩) | (go_at_call 16; (with_reducible refine (HKl.out _).mono ?_); rintro x w' ⟨rfl, rfl⟩) | (go_at_call 23; (with_reducible refine (HSh.out _).mono ?_); rintro x w' ⟨rfl, rfl⟩) | (at_builtin; refine app_strs rfl (.tmp 73) (.tmp 76) rfl (w.heap.size + 1) (.slice A1 Lk.length cp) Lk rfl (own_below HP.out.row (below_box wr _)) ⟨wr.heap.size, 0, none⟩ 1 1 [t.drop 4] rfl rfl (news_one wr (t.drop 4)) (by have := HLL.out; omega) (by have := ltOf HP.out.res; simp; omega) ?_; intro v1 w3 hown hg ho; have HP3 := Lib.hid (PZ.app (L' := Lk ++ [t.drop 4]) HP.out hown hg); clear hown hg ho; obtain ⟨A2, cp2, rfl⟩ := strs_slice HP3.out.row))
                      have HP4 := Lib.hid (show PZ w (.slice A2 (Lk ++ [t.drop 4]).length cp2) ((l.take (k + 1)).map (·.drop 4)) w3 by rw [HTT.out]; exact HP3.out)
                      go_roundw
                      case rel => exact ⟨k + 1, by omega, by omega, by go_num, Lib.hid (by have h := HP4.out; rwa [show (Lk ++ [t.drop 4]).length = Lk.length + 1 by simp] at h), HJ1⟩
                      case measure => simp [intOf]; omega
                    · have d5 : decide ((4 : Int) < (t.length : Int)) = false := decide_eq_false (by omega)
                      have d5' : decide (4 < t.length) = false := decide_eq_false h4
                      have hdn := Lib.hid (drop4_nil (t := t) (by omega))
                      have HJ1 := Lib.hid (HJ.out.more HTK.out (by rw [HS.out, HFC.out, d9', hs32, HX4.out]; rfl) HFM.out.1 HFM.out.2)
                      clear d9' hs32
                      go_wp2_with (first | (go_at_call 22; (with_reducible refine (HCt.out _).mono ?_); rintro x w' ⟨rfl, rfl⟩) | (go_at_call 22; (with_reducible refine (HCl.out _).mono ?_); rintro x w' ⟨rfl, rfl⟩) | (go_at_call 16; (with_reducible refine (HKl.out _).mono ?_); rintro x w' ⟨rfl, rfl⟩) | (go_at_call 23; (with_reducible refine (HSh.out _).mono ?_); rintro x w' ⟨rfl, rfl⟩) | (at_builtin; refine app_strs rfl (.tmp 78) (.tmp 79) rfl (w.heap.size + 1) (.slice A1 Lk.length cp) Lk rfl (own_below HP.out.row (below_box wr _)) ⟨wr.heap.size, 0, none⟩ 1 1 [([] : Txt)] rfl rfl (news_one wr (([] : Txt))) (by have := HLL.out; omega) (by have := ltOf HP.out.res; simp; omega) ?_; intro v1 w3 hown hg ho; have HP3 := Lib.hid (PZ.app (L' := Lk ++ [([] : Txt)]) HP.out hown hg); clear hown hg ho; obtain ⟨A2, cp2, rfl⟩ := strs_slice HP3.out.row))
                      have HP4 := Lib.hid (show PZ w (.slice A2 (Lk ++ [([] : Txt)]).length cp2) ((l.take (k + 1)).map (·.drop 4)) w3 by rw [HTT.out, hdn.out]; exact HP3.out)
                      go_roundw
                      case rel => exact ⟨k + 1, by omega, by omega, by go_num, Lib.hid (by have h := HP4.out; rwa [show (Lk ++ [([] : Txt)]).length = Lk.length + 1 by simp] at h), HJ1⟩
                      case measure => simp [intOf]; omega
              · have e1 : ((x.toNat : Int) != 45) = true := bne_iff_ne.2 (fun h => hx45 (UInt8.toNat_inj.1 (show x.toNat = 45 by omega)))
                have e2 : ((x.toNat : Int) == 45) = false := beq_eq_false_iff_ne.2 (fun h => hx45 (UInt8.toNat_inj.1 (show x.toNat = 45 by omega)))
                rw [show (x == 45) = false from beq_eq_false_iff_ne.2 hx45] at HX4
                rw [show (some x == some (45 : UInt8)) = false from beq_eq_false_iff_ne.2 (fun h => hx45 (by injection h))] at HFC
                clear hx45
                by_cases hx32 : x = 32
                · have e3 : ((x.toNat : Int) != 32) = false := by rw [hx32]; rfl
                  rw [hx32] at HFC
                  rw [show (true && true && true && (false || false || (some (32 : UInt8) == some 32))) = true from rfl] at HFC
                  clear hx32
                  by_cases h510 : 510 < t.length
                  · have d9 : decide ((510 : Int) < (t.length : Int)) = true := decide_eq_true (by omega)
                    have d9' : decide (510 < t.length) = true := decide_eq_true h510
                    have HE := Lib.hid (show rpParse l = ⟨rp0, 0, 3⟩ from HAT.out 3 (by rw [HS.out, HFC.out]; rw [d9']; rfl) (by decide) (by decide))
                    go_wp2_with (first | (go_at_call 22; (with_reducible refine (HCt.out _).mono ?_); rintro x w' ⟨rfl, rfl⟩) | (go_at_call 22; (with_reducible refine (HCl.out _).mono ?_); rintro x w' ⟨rfl, rfl⟩) | (go_at_call 16; (with_reducible refine (HKl.out _).mono ?_); rintro x w' ⟨rfl, rfl⟩) | (go_at_call 23; (with_reducible refine (HSh.out _).mono ?_); rintro x w' ⟨rfl, rfl⟩) | (refine wpList_store_blk rfl 25 _ _ rfl w.heap.size 0 25 #[.int .i64 0, .int .i64 0, .int .i64 0, .int .i64 0, .slice none 0 0] #[.int .i64 0, .int .i64 0, .int .i64 0, .int .i64 0, .slice none 0 0] #[.int .i64 0, .int .i64 0, .int .i64 0, .int .i64 0, .slice none 0 0] rfl rfl HP.out.res size_rep (by kernel_rfl) (Nat.le_of_eq rfl) (by kernel_rfl) ?_; intro w9 hB9 hA9))
                    exact bodyPost_ret (v := .tuple #[.agg #[.int .i64 0, .int .i64 0, .int .i64 0, .int .i64 0, .slice none 0 0], .int .i64 0, .int .i64 3]) (ans_rep3 (c := 0) (e := rpE0) rfl rfl rfl rfl hB9) rfl (parse_err HE.out (HP.out.below.trans (hA9.below HP.out.below.size (Nat.le_refl _))))
                  · have d9 : decide ((510 : Int) < (t.length : Int)) = false := decide_eq_false (by omega)
                    have d9' : decide (510 < t.length) = false := decide_eq_false h510
                    by_cases h32 : k = 32
                    · have d8 : decide ((32 : Int) ≤ (k : Int)) = true := decide_eq_true (by omega)
                      have d8' : decide (32 ≤ k) = true := decide_eq_true (by omega)
                      have hs32 : decide (k = 32) = true := decide_eq_true h32
                      clear h32
                      have HE := Lib.hid (show rpParse l = ⟨rp0, 0, 3⟩ from HAT.out 3 (by rw [HS.out, HFC.out]; rw [d9', hs32]; rfl) (by decide) (by decide))
                      go_wp2_with (first | (go_at_call 22; (with_reducible refine (HCt.out _).mono ?_); rintro x w' ⟨rfl, rfl⟩) | (go_at_call 22; (with_reducible refine (HCl.out _).mono ?_); rintro x w' ⟨rfl, rfl⟩) | (go_at_call 16; (with_reducible refine (HKl.out _).mono ?_); rintro x w' ⟨rfl, rfl⟩) | (go_at_call 23; (with_reducible refine (HSh.out _).mono ?_); rintro x w' ⟨rfl, rfl⟩) | (refine wpList_store_blk rfl 25 _ _ rfl w.heap.size 0 25 #[.int .i64 0, .int .i64 0, .int .i64 0, .int .i64 0, .slice none 0 0] #[.int .i64 0, .int .i64 0, .int .i64 0, .int .i64 0, .slice none 0 0] #[.int .i64 0, .int .i64 0, .int .i64 0, .int .i64 0, .slice none 0 0] rfl rfl HP.out.res size_rep (by kernel_rfl) (Nat.le_of_eq rfl) (by kernel_rfl) ?_; intro w9 hB9 hA9))
                      exact bodyPost_ret (v := .tuple #[.agg #[.int .i64 0, .int .i64 0, .int .i64 0, .int .i64 0, .slice none 0 0], .int .i64 0, .int .i64 3]) (ans_rep3 (c := 0) (e := rpE0) rfl rfl rfl rfl hB9) rfl (parse_err HE.out (HP.out.below.trans (hA9.below HP.out.below.size (Nat.le_refl _))))
                    · have d8 : decide ((32 : Int) ≤ (k : Int)) = false := decide_eq_false (by omega)
                      have d8' : decide (32 ≤ k) = false := decide_eq_false (by omega)
                      have hs32 : decide (k = 32) = false := decide_eq_false h32
                      have hk31 : k < 32 := by omega
                      by_cases h4 : 4 < t.length
                      · have d5 : decide ((4 : Int) < (t.length : Int)) = true := decide_eq_true (by omega)
                        have d5' : decide (4 < t.length) = true := decide_eq_true h4
                        have hi4 : (4 : Int) ≤ (t.length : Int) := by omega
                        have HS1 := Lib.hid (show rpStp lh k t = 1 by rw [HS.out, HFC.out, d9', hs32, HX4.out]; rfl)
                        clear d9' hs32
                        obtain ⟨t0, ht0⟩ : ∃ t0, (Lk ++ [t.drop 4])[0]? = some t0 := ⟨_, List.getElem?_eq_getElem (by simp)⟩
                        have HC3 := Lib.hid (code3r hq1 hq2 HCQ0.out)
                        go_wp2_with (first | (go_at_call 22; (with_reducible refine (HCt.out _).mono ?_); rintro x w' ⟨rfl, rfl⟩) | (go_at_call 22; (with_reducible refine (HCl.out _).mono ?_); rintro x w' ⟨rfl, rfl⟩) | (go_at_call 16; (with_reducible refine (HKl.out _).mono ?_); rintro x w' ⟨rfl, rfl⟩) | (go_at_call 23; (with_reducible refine (HSh.out _).mono ?_); rintro x w' ⟨rfl, rfl⟩) | (at_builtin; refine app_strs rfl (.tmp 73) (.tmp 76) rfl (w.heap.size + 1) (.slice A1 Lk.length cp) Lk rfl (own_below HP.out.row (below_box wr _)) ⟨wr.heap.size, 0, none⟩ 1 1 [t.drop 4] rfl rfl (news_one wr (t.drop 4)) (by have := HLL.out; omega) (by have := ltOf HP.out.res; simp; omega) ?_; intro v1 w3 hown hg ho; have HP3 := Lib.hid (PZ.app (L' := Lk ++ [t.drop 4]) HP.out hown hg); clear hown hg ho; obtain ⟨A2, cp2, rfl⟩ := strs_slice HP3.out.row; rw [show (Lk ++ [t.drop 4]).length = Lk.length + 1 by simp] at HP3; obtain ⟨Aq, rfl, hbq, hcq⟩ := cell0 HP3.out ht0; have hcq2 := ((below_box w3 (.cells #[.int .i64 c, .int .i64 0, .int .i64 0, .int .i64 0, .slice (some Aq) (Lk.length + 1) cp2] 25)).cell hbq).trans hcq))
                        have HR := Lib.hid (show rpParse l = ⟨rpRead (l.take (k + 1)), (k + 1 : Nat), 0⟩ by rw [rpParse, HH.out, scan_at HJ.out.scan HTK.out HS1.out (by decide)]; rfl)
                        have HRd := Lib.hid (show rpRead (l.take (k + 1)) = ⟨c, (rpPart c (Lk ++ [t.drop 4])).1, (rpPart c (Lk ++ [t.drop 4])).2⟩ by
                          rw [read_parts (l.take (k + 1)) lh (by rw [← HH.out]; cases l with | nil => simp at hl0 | cons a b => rfl), HTT.out, HC3.out])
                        have HTZ := Lib.hid (show ∀ u ∈ Lk ++ [t.drop 4], u.length ≤ 1000 from fun u hu => by
                          rw [show Lk ++ [t.drop 4] = (l.take (k + 1)).map (·.drop 4) by rw [HTT.out]] at hu
                          obtain ⟨y, hy, rfl⟩ := List.mem_map.1 hu
                          have := HZ.out y (List.mem_of_mem_take hy)
                          simp; omega)
                        have HTL := Lib.hid (show (Lk ++ [t.drop 4]).length = Lk.length + 1 by simp)
                        have HT0 := Lib.hid ht0
                        refine (rread_v c t0 _ (Nat.le_trans (HTZ.out t0 (List.mem_of_getElem? ht0)) (by decide))).mono ?_
                        rintro x w4 ⟨rfl, hb4⟩
                        have HQ := Lib.hid (PQ.new (c := c) HP3.out hb4 (rdE c t0))
                        have HN1 := Lib.hid (show Lk.length + 1 ≤ 40 by have := HLL.out; omega)
                        generalize Lk ++ [t.drop 4] = ts at HR HRd HTZ HTL HT0 HQ
                        generalize Lk.length + 1 = n1 at HTL HQ HN1 ⊢
                        clear HP3 hb4 hcq hcq2 hbq ht0 HTT HFC HS HAT HCt HCl HSh
                        go_wp2_with fail
                        generalize w4.alloc (.cells #[.int .i64 (rdE c t0).1, .int .i64 (rdE c t0).2.1, .int .i64 (rdE c t0).2.2] 23) = wb at HQ ⊢
                        generalize w4.heap.size = b10 at HQ ⊢
                        generalize w3.heap.size = b9 at HQ ⊢
                        have HW0 := Lib.hid (OW.new wb)
                        go_loopw [12, 13, 14] (fun q o j wr => ∃ m : Nat, m ≤ n1 ∧ j = .int .i64 (m : Int) ∧ q = .bool (okP c t0 ts m) ∧ Hid (OW wb o ((ts.take m).map (rdR c)) wr)) (fun _ _ j _ => n1 - (intOf j).toNat)
                        case atStart => exact ⟨0, Nat.zero_le _, rfl, by rw [okP_0], HW0⟩
                        case round =>
                          clear HW0
                          rename_i wr2
                          obtain ⟨m, hm, rfl, rfl, HO⟩ := hrel
                          have hm40 : m ≤ 40 := by have := HN1.out; omega
                          have HLm := Lib.hid (show ((ts.take m).map (rdR c)).length ≤ 2000 by rw [List.length_map, List.length_take]; have := HTL.out; have := HN1.out; omega)
                          have HM := Lib.hid (fun u (h : ts[m]? = some u) => show (ts.take (m + 1)).map (rdR c) = (ts.take m).map (rdR c) ++ [rdR c u] by
                            obtain ⟨h1, h2⟩ := List.getElem?_eq_some_iff.1 h
                            rw [List.take_succ_eq_append_getElem h1, h2]; simp)
                          have HLE := Lib.hid (show m = n1 → (ts.take m).map (rdR c) = ts.map (rdR c) from fun h => by rw [List.take_of_length_le (by have := HTL.out; omega)])
                          generalize (ts.take m).map (rdR c) = Lm at HO HLm HM HLE
                          obtain ⟨Ao, co, rfl⟩ := strs_slice HO.out.row
                          by_cases hml : m < n1
                          · obtain ⟨u, hu⟩ : ∃ u, ts[m]? = some u := ⟨_, List.getElem?_eq_getElem (by have := HTL.out; omega)⟩
                            have HSrc := Lib.hid (own_txts (HQ.out.next HO.out.below).row)
                            obtain ⟨a', cap', hv', _, _, hcc⟩ := HSrc.out
                            injection hv' with hv1 hv2 hv3
                            subst hv1
                            obtain ⟨A', hA', hlt', hcu⟩ := hcc m u hu
                            injection hA' with hA'
                            subst hA'
                            have HU := Lib.hid hu
                            have hul := HTZ.out u (List.mem_of_getElem? hu)
                            have HUN := Lib.hid (HM.out u hu)
                            clear hcc hu hlt' HM hv2 hv3
                            go_wp2_with fail
                            refine (rread_v c u _ (Nat.le_trans hul (by decide))).mono ?_
                            rintro x w5 ⟨rfl, hb5⟩
                            have HO6 := Lib.hid ((HO.out.next hb5).next (below_box w5 (.cells #[.int .i64 (rdE c u).1, .int .i64 (rdE c u).2.1, .int .i64 (rdE c u).2.2] 23)))
                            clear hb5
                            have HQ6 := Lib.hid (HQ.out.next HO6.out.below)
                            have j0 := cellOf HQ6.out.arr 0
                            have j1 := cellOf HQ6.out.arr 1
                            have j2 := cellOf HQ6.out.arr 2
                            have he : ∀ w, (Op.equalIn 10000 23 (.agg #[.int .i64 (rdE c u).1, .int .i64 (rdE c u).2.1, .int .i64 (rdE c u).2.2]) (.agg #[.int .i64 (rdE c t0).1, .int .i64 (rdE c t0).2.1, .int .i64 (rdE c t0).2.2])).run Tryd.prog w = .ok (rdE c u == rdE c t0) w := fun w => eqE3 _ _ w
                            cases hok : okP c t0 ts m
                            · have HK := Lib.hid (okP_no hok)
                              clear hok he
                              go_wp2_with (at_builtin; refine app_strs rfl (.tmp 126) (.tmp 128) rfl wb.heap.size (.slice Ao Lm.length co) Lm rfl (own_below HO6.out.row (below_box _ _)) ⟨w5.heap.size + 1, 0, none⟩ 1 1 [rdR c u] rfl rfl (news_b _ (rdR c u) _ (by simp)) (by have := HLm.out; omega) (by have := HO6.out.below.size; simp at this ⊢; omega) ?_; intro v1 w7 hown hg ho; have HO7 := Lib.hid (OW.app (L' := Lm ++ [rdR c u]) HO6.out hown hg); clear hown hg ho)
                              go_roundw
                              case rel => exact ⟨m + 1, by omega, by go_num, by rw [HK.out], by rw [HUN.out]; exact HO7⟩
                              case measure => simp [intOf]; omega
                            · have HK := Lib.hid (okP_step HU.out hok)
                              clear hok
                              cases hso : (rpFront c u).isSome
                              · have HK := Lib.hid (show okP c t0 ts (m + 1) = false by rw [HK.out, hso]; rfl)
                                clear hso he
                                go_wp2_with (at_builtin; refine app_strs rfl (.tmp 126) (.tmp 128) rfl wb.heap.size (.slice Ao Lm.length co) Lm rfl (own_below HO6.out.row (below_box _ _)) ⟨w5.heap.size + 1, 0, none⟩ 1 1 [rdR c u] rfl rfl (news_b _ (rdR c u) _ (by simp)) (by have := HLm.out; omega) (by have := HO6.out.below.size; simp at this ⊢; omega) ?_; intro v1 w7 hown hg ho; have HO7 := Lib.hid (OW.app (L' := Lm ++ [rdR c u]) HO6.out hown hg); clear hown hg ho)
                                go_roundw
                                case rel => exact ⟨m + 1, by omega, by go_num, by rw [HK.out], by rw [HUN.out]; exact HO7⟩
                                case measure => simp [intOf]; omega
                              · have HK := Lib.hid (show okP c t0 ts (m + 1) = (rdE c u == rdE c t0) by rw [HK.out, hso]; rfl)
                                clear hso
                                go_wp2_with (at_builtin; refine app_strs rfl (.tmp 126) (.tmp 128) rfl wb.heap.size (.slice Ao Lm.length co) Lm rfl (own_below HO6.out.row (below_box _ _)) ⟨w5.heap.size + 1, 0, none⟩ 1 1 [rdR c u] rfl rfl (news_b _ (rdR c u) _ (by simp)) (by have := HLm.out; omega) (by have := HO6.out.below.size; simp at this ⊢; omega) ?_; intro v1 w7 hown hg ho; have HO7 := Lib.hid (OW.app (L' := Lm ++ [rdR c u]) HO6.out hown hg); clear hown hg ho)
                                go_roundw
                                case rel => exact ⟨m + 1, by omega, by go_num, by rw [HK.out], by rw [HUN.out]; exact HO7⟩
                                case measure => simp [intOf]; omega
                          · have hmn : m = n1 := by omega
                            have HLM := Lib.hid (HLE.out hmn)
                            have HTN := Lib.hid (show ts.length = m by rw [HTL.out, hmn])
                            have HQx := Lib.hid (HQ.out.next HO.out.below)
                            have HPT := Lib.hid (part_ok (c := c) (t0 := t0) (ts := ts) (by rw [List.head?_eq_getElem?]; exact HT0.out))
                            rw [HTN.out] at HPT
                            have dm : decide (m < n1) = false := decide_eq_false (by omega)
                            clear HLE HM HLm hml hmn
                            cases hok : okP c t0 ts m
                            · have HRP := Lib.hid (show rpParse l = ⟨⟨c, rpE0, ts⟩, (k + 1 : Nat), 0⟩ by rw [HR.out, HRd.out, HPT.out, hok]; rfl)
                              clear hok
                              have k0 := cellOf HQx.out.box 0
                              have k1 := cellOf HQx.out.box 1
                              have k2 := cellOf HQx.out.box 2
                              have k3 := cellOf HQx.out.box 3
                              have k4 := cellOf HQx.out.box 4
                              go_wp2_with (refine wpList_store_blk rfl 25 _ _ rfl w.heap.size 0 25 #[.int .i64 0, .int .i64 0, .int .i64 0, .int .i64 0, .slice none 0 0] #[.int .i64 c, .int .i64 0, .int .i64 0, .int .i64 0, .slice (some Aq) n1 cp2] #[.int .i64 c, .int .i64 0, .int .i64 0, .int .i64 0, .slice (some Aq) n1 cp2] rfl rfl HQx.out.res size_rep (by kernel_rfl) (Nat.le_of_eq rfl) (by kernel_rfl) ?_; intro w9 hB9 hA9)
                              exact bodyPost_ret (v := .tuple #[.agg #[.int .i64 c, .int .i64 0, .int .i64 0, .int .i64 0, .slice (some Aq) n1 cp2], .int .i64 ((k : Int) + 1), .int .i64 0]) (ans_rep3 (c := c) (e := rpE0) rfl rfl rfl rfl hB9) rfl (parse_got_x HRP.out (own_txts (row_apart HQx.out.row hA9 (Nat.lt_succ_self _))) (HQx.out.below.trans (hA9.below HQx.out.below.size (Nat.le_refl _))))
                            · have HRP := Lib.hid (show rpParse l = ⟨⟨c, rdE c t0, Lm⟩, (k + 1 : Nat), 0⟩ by rw [HR.out, HRd.out, HPT.out, hok, HLM.out]; rfl)
                              clear hok
                              have k0 := cellOf HQx.out.arr 0
                              have k1 := cellOf HQx.out.arr 1
                              have k2 := cellOf HQx.out.arr 2
                              have hg1 := HQx.out.g1
                              go_wp2_with (first | (refine wpList_store_blk rfl 23 _ _ rfl b9 1 25 #[.int .i64 c, .int .i64 0, .int .i64 0, .int .i64 0, .slice (some Aq) n1 cp2] #[.int .i64 (rdE c t0).1, .int .i64 (rdE c t0).2.1, .int .i64 (rdE c t0).2.2] #[.int .i64 c, .int .i64 (rdE c t0).1, .int .i64 (rdE c t0).2.1, .int .i64 (rdE c t0).2.2, .slice (some Aq) n1 cp2] rfl rfl HQx.out.box (by kernel_rfl) (by kernel_rfl) (by simp) (by kernel_rfl) ?_; intro w8 hB8 hA8; have f4 := freeOf hB8 4; have g4 := cellOf hB8 4; have HBs := Lib.hid (setOf hB8 4 (.slice Ao Lm.length co)); have g0' := cellOf HBs.out 0; have g1' := cellOf HBs.out 1; have g2' := cellOf HBs.out 2; have g3' := cellOf HBs.out 3; have g4' := cellOf HBs.out 4; have HA8 := Lib.hid hA8; have HRes := Lib.hid (res3 (i := 4) (v := .slice Ao Lm.length co) HQx.out.res hA8 (Nat.ne_of_lt hg1)); clear hA8) | (refine wpList_store_blk rfl 25 _ _ rfl w.heap.size 0 25 #[.int .i64 0, .int .i64 0, .int .i64 0, .int .i64 0, .slice none 0 0] #[.int .i64 c, .int .i64 (rdE c t0).1, .int .i64 (rdE c t0).2.1, .int .i64 (rdE c t0).2.2, .slice Ao Lm.length co] #[.int .i64 c, .int .i64 (rdE c t0).1, .int .i64 (rdE c t0).2.1, .int .i64 (rdE c t0).2.2, .slice Ao Lm.length co] rfl rfl HRes.out size_rep (by kernel_rfl) (Nat.le_of_eq rfl) (by kernel_rfl) ?_; intro w9 hB9 hA9))
                              exact bodyPost_ret (v := .tuple #[.agg #[.int .i64 c, .int .i64 (rdE c t0).1, .int .i64 (rdE c t0).2.1, .int .i64 (rdE c t0).2.2, .slice Ao Lm.length co], .int .i64 ((k : Int) + 1), .int .i64 0]) (ans_rep3 (c := c) (e := rdE c t0) rfl rfl rfl rfl hB9) rfl (parse_got_x HRP.out (own_txts (row3 HO.out.row HA8.out hA9 (ltOf HQ.out.box) (ltOf HQ.out.res))) (below3 HQx.out.below HA8.out hA9 hg1))
                      · have d5 : decide ((4 : Int) < (t.length : Int)) = false := decide_eq_false (by omega)
                        have d5' : decide (4 < t.length) = false := decide_eq_false h4
                        have hdn := Lib.hid (drop4_nil (t := t) (by omega))
                        have HS1 := Lib.hid (show rpStp lh k t = 1 by rw [HS.out, HFC.out, d9', hs32, HX4.out]; rfl)
                        clear d9' hs32
                        obtain ⟨t0, ht0⟩ : ∃ t0, (Lk ++ [([] : Txt)])[0]? = some t0 := ⟨_, List.getElem?_eq_getElem (by simp)⟩
                        have HC3 := Lib.hid (code3r hq1 hq2 HCQ0.out)
                        go_wp2_with (first | (go_at_call 22; (with_reducible refine (HCt.out _).mono ?_); rintro x w' ⟨rfl, rfl⟩) | (go_at_call 22; (with_reducible refine (HCl.out _).mono ?_); rintro x w' ⟨rfl, rfl⟩) | (go_at_call 16; (with_reducible refine (HKl.out _).mono ?_); rintro x w' ⟨rfl, rfl⟩) | (go_at_call 23; (with_reducible refine (HSh.out _).mono ?_); rintro x w' ⟨rfl, rfl⟩) | (at_builtin; refine app_strs rfl (.tmp 78) (.tmp 79) rfl (w.heap.size + 1) (.slice A1 Lk.length cp) Lk rfl (own_below HP.out.row (below_box wr _)) ⟨wr.heap.size, 0, none⟩ 1 1 [([] : Txt)] rfl rfl (news_one wr (([] : Txt))) (by have := HLL.out; omega) (by have := ltOf HP.out.res; simp; omega) ?_; intro v1 w3 hown hg ho; have HP3 := Lib.hid (PZ.app (L' := Lk ++ [([] : Txt)]) HP.out hown hg); clear hown hg ho; obtain ⟨A2, cp2, rfl⟩ := strs_slice HP3.out.row; rw [show (Lk ++ [([] : Txt)]).length = Lk.length + 1 by simp] at HP3; obtain ⟨Aq, rfl, hbq, hcq⟩ := cell0 HP3.out ht0; have hcq2 := ((below_box w3 (.cells #[.int .i64 c, .int .i64 0, .int .i64 0, .int .i64 0, .slice (some Aq) (Lk.length + 1) cp2] 25)).cell hbq).trans hcq))
                        have HR := Lib.hid (show rpParse l = ⟨rpRead (l.take (k + 1)), (k + 1 : Nat), 0⟩ by rw [rpParse, HH.out, scan_at HJ.out.scan HTK.out HS1.out (by decide)]; rfl)
                        have HRd := Lib.hid (show rpRead (l.take (k + 1)) = ⟨c, (rpPart c (Lk ++ [([] : Txt)])).1, (rpPart c (Lk ++ [([] : Txt)])).2⟩ by
                          rw [read_parts (l.take (k + 1)) lh (by rw [← HH.out]; cases l with | nil => simp at hl0 | cons a b => rfl), HTT.out, hdn.out, HC3.out])
                        have HTZ := Lib.hid (show ∀ u ∈ Lk ++ [([] : Txt)], u.length ≤ 1000 from fun u hu => by
                          rw [show Lk ++ [([] : Txt)] = (l.take (k + 1)).map (·.drop 4) by rw [HTT.out, hdn.out]] at hu
                          obtain ⟨y, hy, rfl⟩ := List.mem_map.1 hu
                          have := HZ.out y (List.mem_of_mem_take hy)
                          simp; omega)
                        have HTL := Lib.hid (show (Lk ++ [([] : Txt)]).length = Lk.length + 1 by simp)
                        have HT0 := Lib.hid ht0
                        refine (rread_v c t0 _ (Nat.le_trans (HTZ.out t0 (List.mem_of_getElem? ht0)) (by decide))).mono ?_
                        rintro x w4 ⟨rfl, hb4⟩
                        have HQ := Lib.hid (PQ.new (c := c) HP3.out hb4 (rdE c t0))
                        have HN1 := Lib.hid (show Lk.length + 1 ≤ 40 by have := HLL.out; omega)
                        generalize Lk ++ [([] : Txt)] = ts at HR HRd HTZ HTL HT0 HQ
                        generalize Lk.length + 1 = n1 at HTL HQ HN1 ⊢
                        clear HP3 hb4 hcq hcq2 hbq ht0 HTT HFC HS HAT HCt HCl HSh
                        go_wp2_with fail
                        generalize w4.alloc (.cells #[.int .i64 (rdE c t0).1, .int .i64 (rdE c t0).2.1, .int .i64 (rdE c t0).2.2] 23) = wb at HQ ⊢
                        generalize w4.heap.size = b10 at HQ ⊢
                        generalize w3.heap.size = b9 at HQ ⊢
                        have HW0 := Lib.hid (OW.new wb)
                        go_loopw [12, 13, 14] (fun q o j wr => ∃ m : Nat, m ≤ n1 ∧ j = .int .i64 (m : Int) ∧ q = .bool (okP c t0 ts m) ∧ Hid (OW wb o ((ts.take m).map (rdR c)) wr)) (fun _ _ j _ => n1 - (intOf j).toNat)
                        case atStart => exact ⟨0, Nat.zero_le _, rfl, by rw [okP_0], HW0⟩
                        case round =>
                          clear HW0
                          rename_i wr2
                          obtain ⟨m, hm, rfl, rfl, HO⟩ := hrel
                          have hm40 : m ≤ 40 := by have := HN1.out; omega
                          have HLm := Lib.hid (show ((ts.take m).map (rdR c)).length ≤ 2000 by rw [List.length_map, List.length_take]; have := HTL.out; have := HN1.out; omega)
                          have HM := Lib.hid (fun u (h : ts[m]? = some u) => show (ts.take (m + 1)).map (rdR c) = (ts.take m).map (rdR c) ++ [rdR c u] by
                            obtain ⟨h1, h2⟩ := List.getElem?_eq_some_iff.1 h
                            rw [List.take_succ_eq_append_getElem h1, h2]; simp)
                          have HLE := Lib.hid (show m = n1 → (ts.take m).map (rdR c) = ts.map (rdR c) from fun h => by rw [List.take_of_length_le (by have := HTL.out; omega)])
                          generalize (ts.take m).map (rdR c) = Lm at HO HLm HM HLE
                          obtain ⟨Ao, co, rfl⟩ := strs_slice HO.out.row
                          by_cases hml : m < n1
                          · obtain ⟨u, hu⟩ : ∃ u, ts[m]? = some u := ⟨_, List.getElem?_eq_getElem (by have := HTL.out; omega)⟩
                            have HSrc := Lib.hid (own_txts (HQ.out.next HO.out.below).row)
                            obtain ⟨a', cap', hv', _, _, hcc⟩ := HSrc.out
                            injection hv' with hv1 hv2 hv3
                            subst hv1
                            obtain ⟨A', hA', hlt', hcu⟩ := hcc m u hu
                            injection hA' with hA'
                            subst hA'
                            have HU := Lib.hid hu
                            have hul := HTZ.out u (List.mem_of_getElem? hu)
                            have HUN := Lib.hid (HM.out u hu)
                            clear hcc hu hlt' HM hv2 hv3
                            go_wp2_with fail
                            refine (rread_v c u _ (Nat.le_trans hul (by decide))).mono ?_
                            rintro x w5 ⟨rfl, hb5⟩
                            have HO6 := Lib.hid ((HO.out.next hb5).next (below_box w5 (.cells #[.int .i64 (rdE c u).1, .int .i64 (rdE c u).2.1, .int .i64 (rdE c u).2.2] 23)))
                            clear hb5
                            have HQ6 := Lib.hid (HQ.out.next HO6.out.below)
                            have j0 := cellOf HQ6.out.arr 0
                            have j1 := cellOf HQ6.out.arr 1
                            have j2 := cellOf HQ6.out.arr 2
                            have he : ∀ w, (Op.equalIn 10000 23 (.agg #[.int .i64 (rdE c u).1, .int .i64 (rdE c u).2.1, .int .i64 (rdE c u).2.2]) (.agg #[.int .i64 (rdE c t0).1, .int .i64 (rdE c t0).2.1, .int .i64 (rdE c t0).2.2])).run Tryd.prog w = .ok (rdE c u == rdE c t0) w := fun w => eqE3 _ _ w
                            cases hok : okP c t0 ts m
                            · have HK := Lib.hid (okP_no hok)
                              clear hok he
                              go_wp2_with (at_builtin; refine app_strs rfl (.tmp 126) (.tmp 128) rfl wb.heap.size (.slice Ao Lm.length co) Lm rfl (own_below HO6.out.row (below_box _ _)) ⟨w5.heap.size + 1, 0, none⟩ 1 1 [rdR c u] rfl rfl (news_b _ (rdR c u) _ (by simp)) (by have := HLm.out; omega) (by have := HO6.out.below.size; simp at this ⊢; omega) ?_; intro v1 w7 hown hg ho; have HO7 := Lib.hid (OW.app (L' := Lm ++ [rdR c u]) HO6.out hown hg); clear hown hg ho)
                              go_roundw
                              case rel => exact ⟨m + 1, by omega, by go_num, by rw [HK.out], by rw [HUN.out]; exact HO7⟩
                              case measure => simp [intOf]; omega
                            · have HK := Lib.hid (okP_step HU.out hok)
                              clear hok
                              cases hso : (rpFront c u).isSome
                              · have HK := Lib.hid (show okP c t0 ts (m + 1) = false by rw [HK.out, hso]; rfl)
                                clear hso he
                                go_wp2_with (at_builtin; refine app_strs rfl (.tmp 126) (.tmp 128) rfl wb.heap.size (.slice Ao Lm.length co) Lm rfl (own_below HO6.out.row (below_box _ _)) ⟨w5.heap.size + 1, 0, none⟩ 1 1 [rdR c u] rfl rfl (news_b _ (rdR c u) _ (by simp)) (by have := HLm.out; omega) (by have := HO6.out.below.size; simp at this ⊢; omega) ?_; intro v1 w7 hown hg ho; have HO7 := Lib.hid (OW.app (L' := Lm ++ [rdR c u]) HO6.out hown hg); clear hown hg ho)
                                go_roundw
                                case rel => exact ⟨m + 1, by omega, by go_num, by rw [HK.out], by rw [HUN.out]; exact HO7⟩
                                case measure => simp [intOf]; omega
                              · have HK := Lib.hid (show okP c t0 ts (m + 1) = (rdE c u == rdE c t0) by rw [HK.out, hso]; rfl)
                                clear hso
                                go_wp2_with (at_builtin; refine app_strs rfl (.tmp 126) (.tmp 128) rfl wb.heap.size (.slice Ao Lm.length co) Lm rfl (own_below HO6.out.row (below_box _ _)) ⟨w5.heap.size + 1, 0, none⟩ 1 1 [rdR c u] rfl rfl (news_b _ (rdR c u) _ (by simp)) (by have := HLm.out; omega) (by have := HO6.out.below.size; simp at this ⊢; omega) ?_; intro v1 w7 hown hg ho; have HO7 := Lib.hid (OW.app (L' := Lm ++ [rdR c u]) HO6.out hown hg); clear hown hg ho)
                                go_roundw
                                case rel => exact ⟨m + 1, by omega, by go_num, by rw [HK.out], by rw [HUN.out]; exact HO7⟩
                                case measure => simp [intOf]; omega
                          · have hmn : m = n1 := by omega
                            have HLM := Lib.hid (HLE.out hmn)
                            have HTN := Lib.hid (show ts.length = m by rw [HTL.out, hmn])
                            have HQx := Lib.hid (HQ.out.next HO.out.below)
                            have HPT := Lib.hid (part_ok (c := c) (t0 := t0) (ts := ts) (by rw [List.head?_eq_getElem?]; exact HT0.out))
                            rw [HTN.out] at HPT
                            have dm : decide (m < n1) = false := decide_eq_false (by omega)
                            clear HLE HM HLm hml hmn
                            cases hok : okP c t0 ts m
                            · have HRP := Lib.hid (show rpParse l = ⟨⟨c, rpE0, ts⟩, (k + 1 : Nat), 0⟩ by rw [HR.out, HRd.out, HPT.out, hok]; rfl)
                              clear hok
                              have k0 := cellOf HQx.out.box 0
                              have k1 := cellOf HQx.out.box 1
                              have k2 := cellOf HQx.out.box 2
                              have k3 := cellOf HQx.out.box 3
                              have k4 := cellOf HQx.out.box 4
                              go_wp2_with (refine wpList_store_blk rfl 25 _ _ rfl w.heap.size 0 25 #[.int .i64 0, .int .i64 0, .int .i64 0, .int .i64 0, .slice none 0 0] #[.int .i64 c, .int .i64 0, .int .i64 0, .int .i64 0, .slice (some Aq) n1 cp2] #[.int .i64 c, .int .i64 0, .int .i64 0, .int .i64 0, .slice (some Aq) n1 cp2] rfl rfl HQx.out.res size_rep (by kernel_rfl) (Nat.le_of_eq rfl) (by kernel_rfl) ?_; intro w9 hB9 hA9)
                              exact bodyPost_ret (v := .tuple #[.agg #[.int .i64 c, .int .i64 0, .int .i64 0, .int .i64 0, .slice (some Aq) n1 cp2], .int .i64 ((k : Int) + 1), .int .i64 0]) (ans_rep3 (c := c) (e := rpE0) rfl rfl rfl rfl hB9) rfl (parse_got_x HRP.out (own_txts (row_apart HQx.out.row hA9 (Nat.lt_succ_self _))) (HQx.out.below.trans (hA9.below HQx.out.below.size (Nat.le_refl _))))
                            · have HRP := Lib.hid (show rpParse l = ⟨⟨c, rdE c t0, Lm⟩, (k + 1 : Nat), 0⟩ by rw [HR.out, HRd.out, HPT.out, hok, HLM.out]; rfl)
                              clear hok
                              have k0 := cellOf HQx.out.arr 0
                              have k1 := cellOf HQx.out.arr 1
                              have k2 := cellOf HQx.out.arr 2
                              have hg1 := HQx.out.g1
                              go_wp2_with (first | (refine wpList_store_blk rfl 23 _ _ rfl b9 1 25 #[.int .i64 c, .int .i64 0, .int .i64 0, .int .i64 0, .slice (some Aq) n1 cp2] #[.int .i64 (rdE c t0).1, .int .i64 (rdE c t0).2.1, .int .i64 (rdE c t0).2.2] #[.int .i64 c, .int .i64 (rdE c t0).1, .int .i64 (rdE c t0).2.1, .int .i64 (rdE c t0).2.2, .slice (some Aq) n1 cp2] rfl rfl HQx.out.box (by kernel_rfl) (by kernel_rfl) (by simp) (by kernel_rfl) ?_; intro w8 hB8 hA8; have f4 := freeOf hB8 4; have g4 := cellOf hB8 4; have HBs := Lib.hid (setOf hB8 4 (.slice Ao Lm.length co)); have g0' := cellOf HBs.out 0; have g1' := cellOf HBs.out 1; have g2' := cellOf HBs.out 2; have g3' := cellOf HBs.out 3; have g4' := cellOf HBs.out 4; have HA8 := Lib.hid hA8; have HRes := Lib.hid (res3 (i := 4) (v := .slice Ao Lm.length co) HQx.out.res hA8 (Nat.ne_of_lt hg1)); clear hA8) | (refine wpList_store_blk rfl 25 _ _ rfl w.heap.size 0 25 #[.int .i64 0, .int .i64 0, .int .i64 0, .int .i64 0, .slice none 0 0] #[.int .i64 c, .int .i64 (rdE c t0).1, .int .i64 (rdE c t0).2.1, .int .i64 (rdE c t0).2.2, .slice Ao Lm.length co] #[.int .i64 c, .int .i64 (rdE c t0).1, .int .i64 (rdE c t0).2.1, .int .i64 (rdE c t0).2.2, .slice Ao Lm.length co] rfl rfl HRes.out size_rep (by kernel_rfl) (Nat.le_of_eq rfl) (by kernel_rfl) ?_; intro w9 hB9 hA9))
                              exact bodyPost_ret (v := .tuple #[.agg #[.int .i64 c, .int .i64 (rdE c t0).1, .int .i64 (rdE c t0).2.1, .int .i64 (rdE c t0).2.2, .slice Ao Lm.length co], .int .i64 ((k : Int) + 1), .int .i64 0]) (ans_rep3 (c := c) (e := rdE c t0) rfl rfl rfl rfl hB9) rfl (parse_got_x HRP.out (own_txts (row3 HO.out.row HA8.out hA9 (ltOf HQ.out.box) (ltOf HQ.out.res))) (below3 HQx.out.below HA8.out hA9 hg1))
                · have e3 : ((x.toNat : Int) != 32) = true := bne_iff_ne.2 (fun h => hx32 (UInt8.toNat_inj.1 (show x.toNat = 32 by omega)))
                  rw [show (some x == some (32 : UInt8)) = false from beq_eq_false_iff_ne.2 (fun h => hx32 (by injection h))] at HFC
                  clear hx32
                  have HE := Lib.hid (show rpParse l = ⟨rp0, 0, 2⟩ from HAT.out 2 (by rw [HS.out, HFC.out]; rfl) (by decide) (by decide))
                  go_wp2_with (first | (go_at_call 22; (with_reducible refine (HCt.out _).mono ?_); rintro x w' ⟨rfl, rfl⟩) | (go_at_call 22; (with_reducible refine (HCl.out _).mono ?_); rintro x w' ⟨rfl, rfl⟩) | (go_at_call 16; (with_reducible refine (HKl.out _).mono ?_); rintro x w' ⟨rfl, rfl⟩) | (go_at_call 23; (with_reducible refine (HSh.out _).mono ?_); rintro x w' ⟨rfl, rfl⟩) | (refine wpList_store_blk rfl 25 _ _ rfl w.heap.size 0 25 #[.int .i64 0, .int .i64 0, .int .i64 0, .int .i64 0, .slice none 0 0] #[.int .i64 0, .int .i64 0, .int .i64 0, .int .i64 0, .slice none 0 0] #[.int .i64 0, .int .i64 0, .int .i64 0, .int .i64 0, .slice none 0 0] rfl rfl HP.out.res size_rep (by kernel_rfl) (Nat.le_of_eq rfl) (by kernel_rfl) ?_; intro w9 hB9 hA9))
                  exact bodyPost_ret (v := .tuple #[.agg #[.int .i64 0, .int .i64 0, .int .i64 0, .int .i64 0, .slice none 0 0], .int .i64 0, .int .i64 2]) (ans_rep3 (c := 0) (e := rpE0) rfl rfl rfl rfl hB9) rfl (parse_err HE.out (HP.out.below.trans (hA9.below HP.out.below.size (Nat.le_refl _))))
            · have d3 : decide ((3 : Int) < (t.length : Int)) = false := decide_eq_false (by omega)
              have d3' : decide (3 < t.length) = false := decide_eq_false h3
              have HX4 := Lib.hid (show ((t.drop 3).head? == some 45) = false by rw [List.head?_drop, List.getElem?_eq_none (by omega)]; rfl)
              rw [decide_eq_true (show t.length ≤ 3 by omega)] at HFC
              rw [show (true && true && true && (true || t[3]? == some 45 || t[3]? == some 32)) = true from rfl] at HFC
              by_cases h510 : 510 < t.length
              · have d9 : decide ((510 : Int) < (t.length : Int)) = true := decide_eq_true (by omega)
                have d9' : decide (510 < t.length) = true := decide_eq_true h510
                have HE := Lib.hid (show rpParse l = ⟨rp0, 0, 3⟩ from HAT.out 3 (by rw [HS.out, HFC.out]; rw [d9']; rfl) (by decide) (by decide))
                go_wp2_with (first | (go_at_call 22; (with_reducible refine (HCt.out _).mono ?_); rintro x w' ⟨rfl, rfl⟩) | (go_at_call 22; (with_reducible refine (HCl.out _).mono ?_); rintro x w' ⟨rfl, rfl⟩) | (go_at_call 16; (with_reducible refine (HKl.out _).mono ?_); rintro x w' ⟨rfl, rfl⟩) | (go_at_call 23; (with_reducible refine (HSh.out _).mono ?_); rintro x w' ⟨rfl, rfl⟩) | (refine wpList_store_blk rfl 25 _ _ rfl w.heap.size 0 25 #[.int .i64 0, .int .i64 0, .int .i64 0, .int .i64 0, .slice none 0 0] #[.int .i64 0, .int .i64 0, .int .i64 0, .int .i64 0, .slice none 0 0] #[.int .i64 0, .int .i64 0, .int .i64 0, .int .i64 0, .slice none 0 0] rfl rfl HP.out.res size_rep (by kernel_rfl) (Nat.le_of_eq rfl) (by kernel_rfl) ?_; intro w9 hB9 hA9))
                exact bodyPost_ret (v := .tuple #[.agg #[.int .i64 0, .int .i64 0, .int .i64 0, .int .i64 0, .slice none 0 0], .int .i64 0, .int .i64 3]) (ans_rep3 (c := 0) (e := rpE0) rfl rfl rfl rfl hB9) rfl (parse_err HE.out (HP.out.below.trans (hA9.below HP.out.below.size (Nat.le_refl _))))
              · have d9 : decide ((510 : Int) < (t.length : Int)) = false := decide_eq_false (by omega)
                have d9' : decide (510 < t.length) = false := decide_eq_false h510
                by_cases h32 : k = 32
                · have d8 : decide ((32 : Int) ≤ (k : Int)) = true := decide_eq_true (by omega)
                  have d8' : decide (32 ≤ k) = true := decide_eq_true (by omega)
                  have hs32 : decide (k = 32) = true := decide_eq_true h32
                  clear h32
                  have HE := Lib.hid (show rpParse l = ⟨rp0, 0, 3⟩ from HAT.out 3 (by rw [HS.out, HFC.out]; rw [d9', hs32]; rfl) (by decide) (by decide))
                  go_wp2_with (first | (go_at_call 22; (with_reducible refine (HCt.out _).mono ?_); rintro x w' ⟨rfl, rfl⟩) | (go_at_call 22; (with_reducible refine (HCl.out _).mono ?_); rintro x w' ⟨rfl, rfl⟩) | (go_at_call 16; (with_reducible refine (HKl.out _).mono ?_); rintro x w' ⟨rfl, rfl⟩) | (go_at_call 23; (with_reducible refine (HSh.out _).mono ?_); rintro x w' ⟨rfl, rfl⟩) | (refine wpList_store_blk rfl 25 _ _ rfl w.heap.size 0 25 #[.int .i64 0, .int .i64 0, .int .i64 0, .int .i64 0, .slice none 0 0] #[.int .i64 0, .int .i64 0, .int .i64 0, .int .i64 0, .slice none 0 0] #[.int .i64 0, .int .i64 0, .int .i64 0, .int .i64 0, .slice none 0 0] rfl rfl HP.out.res size_rep (by kernel_rfl) (Nat.le_of_eq rfl) (by kernel_rfl) ?_; intro w9 hB9 hA9))
                  exact bodyPost_ret (v := .tuple #[.agg #[.int .i64 0, .int .i64 0, .int .i64 0, .int .i64 0, .slice none 0 0], .int .i64 0, .int .i64 3]) (ans_rep3 (c := 0) (e := rpE0) rfl rfl rfl rfl hB9) rfl (parse_err HE.out (HP.out.below.trans (hA9.below HP.out.below.size (Nat.le_refl _))))
                · have d8 : decide ((32 : Int) ≤ (k : Int)) = false := decide_eq_false (by omega)
                  have d8' : decide (32 ≤ k) = false := decide_eq_false (by omega)
                  have hs32 : decide (k = 32) = false := decide_eq_false h32
                  have hk31 : k < 32 := by omega
                  have d5 : decide ((4 : Int) < (t.length : Int)) = false := decide_eq_false (by omega)
                  have d5' : decide (4 < t.length) = false := decide_eq_false (by omega)
                  have hdn := Lib.hid (drop4_nil (t := t) (by omega))
                  have HS1 := Lib.hid (show rpStp lh k t = 1 by rw [HS.out, HFC.out, d9', hs32, HX4.out]; rfl)
                  clear d9' hs32
                  obtain ⟨t0, ht0⟩ : ∃ t0, (Lk ++ [([] : Txt)])[0]? = some t0 := ⟨_, List.getElem?_eq_getElem (by simp)⟩
                  have HC3 := Lib.hid (code3r hq1 hq2 HCQ0.out)
                  go_wp2_with (first | (go_at_call 22; (with_reducible refine (HCt.out _).mono ?_); rintro x w' ⟨rfl, rfl⟩) | (go_at_call 22; (with_reducible refine (HCl.out _).mono ?_); rintro x w' ⟨rfl, rfl⟩) | (go_at_call 16; (with_reducible refine (HKl.out _).mono ?_); rintro x w' ⟨rfl, rfl⟩) | (go_at_call 23; (with_reducible refine (HSh.out _).mono ?_); rintro x w' ⟨rfl, rfl⟩) | (at_builtin; refine app_strs rfl (.tmp 78) (.tmp 79) rfl (w.heap.size + 1) (.slice A1 Lk.length cp) Lk rfl (own_below HP.out.row (below_box wr _)) ⟨wr.heap.size, 0, none⟩ 1 1 [([] : Txt)] rfl rfl (news_one wr (([] : Txt))) (by have := HLL.out; omega) (by have := ltOf HP.out.res; simp; omega) ?_; intro v1 w3 hown hg ho; have HP3 := Lib.hid (PZ.app (L' := Lk ++ [([] : Txt)]) HP.out hown hg); clear hown hg ho; obtain ⟨A2, cp2, rfl⟩ := strs_slice HP3.out.row; rw [show (Lk ++ [([] : Txt)]).length = Lk.length + 1 by simp] at HP3; obtain ⟨Aq, rfl, hbq, hcq⟩ := cell0 HP3.out ht0; have hcq2 := ((below_box w3 (.cells #[.int .i64 c, .int .i64 0, .int .i64 0, .int .i64 0, .slice (some Aq) (Lk.length + 1) cp2] 25)).cell hbq).trans hcq))
                  have HR := Lib.hid (show rpParse l = ⟨rpRead (l.take (k + 1)), (k + 1 : Nat), 0⟩ by rw [rpParse, HH.out, scan_at HJ.out.scan HTK.out HS1.out (by decide)]; rfl)
                  have HRd := Lib.hid (show rpRead (l.take (k + 1)) = ⟨c, (rpPart c (Lk ++ [([] : Txt)])).1, (rpPart c (Lk ++ [([] : Txt)])).2⟩ by
                    rw [read_parts (l.take (k + 1)) lh (by rw [← HH.out]; cases l with | nil => simp at hl0 | cons a b => rfl), HTT.out, hdn.out, HC3.out])
                  have HTZ := Lib.hid (show ∀ u ∈ Lk ++ [([] : Txt)], u.length ≤ 1000 from fun u hu => by
                    rw [show Lk ++ [([] : Txt)] = (l.take (k + 1)).map (·.drop 4) by rw [HTT.out, hdn.out]] at hu
                    obtain ⟨y, hy, rfl⟩ := List.mem_map.1 hu
                    have := HZ.out y (List.mem_of_mem_take hy)
                    simp; omega)
                  have HTL := Lib.hid (show (Lk ++ [([] : Txt)]).length = Lk.length + 1 by simp)
                  have HT0 := Lib.hid ht0
                  refine (rread_v c t0 _ (Nat.le_trans (HTZ.out t0 (List.mem_of_getElem? ht0)) (by decide))).mono ?_
                  rintro x w4 ⟨rfl, hb4⟩
                  have HQ := Lib.hid (PQ.new (c := c) HP3.out hb4 (rdE c t0))
                  have HN1 := Lib.hid (show Lk.length + 1 ≤ 40 by have := HLL.out; omega)
                  generalize Lk ++ [([] : Txt)] = ts at HR HRd HTZ HTL HT0 HQ
                  generalize Lk.length + 1 = n1 at HTL HQ HN1 ⊢
                  clear HP3 hb4 hcq hcq2 hbq ht0 HTT HFC HS HAT HCt HCl HSh
                  go_wp2_with fail
                  generalize w4.alloc (.cells #[.int .i64 (rdE c t0).1, .int .i64 (rdE c t0).2.1, .int .i64 (rdE c t0).2.2] 23) = wb at HQ ⊢
                  generalize w4.heap.size = b10 at HQ ⊢
                  generalize w3.heap.size = b9 at HQ ⊢
                  have HW0 := Lib.hid (OW.new wb)
                  go_loopw [12, 13, 14] (fun q o j wr => ∃ m : Nat, m ≤ n1 ∧ j = .int .i64 (m : Int) ∧ q = .bool (okP c t0 ts m) ∧ Hid (OW wb o ((ts.take m).map (rdR c)) wr)) (fun _ _ j _ => n1 - (intOf j).toNat)
                  case atStart => exact ⟨0, Nat.zero_le _, rfl, by rw [okP_0], HW0⟩
                  case round =>
                    clear HW0
                    rename_i wr2
                    obtain ⟨m, hm, rfl, rfl, HO⟩ := hrel
                    have hm40 : m ≤ 40 := by have := HN1.out; omega
                    have HLm := Lib.hid (show ((ts.take m).map (rdR c)).length ≤ 2000 by rw [List.length_map, List.length_take]; have := HTL.out; have := HN1.out; omega)
                    have HM := Lib.hid (fun u (h : ts[m]? = some u) => show (ts.take (m + 1)).map (rdR c) = (ts.take m).map (rdR c) ++ [rdR c u] by
                      obtain ⟨h1, h2⟩ := List.getElem?_eq_some_iff.1 h
                      rw [List.take_succ_eq_append_getElem h1, h2]; simp)
                    have HLE := Lib.hid (show m = n1 → (ts.take m).map (rdR c) = ts.map (rdR c) from fun h => by rw [List.take_of_length_le (by have := HTL.out; omega)])
                    generalize (ts.take m).map (rdR c) = Lm at HO HLm HM HLE
                    obtain ⟨Ao, co, rfl⟩ := strs_slice HO.out.row
                    by_cases hml : m < n1
                    · obtain ⟨u, hu⟩ : ∃ u, ts[m]? = some u := ⟨_, List.getElem?_eq_getElem (by have := HTL.out; omega)⟩
                      have HSrc := Lib.hid (own_txts (HQ.out.next HO.out.below).row)
                      obtain ⟨a', cap', hv', _, _, hcc⟩ := HSrc.out
                      injection hv' with hv1 hv2 hv3
                      subst hv1
                      obtain ⟨A', hA', hlt', hcu⟩ := hcc m u hu
                      injection hA' with hA'
                      subst hA'
                      have HU := Lib.hid hu
                      have hul := HTZ.out u (List.mem_of_getElem? hu)
                      have HUN := Lib.hid (HM.out u hu)
                      clear hcc hu hlt' HM hv2 hv3
                      go_wp2_with fail
                      refine (rread_v c u _ (Nat.le_trans hul (by decide))).mono ?_
                      rintro x w5 ⟨rfl, hb5⟩
                      have HO6 := Lib.hid ((HO.out.next hb5).next (below_box w5 (.cells #[.int .i64 (rdE c u).1, .int .i64 (rdE c u).2.1, .int .i64 (rdE c u).2.2] 23)))
                      clear hb5
                      have HQ6 := Lib.hid (HQ.out.next HO6.out.below)
                      have j0 := cellOf HQ6.out.arr 0
                      have j1 := cellOf HQ6.out.arr 1
                      have j2 := cellOf HQ6.out.arr 2
                      have he : ∀ w, (Op.equalIn 10000 23 (.agg #[.int .i64 (rdE c u).1, .int .i64 (rdE c u).2.1, .int .i64 (rdE c u).2.2]) (.agg #[.int .i64 (rdE c t0).1, .int .i64 (rdE c t0).2.1, .int .i64 (rdE c t0).2.2])).run Tryd.prog w = .ok (rdE c u == rdE c t0) w := fun w => eqE3 _ _ w
                      cases hok : okP c t0 ts m
                      · have HK := Lib.hid (okP_no hok)
                        clear hok he
                        go_wp2_with (at_builtin; refine app_strs rfl (.tmp 126) (.tmp 128) rfl wb.heap.size (.slice Ao Lm.length co) Lm rfl (own_below HO6.out.row (below_box _ _)) ⟨w5.heap.size + 1, 0, none⟩ 1 1 [rdR c u] rfl rfl (news_b _ (rdR c u) _ (by simp)) (by have := HLm.out; omega) (by have := HO6.out.below.size; simp at this ⊢; omega) ?_; intro v1 w7 hown hg ho; have HO7 := Lib.hid (OW.app (L' := Lm ++ [rdR c u]) HO6.out hown hg); clear hown hg ho)
                        go_roundw
                        case rel => exact ⟨m + 1, by omega, by go_num, by rw [HK.out], by rw [HUN.out]; exact HO7⟩
                        case measure => simp [intOf]; omega
                      · have HK := Lib.hid (okP_step HU.out hok)
                        clear hok
                        cases hso : (rpFront c u).isSome
                        · have HK := Lib.hid (show okP c t0 ts (m + 1) = false by rw [HK.out, hso]; rfl)
                          clear hso he
                          go_wp2_with (at_builtin; refine app_strs rfl (.tmp 126) (.tmp 128) rfl wb.heap.size (.slice Ao Lm.length co) Lm rfl (own_below HO6.out.row (below_box _ _)) ⟨w5.heap.size + 1, 0, none⟩ 1 1 [rdR c u] rfl rfl (news_b _ (rdR c u) _ (by simp)) (by have := HLm.out; omega) (by have := HO6.out.below.size; simp at this ⊢; omega) ?_; intro v1 w7 hown hg ho; have HO7 := Lib.hid (OW.app (L' := Lm ++ [rdR c u]) HO6.out hown hg); clear hown hg ho)
                          go_roundw
                          case rel => exact ⟨m + 1, by omega, by go_num, by rw [HK.out], by rw [HUN.out]; exact HO7⟩
                          case measure => simp [intOf]; omega
                        · have HK := Lib.hid (show okP c t0 ts (m + 1) = (rdE c u == rdE c t0) by rw [HK.out, hso]; rfl)
                          clear hso
                          go_wp2_with (at_builtin; refine app_strs rfl (.tmp 126) (.tmp 128) rfl wb.heap.size (.slice Ao Lm.length co) Lm rfl (own_below HO6.out.row (below_box _ _)) ⟨w5.heap.size + 1, 0, none⟩ 1 1 [rdR c u] rfl rfl (news_b _ (rdR c u) _ (by simp)) (by have := HLm.out; omega) (by have := HO6.out.below.size; simp at this ⊢; omega) ?_; intro v1 w7 hown hg ho; have HO7 := Lib.hid (OW.app (L' := Lm ++ [rdR c u]) HO6.out hown hg); clear hown hg ho)
                          go_roundw
                          case rel => exact ⟨m + 1, by omega, by go_num, by rw [HK.out], by rw [HUN.out]; exact HO7⟩
                          case measure => simp [intOf]; omega
                    · have hmn : m = n1 := by omega
                      have HLM := Lib.hid (HLE.out hmn)
                      have HTN := Lib.hid (show ts.length = m by rw [HTL.out, hmn])
                      have HQx := Lib.hid (HQ.out.next HO.out.below)
                      have HPT := Lib.hid (part_ok (c := c) (t0 := t0) (ts := ts) (by rw [List.head?_eq_getElem?]; exact HT0.out))
                      rw [HTN.out] at HPT
                      have dm : decide (m < n1) = false := decide_eq_false (by omega)
                      clear HLE HM HLm hml hmn
                      cases hok : okP c t0 ts m
                      · have HRP := Lib.hid (show rpParse l = ⟨⟨c, rpE0, ts⟩, (k + 1 : Nat), 0⟩ by rw [HR.out, HRd.out, HPT.out, hok]; rfl)
                        clear hok
                        have k0 := cellOf HQx.out.box 0
                        have k1 := cellOf HQx.out.box 1
                        have k2 := cellOf HQx.out.box 2
                        have k3 := cellOf HQx.out.box 3
                        have k4 := cellOf HQx.out.box 4
                        go_wp2_with (refine wpList_store_blk rfl 25 _ _ rfl w.heap.size 0 25 #[.int .i64 0, .int .i64 0, .int .i64 0, .int .i64 0, .slice none 0 0] #[.int .i64 c, .int .i64 0, .int .i64 0, .int .i64 0, .slice (some Aq) n1 cp2] #[.int .i64 c, .int .i64 0, .int .i64 0, .int .i64 0, .slice (some Aq) n1 cp2] rfl rfl HQx.out.res size_rep (by kernel_rfl) (Nat.le_of_eq rfl) (by kernel_rfl) ?_; intro w9 hB9 hA9)
                        exact bodyPost_ret (v := .tuple #[.agg #[.int .i64 c, .int .i64 0, .int .i64 0, .int .i64 0, .slice (some Aq) n1 cp2], .int .i64 ((k : Int) + 1), .int .i64 0]) (ans_rep3 (c := c) (e := rpE0) rfl rfl rfl rfl hB9) rfl (parse_got_x HRP.out (own_txts (row_apart HQx.out.row hA9 (Nat.lt_succ_self _))) (HQx.out.below.trans (hA9.below HQx.out.below.size (Nat.le_refl _))))
                      · have HRP := Lib.hid (show rpParse l = ⟨⟨c, rdE c t0, Lm⟩, (k + 1 : Nat), 0⟩ by rw [HR.out, HRd.out, HPT.out, hok, HLM.out]; rfl)
                        clear hok
                        have k0 := cellOf HQx.out.arr 0
                        have k1 := cellOf HQx.out.arr 1
                        have k2 := cellOf HQx.out.arr 2
                        have hg1 := HQx.out.g1
                        go_wp2_with (first | (refine wpList_store_blk rfl 23 _ _ rfl b9 1 25 #[.int .i64 c, .int .i64 0, .int .i64 0, .int .i64 0, .slice (some Aq) n1 cp2] #[.int .i64 (rdE c t0).1, .int .i64 (rdE c t0).2.1, .int .i64 (rdE c t0).2.2] #[.int .i64 c, .int .i64 (rdE c t0).1, .int .i64 (rdE c t0).2.1, .int .i64 (rdE c t0).2.2, .slice (some Aq) n1 cp2] rfl rfl HQx.out.box (by kernel_rfl) (by kernel_rfl) (by simp) (by kernel_rfl) ?_; intro w8 hB8 hA8; have f4 := freeOf hB8 4; have g4 := cellOf hB8 4; have HBs := Lib.hid (setOf hB8 4 (.slice Ao Lm.length co)); have g0' := cellOf HBs.out 0; have g1' := cellOf HBs.out 1; have g2' := cellOf HBs.out 2; have g3' := cellOf HBs.out 3; have g4' := cellOf HBs.out 4; have HA8 := Lib.hid hA8; have HRes := Lib.hid (res3 (i := 4) (v := .slice Ao Lm.length co) HQx.out.res hA8 (Nat.ne_of_lt hg1)); clear hA8) | (refine wpList_store_blk rfl 25 _ _ rfl w.heap.size 0 25 #[.int .i64 0, .int .i64 0, .int .i64 0, .int .i64 0, .slice none 0 0] #[.int .i64 c, .int .i64 (rdE c t0).1, .int .i64 (rdE c t0).2.1, .int .i64 (rdE c t0).2.2, .slice Ao Lm.length co] #[.int .i64 c, .int .i64 (rdE c t0).1, .int .i64 (rdE c t0).2.1, .int .i64 (rdE c t0).2.2, .slice Ao Lm.length co] rfl rfl HRes.out size_rep (by kernel_rfl) (Nat.le_of_eq rfl) (by kernel_rfl) ?_; intro w9 hB9 hA9))
                        exact bodyPost_ret (v := .tuple #[.agg #[.int .i64 c, .int .i64 (rdE c t0).1, .int .i64 (rdE c t0).2.1, .int .i64 (rdE c t0).2.2, .slice Ao Lm.length co], .int .i64 ((k : Int) + 1), .int .i64 0]) (ans_rep3 (c := c) (e := rdE c t0) rfl rfl rfl rfl hB9) rfl (parse_got_x HRP.out (own_txts (row3 HO.out.row HA8.out hA9 (ltOf HQ.out.box) (ltOf HQ.out.res))) (below3 HQx.out.below HA8.out hA9 hg1))
    · have hke : k = l.length := by omega
      have HE := Lib.hid (show rpParse l = ⟨rp0, 0, 12⟩ from scan_err HH.out (by rw [HJ.out.scan, List.drop_of_length_le (by omega)]; rfl) (by decide))
      go_wp2_with (refine wpList_store_blk rfl 25 _ _ rfl w.heap.size 0 25 #[.int .i64 0, .int .i64 0, .int .i64 0, .int .i64 0, .slice none 0 0] #[.int .i64 0, .int .i64 0, .int .i64 0, .int .i64 0, .slice none 0 0] #[.int .i64 0, .int .i64 0, .int .i64 0, .int .i64 0, .slice none 0 0] rfl rfl HP.out.res size_rep (by kernel_rfl) (Nat.le_of_eq rfl) (by kernel_rfl) ?_; intro w9 hB9 hA9)
      exact bodyPost_ret (v := .tuple #[.agg #[.int .i64 0, .int .i64 0, .int .i64 0, .int .i64 0, .slice none 0 0], .int .i64 0, .int .i64 12]) (ans_rep3 (c := 0) (e := rpE0) rfl rfl rfl rfl hB9) rfl (parse_err HE.out (HP.out.below.trans (hA9.below HP.out.below.size (Nat.le_refl _))))
end Go.Proofs.YtdcakmamdabiaaaDoor
