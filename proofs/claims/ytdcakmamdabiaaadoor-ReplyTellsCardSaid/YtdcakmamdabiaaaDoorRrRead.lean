/-
  The walk of the reference's read.
-/
import Derived.Test.YtdcakmamdabiaaaDoorRrNum
import Derived.Test.YtdcakmamdabiaaaDoorRrFits
import Derived.Test.YtdcakmamdabiaaaDoorRpOf
namespace Go.Proofs.YtdcakmamdabiaaaDoor
set_option maxRecDepth 100000
open Go.RowKit
def RdPost (c : Int) (t : Txt) (w : World) (x : Ending) (w' : World) : Prop := x = .returned (.tuple #[EV ((rpFront c t).getD rpE0), .string (mkS (if (rpFront c t).isSome then postC 32 t else [])), .bool (rpFront c t).isSome]) ∧ Below w.heap.size w w'
theorem rd_no {c : Int} {t : Txt} {w w' : World} (h : rpFront c t = none) (hb : Below w.heap.size w w') : RdPost c t w (.returned (.tuple #[.agg #[.int .i64 0, .int .i64 0, .int .i64 0], .string { data := #[] }, .bool false])) w' := ⟨by rw [h]; rfl, hb⟩
theorem rd_yes {c : Int} {t : Txt} {e : E3} {r : Txt} {w w' : World} (h : rpFront c t = some e) (hr : r = postC 32 t) (hb : Below w.heap.size w w') : RdPost c t w (.returned (.tuple #[EV e, .string (mkS r), .bool true])) w' := ⟨by rw [h, hr]; rfl, hb⟩
theorem ans_e3 {fn : Func} {p u x : Tmp} (hf : fn.results = #[.cell p 23, .tmp u, .tmp x]) {tmps : Array Value} {w : World} {g : Nat} {e : E3} {a b : Value} (hp : tmps.getD p undef = .pointer (some ⟨g, 0, none⟩)) (hu : tmps.getD u undef = a) (hx : tmps.getD x undef = b)
    (hb : w.heap[g]? = some (.cells #[.int .i64 e.1, .int .i64 e.2.1, .int .i64 e.2.2] 23 (0, 0))) : (results fn tmps).run Tryd.prog w = .ok (.tuple #[EV e, a, b]) w := by
  have hl := loadVar_blk (P := Tryd.prog) (ty := 23) (o := 0) (vs := #[.int .i64 e.1, .int .i64 e.2.1, .int .i64 e.2.2]) hb Tryd.underlying23 rfl size_arr (fun j _ => by rw [Nat.zero_add])
  rw [results_cell3 hf, hp, hu, hx]
  simp [asAddr, Result.andThen, hl]
/-- The box of what is answered, and that of what is read. -/
structure NX (W : World) (e : E3) (w : World) : Prop where
  res : w.heap[W.heap.size]? = some (.cells #[.int .i64 0, .int .i64 0, .int .i64 0] 23 (0, 0))
  box : w.heap[W.heap.size + 1]? = some (.cells #[.int .i64 e.1, .int .i64 e.2.1, .int .i64 e.2.2] 23 (0, 0))
  below : Below W.heap.size W w
section
variable {W w w' : World} {e : E3}
theorem NX.next (h : NX W e w) (hb : Below w.heap.size w w') : NX W e w' := ⟨(hb.block _ (ltOf h.res)).trans h.res, (hb.block _ (ltOf h.box)).trans h.box, below_next h.below hb⟩
theorem NX.drew (h : NX W e w) : NX W e w.drew := h.next (below_drewN (Below.refl _ _) 1)
theorem NX.new (W : World) : NX W rpE0 ((W.alloc (.cells #[.int .i64 0, .int .i64 0, .int .i64 0] 23)).alloc (.cells #[.int .i64 0, .int .i64 0, .int .i64 0] 23)) := by
  have hb1 := below_box W (.cells #[.int .i64 0, .int .i64 0, .int .i64 0] 23)
  have n1 := newOf W (.cells #[.int .i64 0, .int .i64 0, .int .i64 0] 23)
  generalize hw1 : W.alloc (.cells #[.int .i64 0, .int .i64 0, .int .i64 0] 23) = w1 at hb1 n1
  have hs1 : w1.heap.size = W.heap.size + 1 := by rw [← hw1]; simp
  have n2 := newOf w1 (.cells #[.int .i64 0, .int .i64 0, .int .i64 0] 23)
  rw [hs1] at n2
  have hb2 := below_box w1 (.cells #[.int .i64 0, .int .i64 0, .int .i64 0] 23)
  exact ⟨(hb2.block _ (by omega)).trans n1, n2, below_next hb1 hb2⟩
theorem NX.set (h : NX W e w) {j : Nat} (hj : j < 3) (n : Int) : NX W (rsPut e j n) (w.setCell ⟨W.heap.size + 1, j, none⟩ (.int .i64 n)) := by
  refine ⟨(Below.heap_setCell w ⟨W.heap.size + 1, j, none⟩ _ _ (by show W.heap.size ≠ W.heap.size + 1; omega)).trans h.res, ?_, h.below.setCell (p := ⟨W.heap.size + 1, j, none⟩) (Nat.le_succ _) _⟩
  have hs := setOf h.box j (.int .i64 n)
  rcases (show j = 0 ∨ j = 1 ∨ j = 2 by omega) with rfl | rfl | rfl <;> exact hs
theorem NX.cells (h : NX W e w) : w.cell? ⟨W.heap.size + 1, 0, none⟩ = some (.int .i64 e.1) ∧ w.cell? ⟨W.heap.size + 1, 1, none⟩ = some (.int .i64 e.2.1) ∧ w.cell? ⟨W.heap.size + 1, 2, none⟩ = some (.int .i64 e.2.2) := ⟨cellOf h.box 0, cellOf h.box 1, cellOf h.box 2⟩
theorem NX.put3 (h : NX W e w) : (((w.setCell ⟨W.heap.size, 0, none⟩ (.int .i64 e.1)).setCell ⟨W.heap.size, 1, none⟩ (.int .i64 e.2.1)).setCell ⟨W.heap.size, 2, none⟩ (.int .i64 e.2.2)).heap[W.heap.size]? = some (.cells #[.int .i64 e.1, .int .i64 e.2.1, .int .i64 e.2.2] 23 (0, 0)) ∧
    Apart W.heap.size w.heap.size w (((w.setCell ⟨W.heap.size, 0, none⟩ (.int .i64 e.1)).setCell ⟨W.heap.size, 1, none⟩ (.int .i64 e.2.1)).setCell ⟨W.heap.size, 2, none⟩ (.int .i64 e.2.2)) :=
  ⟨setOf (setOf (setOf h.res 0 _) 1 _) 2 _, (((Apart.refl _ _ w).set 0 _).set 1 _).set 2 _⟩
end
theorem keep3 {w : World} {r g : Nat} {a b c : Value} (hne : g ≠ r) (u0 u1 u2 : Value) (c0 : w.cell? ⟨g, 0, none⟩ = some a) (c1 : w.cell? ⟨g, 1, none⟩ = some b) (c2 : w.cell? ⟨g, 2, none⟩ = some c) :
    (((w.setCell ⟨r, 0, none⟩ u0).setCell ⟨r, 1, none⟩ u1).setCell ⟨r, 2, none⟩ u2).cell? ⟨g, 0, none⟩ = some a ∧
    (((w.setCell ⟨r, 0, none⟩ u0).setCell ⟨r, 1, none⟩ u1).setCell ⟨r, 2, none⟩ u2).cell? ⟨g, 1, none⟩ = some b ∧
    (((w.setCell ⟨r, 0, none⟩ u0).setCell ⟨r, 1, none⟩ u1).setCell ⟨r, 2, none⟩ u2).cell? ⟨g, 2, none⟩ = some c := by
  have e : (((w.setCell ⟨r, 0, none⟩ u0).setCell ⟨r, 1, none⟩ u1).setCell ⟨r, 2, none⟩ u2).heap[g]? = w.heap[g]? :=
    (Below.heap_setCell _ ⟨r, 2, none⟩ u2 g hne).trans ((Below.heap_setCell _ ⟨r, 1, none⟩ u1 g hne).trans (Below.heap_setCell w ⟨r, 0, none⟩ u0 g hne))
  simp only [World.cell?] at c0 c1 c2 ⊢
  rw [e]
  exact ⟨c0, c1, c2⟩
theorem keep3d {w : World} {r g : Nat} {a b c : Value} (hne : g ≠ r) (u0 u1 u2 : Value) (c0 : w.cell? ⟨g, 0, none⟩ = some a) (c1 : w.cell? ⟨g, 1, none⟩ = some b) (c2 : w.cell? ⟨g, 2, none⟩ = some c) :
    (((w.setCell ⟨r, 0, none⟩ u0).setCell ⟨r, 1, none⟩ u1).setCell ⟨r, 2, none⟩ u2).drew.cell? ⟨g, 0, none⟩ = some a ∧
    (((w.setCell ⟨r, 0, none⟩ u0).setCell ⟨r, 1, none⟩ u1).setCell ⟨r, 2, none⟩ u2).drew.cell? ⟨g, 1, none⟩ = some b ∧
    (((w.setCell ⟨r, 0, none⟩ u0).setCell ⟨r, 1, none⟩ u1).setCell ⟨r, 2, none⟩ u2).drew.cell? ⟨g, 2, none⟩ = some c := by
  have e : (((w.setCell ⟨r, 0, none⟩ u0).setCell ⟨r, 1, none⟩ u1).setCell ⟨r, 2, none⟩ u2).drew.heap[g]? = w.heap[g]? :=
    (Below.heap_setCell _ ⟨r, 2, none⟩ u2 g hne).trans ((Below.heap_setCell _ ⟨r, 1, none⟩ u1 g hne).trans (Below.heap_setCell w ⟨r, 0, none⟩ u0 g hne))
  simp only [World.cell?] at c0 c1 c2 ⊢
  rw [e]
  exact ⟨c0, c1, c2⟩
theorem dropx_x (t : Txt) (k : Nat) : (mkS t).extract k t.length = mkS (t.drop k) := by
  rw [mkS_extract, List.take_of_length_le (by simp)]
set_option maxHeartbeats 8000000 in
theorem rread_x (c : Int) (t : Txt) (w : World) (hl : t.length ≤ 1000000) :
    Calls Tryd.prog 24 #[.int .i64 c, .string (mkS t)] w (RdPost c t w) := by
  have hms := mkS_size t
  have HNum := Lib.hid (fun (a : Nat) (w : World) (ha : a ≤ t.length) => rnumber_x t a w (Nat.le_trans hl (by decide)) ha)
  unfold NrPost at HNum
  have HNo := Lib.hid (fun e w => rnone_x e w)
  have HFi := Lib.hid (fun e w => fits_x c e w)
  have HX := Lib.hid (NX.new w)
  have hs1 : (w.alloc (.cells #[.int .i64 0, .int .i64 0, .int .i64 0] 23)).heap.size = w.heap.size + 1 := by simp
  go_enter Tryd.func24, Tryd.ntmps24
  go_wp2_with fail
  go_loopw [8, 9] (fun a i wr => ∃ (j k : Nat) (e : E3), j ≤ 3 ∧ i = .int .i64 (j : Int) ∧ a = .int .i64 (k : Int) ∧ k ≤ t.length ∧ Hid (RS t j k e) ∧ Hid (NX w e wr)) (fun _ i _ => 3 - (intOf i).toNat)
  case atStart => exact ⟨0, 0, rpE0, by omega, rfl, rfl, Nat.zero_le _, Lib.hid ⟨rfl, rfl⟩, HX⟩
  case round =>
    clear HX hs1
    obtain ⟨j, k, e, hj, rfl, rfl, hk, HRS, HN⟩ := hrel
    rcases (show j = 0 ∨ j = 1 ∨ j = 2 ∨ j = 3 by omega) with rfl | rfl | rfl | rfl
    · have HNx := Lib.hid (HNum.out k wr hk)
      obtain ⟨l, hL⟩ : ∃ l, t.drop k = l := ⟨_, rfl⟩
      have hll : l.length = t.length - k := by rw [← hL]; exact List.length_drop
      have HG := Lib.hid (show ∀ i, l[i]? = t[k + i]? from fun i => by rw [← hL]; exact List.getElem?_drop)
      have HL := Lib.hid hL
      rw [hL] at HNx
      clear hL
      have hdl := (rn_le l).1
      have hdl2 := (rn_le l).2
      cases ho : rnOk l
      · rw [nrV, nrA, ho] at HNx
        have HE := Lib.hid (rs_none (c := c) (by decide) HRS.out (by rintro ⟨q1, q2⟩; rw [HL.out, ho] at q1; cases q1))
        clear ho
        go_wp2_with fail
        refine HNx.out.mono ?_
        rintro x w' ⟨rfl, rfl⟩
        go_wp2_with (refine wpList_store_blk rfl 23 _ _ rfl w.heap.size 0 23 #[.int .i64 0, .int .i64 0, .int .i64 0] #[.int .i64 0, .int .i64 0, .int .i64 0] #[.int .i64 0, .int .i64 0, .int .i64 0] rfl rfl HN.out.res size_arr (one_arr _ _ _) (Nat.le_of_eq rfl) (whole_arr _ _ _ 0 0 0) ?_; intro w9 hB9 hA9)
        exact bodyPost_ret (v := .tuple #[.agg #[.int .i64 0, .int .i64 0, .int .i64 0], .string { data := #[] }, .bool false]) (ans_e3 (e := rpE0) rfl rfl rfl rfl hB9) rfl (rd_no HE.out (HN.out.below.trans (hA9.below HN.out.below.size (Nat.le_refl _))))
      · have hv9 : valX (l.take (rnN l)) < 1000 := nm_val (show rpNm (l.take (rnN l)) = true from ho)
        rw [nrV, nrA, ho, if_pos rfl, if_pos rfl] at HNx
        have HO := Lib.hid (show rnOk (t.drop k) = true by rw [HL.out]; exact ho)
        obtain ⟨v, hv⟩ : ∃ v, valX (l.take (rnN l)) = v := ⟨_, rfl⟩
        obtain ⟨m, hm⟩ : ∃ m, k + rnN l = m := ⟨_, rfl⟩
        have hm2 : m ≤ t.length := by omega
        rw [hv] at hv9
        rw [hv, hm] at HNx
        have HV := Lib.hid (show (valX ((t.drop k).take (rnN (t.drop k))) : Int) = v by rw [HL.out, hv])
        have HM := Lib.hid (show k + rnN (t.drop k) = m by rw [HL.out, hm])
        have HGm := Lib.hid (show (t.drop k)[rnN (t.drop k)]? = t[m]? by rw [HL.out, HG.out, hm])
        clear ho hv hm hdl hdl2 HG hll
        by_cases hlt : m < t.length
        · obtain ⟨x, hx⟩ : ∃ x : UInt8, (mkS t)[m]'(by omega) = x := ⟨_, rfl⟩
          have HX := Lib.hid (show t[m]? = some x by rw [← hx]; have := Lib.data_getElem? (mkS t) m (by omega); rwa [mkS_data] at this)
          have hge : decide (t.length ≤ m) = false := decide_eq_false (by omega)
          by_cases hxs : x = 46
          · have d1 : ((x.toNat : Int) != 46) = false := by rw [hxs]; rfl
            have HS := Lib.hid (rs_step (by decide) HRS.out HO.out (by rw [HGm.out, HX.out, hxs]; rfl))
            rw [HM.out, HV.out] at HS
            have cz := cellOf HN.out.box 0
            have fz := freeOf HN.out.box 0
            have HN2 := Lib.hid (HN.out.set (j := 0) (by decide) (v : Int))
            clear hxs
            go_wp2_with fail
            refine HNx.out.mono ?_
            rintro x w' ⟨rfl, rfl⟩
            go_wp2_with fail
            go_roundw
            case rel => exact ⟨1, m + 1, rsPut e 0 (v : Int), by omega, by go_num, by go_num, by omega, HS, HN2⟩
            case measure => simp [intOf]
          · have d1 : ((x.toNat : Int) != 46) = true := bne_iff_ne.2 (fun h => hxs (UInt8.toNat_inj.1 (show x.toNat = 46 by omega)))
            have HE := Lib.hid (rs_none (c := c) (by decide) HRS.out (by rintro ⟨q1, q2⟩; rw [HGm.out, HX.out] at q2; injection q2 with q2; exact hxs q2))
            clear hxs
            go_wp2_with fail
            refine HNx.out.mono ?_
            rintro x w' ⟨rfl, rfl⟩
            go_wp2_with (refine wpList_store_blk rfl 23 _ _ rfl w.heap.size 0 23 #[.int .i64 0, .int .i64 0, .int .i64 0] #[.int .i64 0, .int .i64 0, .int .i64 0] #[.int .i64 0, .int .i64 0, .int .i64 0] rfl rfl HN.out.res size_arr (one_arr _ _ _) (Nat.le_of_eq rfl) (whole_arr _ _ _ 0 0 0) ?_; intro w9 hB9 hA9)
            exact bodyPost_ret (v := .tuple #[.agg #[.int .i64 0, .int .i64 0, .int .i64 0], .string { data := #[] }, .bool false]) (ans_e3 (e := rpE0) rfl rfl rfl rfl hB9) rfl (rd_no HE.out (HN.out.below.trans (hA9.below HN.out.below.size (Nat.le_refl _))))
        · have hge : decide (t.length ≤ m) = true := decide_eq_true (by omega)
          have HE := Lib.hid (rs_none (c := c) (by decide) HRS.out (by rintro ⟨q1, q2⟩; rw [HGm.out, List.getElem?_eq_none (by omega)] at q2; cases q2))
          go_wp2_with fail
          refine HNx.out.mono ?_
          rintro x w' ⟨rfl, rfl⟩
          go_wp2_with (refine wpList_store_blk rfl 23 _ _ rfl w.heap.size 0 23 #[.int .i64 0, .int .i64 0, .int .i64 0] #[.int .i64 0, .int .i64 0, .int .i64 0] #[.int .i64 0, .int .i64 0, .int .i64 0] rfl rfl HN.out.res size_arr (one_arr _ _ _) (Nat.le_of_eq rfl) (whole_arr _ _ _ 0 0 0) ?_; intro w9 hB9 hA9)
          exact bodyPost_ret (v := .tuple #[.agg #[.int .i64 0, .int .i64 0, .int .i64 0], .string { data := #[] }, .bool false]) (ans_e3 (e := rpE0) rfl rfl rfl rfl hB9) rfl (rd_no HE.out (HN.out.below.trans (hA9.below HN.out.below.size (Nat.le_refl _))))
    · have HNx := Lib.hid (HNum.out k wr hk)
      obtain ⟨l, hL⟩ : ∃ l, t.drop k = l := ⟨_, rfl⟩
      have hll : l.length = t.length - k := by rw [← hL]; exact List.length_drop
      have HG := Lib.hid (show ∀ i, l[i]? = t[k + i]? from fun i => by rw [← hL]; exact List.getElem?_drop)
      have HL := Lib.hid hL
      rw [hL] at HNx
      clear hL
      have hdl := (rn_le l).1
      have hdl2 := (rn_le l).2
      cases ho : rnOk l
      · rw [nrV, nrA, ho] at HNx
        have HE := Lib.hid (rs_none (c := c) (by decide) HRS.out (by rintro ⟨q1, q2⟩; rw [HL.out, ho] at q1; cases q1))
        clear ho
        go_wp2_with fail
        refine HNx.out.mono ?_
        rintro x w' ⟨rfl, rfl⟩
        go_wp2_with (refine wpList_store_blk rfl 23 _ _ rfl w.heap.size 0 23 #[.int .i64 0, .int .i64 0, .int .i64 0] #[.int .i64 0, .int .i64 0, .int .i64 0] #[.int .i64 0, .int .i64 0, .int .i64 0] rfl rfl HN.out.res size_arr (one_arr _ _ _) (Nat.le_of_eq rfl) (whole_arr _ _ _ 0 0 0) ?_; intro w9 hB9 hA9)
        exact bodyPost_ret (v := .tuple #[.agg #[.int .i64 0, .int .i64 0, .int .i64 0], .string { data := #[] }, .bool false]) (ans_e3 (e := rpE0) rfl rfl rfl rfl hB9) rfl (rd_no HE.out (HN.out.below.trans (hA9.below HN.out.below.size (Nat.le_refl _))))
      · have hv9 : valX (l.take (rnN l)) < 1000 := nm_val (show rpNm (l.take (rnN l)) = true from ho)
        rw [nrV, nrA, ho, if_pos rfl, if_pos rfl] at HNx
        have HO := Lib.hid (show rnOk (t.drop k) = true by rw [HL.out]; exact ho)
        obtain ⟨v, hv⟩ : ∃ v, valX (l.take (rnN l)) = v := ⟨_, rfl⟩
        obtain ⟨m, hm⟩ : ∃ m, k + rnN l = m := ⟨_, rfl⟩
        have hm2 : m ≤ t.length := by omega
        rw [hv] at hv9
        rw [hv, hm] at HNx
        have HV := Lib.hid (show (valX ((t.drop k).take (rnN (t.drop k))) : Int) = v by rw [HL.out, hv])
        have HM := Lib.hid (show k + rnN (t.drop k) = m by rw [HL.out, hm])
        have HGm := Lib.hid (show (t.drop k)[rnN (t.drop k)]? = t[m]? by rw [HL.out, HG.out, hm])
        clear ho hv hm hdl hdl2 HG hll
        by_cases hlt : m < t.length
        · obtain ⟨x, hx⟩ : ∃ x : UInt8, (mkS t)[m]'(by omega) = x := ⟨_, rfl⟩
          have HX := Lib.hid (show t[m]? = some x by rw [← hx]; have := Lib.data_getElem? (mkS t) m (by omega); rwa [mkS_data] at this)
          have hge : decide (t.length ≤ m) = false := decide_eq_false (by omega)
          by_cases hxs : x = 46
          · have d1 : ((x.toNat : Int) != 46) = false := by rw [hxs]; rfl
            have HS := Lib.hid (rs_step (by decide) HRS.out HO.out (by rw [HGm.out, HX.out, hxs]; rfl))
            rw [HM.out, HV.out] at HS
            have cz := cellOf HN.out.box 1
            have fz := freeOf HN.out.box 1
            have HN2 := Lib.hid (HN.out.set (j := 1) (by decide) (v : Int))
            clear hxs
            go_wp2_with fail
            refine HNx.out.mono ?_
            rintro x w' ⟨rfl, rfl⟩
            go_wp2_with fail
            go_roundw
            case rel => exact ⟨2, m + 1, rsPut e 1 (v : Int), by omega, by go_num, by go_num, by omega, HS, HN2⟩
            case measure => simp [intOf]
          · have d1 : ((x.toNat : Int) != 46) = true := bne_iff_ne.2 (fun h => hxs (UInt8.toNat_inj.1 (show x.toNat = 46 by omega)))
            have HE := Lib.hid (rs_none (c := c) (by decide) HRS.out (by rintro ⟨q1, q2⟩; rw [HGm.out, HX.out] at q2; injection q2 with q2; exact hxs q2))
            clear hxs
            go_wp2_with fail
            refine HNx.out.mono ?_
            rintro x w' ⟨rfl, rfl⟩
            go_wp2_with (refine wpList_store_blk rfl 23 _ _ rfl w.heap.size 0 23 #[.int .i64 0, .int .i64 0, .int .i64 0] #[.int .i64 0, .int .i64 0, .int .i64 0] #[.int .i64 0, .int .i64 0, .int .i64 0] rfl rfl HN.out.res size_arr (one_arr _ _ _) (Nat.le_of_eq rfl) (whole_arr _ _ _ 0 0 0) ?_; intro w9 hB9 hA9)
            exact bodyPost_ret (v := .tuple #[.agg #[.int .i64 0, .int .i64 0, .int .i64 0], .string { data := #[] }, .bool false]) (ans_e3 (e := rpE0) rfl rfl rfl rfl hB9) rfl (rd_no HE.out (HN.out.below.trans (hA9.below HN.out.below.size (Nat.le_refl _))))
        · have hge : decide (t.length ≤ m) = true := decide_eq_true (by omega)
          have HE := Lib.hid (rs_none (c := c) (by decide) HRS.out (by rintro ⟨q1, q2⟩; rw [HGm.out, List.getElem?_eq_none (by omega)] at q2; cases q2))
          go_wp2_with fail
          refine HNx.out.mono ?_
          rintro x w' ⟨rfl, rfl⟩
          go_wp2_with (refine wpList_store_blk rfl 23 _ _ rfl w.heap.size 0 23 #[.int .i64 0, .int .i64 0, .int .i64 0] #[.int .i64 0, .int .i64 0, .int .i64 0] #[.int .i64 0, .int .i64 0, .int .i64 0] rfl rfl HN.out.res size_arr (one_arr _ _ _) (Nat.le_of_eq rfl) (whole_arr _ _ _ 0 0 0) ?_; intro w9 hB9 hA9)
          exact bodyPost_ret (v := .tuple #[.agg #[.int .i64 0, .int .i64 0, .int .i64 0], .string { data := #[] }, .bool false]) (ans_e3 (e := rpE0) rfl rfl rfl rfl hB9) rfl (rd_no HE.out (HN.out.below.trans (hA9.below HN.out.below.size (Nat.le_refl _))))
    · have HNx := Lib.hid (HNum.out k wr hk)
      obtain ⟨l, hL⟩ : ∃ l, t.drop k = l := ⟨_, rfl⟩
      have hll : l.length = t.length - k := by rw [← hL]; exact List.length_drop
      have HG := Lib.hid (show ∀ i, l[i]? = t[k + i]? from fun i => by rw [← hL]; exact List.getElem?_drop)
      have HL := Lib.hid hL
      rw [hL] at HNx
      clear hL
      have hdl := (rn_le l).1
      have hdl2 := (rn_le l).2
      cases ho : rnOk l
      · rw [nrV, nrA, ho] at HNx
        have HE := Lib.hid (rs_none (c := c) (by decide) HRS.out (by rintro ⟨q1, q2⟩; rw [HL.out, ho] at q1; cases q1))
        clear ho
        go_wp2_with fail
        refine HNx.out.mono ?_
        rintro x w' ⟨rfl, rfl⟩
        go_wp2_with (refine wpList_store_blk rfl 23 _ _ rfl w.heap.size 0 23 #[.int .i64 0, .int .i64 0, .int .i64 0] #[.int .i64 0, .int .i64 0, .int .i64 0] #[.int .i64 0, .int .i64 0, .int .i64 0] rfl rfl HN.out.res size_arr (one_arr _ _ _) (Nat.le_of_eq rfl) (whole_arr _ _ _ 0 0 0) ?_; intro w9 hB9 hA9)
        exact bodyPost_ret (v := .tuple #[.agg #[.int .i64 0, .int .i64 0, .int .i64 0], .string { data := #[] }, .bool false]) (ans_e3 (e := rpE0) rfl rfl rfl rfl hB9) rfl (rd_no HE.out (HN.out.below.trans (hA9.below HN.out.below.size (Nat.le_refl _))))
      · have hv9 : valX (l.take (rnN l)) < 1000 := nm_val (show rpNm (l.take (rnN l)) = true from ho)
        rw [nrV, nrA, ho, if_pos rfl, if_pos rfl] at HNx
        have HO := Lib.hid (show rnOk (t.drop k) = true by rw [HL.out]; exact ho)
        obtain ⟨v, hv⟩ : ∃ v, valX (l.take (rnN l)) = v := ⟨_, rfl⟩
        obtain ⟨m, hm⟩ : ∃ m, k + rnN l = m := ⟨_, rfl⟩
        have hm2 : m ≤ t.length := by omega
        rw [hv] at hv9
        rw [hv, hm] at HNx
        have HV := Lib.hid (show (valX ((t.drop k).take (rnN (t.drop k))) : Int) = v by rw [HL.out, hv])
        have HM := Lib.hid (show k + rnN (t.drop k) = m by rw [HL.out, hm])
        have HGm := Lib.hid (show (t.drop k)[rnN (t.drop k)]? = t[m]? by rw [HL.out, HG.out, hm])
        clear ho hv hm hdl hdl2 HG hll
        by_cases hlt : m < t.length
        · obtain ⟨x, hx⟩ : ∃ x : UInt8, (mkS t)[m]'(by omega) = x := ⟨_, rfl⟩
          have HX := Lib.hid (show t[m]? = some x by rw [← hx]; have := Lib.data_getElem? (mkS t) m (by omega); rwa [mkS_data] at this)
          have hge : decide (t.length ≤ m) = false := decide_eq_false (by omega)
          by_cases hxs : x = 32
          · have d1 : ((x.toNat : Int) != 32) = false := by rw [hxs]; rfl
            have HS := Lib.hid (rs_step (by decide) HRS.out HO.out (by rw [HGm.out, HX.out, hxs]; rfl))
            rw [HM.out, HV.out] at HS
            have cz := cellOf HN.out.box 2
            have fz := freeOf HN.out.box 2
            have HN2 := Lib.hid (HN.out.set (j := 2) (by decide) (v : Int))
            clear hxs
            go_wp2_with fail
            refine HNx.out.mono ?_
            rintro x w' ⟨rfl, rfl⟩
            go_wp2_with fail
            go_roundw
            case rel => exact ⟨3, m + 1, rsPut e 2 (v : Int), by omega, by go_num, by go_num, by omega, HS, HN2⟩
            case measure => simp [intOf]
          · have d1 : ((x.toNat : Int) != 32) = true := bne_iff_ne.2 (fun h => hxs (UInt8.toNat_inj.1 (show x.toNat = 32 by omega)))
            have HE := Lib.hid (rs_none (c := c) (by decide) HRS.out (by rintro ⟨q1, q2⟩; rw [HGm.out, HX.out] at q2; injection q2 with q2; exact hxs q2))
            clear hxs
            go_wp2_with fail
            refine HNx.out.mono ?_
            rintro x w' ⟨rfl, rfl⟩
            go_wp2_with (refine wpList_store_blk rfl 23 _ _ rfl w.heap.size 0 23 #[.int .i64 0, .int .i64 0, .int .i64 0] #[.int .i64 0, .int .i64 0, .int .i64 0] #[.int .i64 0, .int .i64 0, .int .i64 0] rfl rfl HN.out.res size_arr (one_arr _ _ _) (Nat.le_of_eq rfl) (whole_arr _ _ _ 0 0 0) ?_; intro w9 hB9 hA9)
            exact bodyPost_ret (v := .tuple #[.agg #[.int .i64 0, .int .i64 0, .int .i64 0], .string { data := #[] }, .bool false]) (ans_e3 (e := rpE0) rfl rfl rfl rfl hB9) rfl (rd_no HE.out (HN.out.below.trans (hA9.below HN.out.below.size (Nat.le_refl _))))
        · have hge : decide (t.length ≤ m) = true := decide_eq_true (by omega)
          have HE := Lib.hid (rs_none (c := c) (by decide) HRS.out (by rintro ⟨q1, q2⟩; rw [HGm.out, List.getElem?_eq_none (by omega)] at q2; cases q2))
          go_wp2_with fail
          refine HNx.out.mono ?_
          rintro x w' ⟨rfl, rfl⟩
          go_wp2_with (refine wpList_store_blk rfl 23 _ _ rfl w.heap.size 0 23 #[.int .i64 0, .int .i64 0, .int .i64 0] #[.int .i64 0, .int .i64 0, .int .i64 0] #[.int .i64 0, .int .i64 0, .int .i64 0] rfl rfl HN.out.res size_arr (one_arr _ _ _) (Nat.le_of_eq rfl) (whole_arr _ _ _ 0 0 0) ?_; intro w9 hB9 hA9)
          exact bodyPost_ret (v := .tuple #[.agg #[.int .i64 0, .int .i64 0, .int .i64 0], .string { data := #[] }, .bool false]) (ans_e3 (e := rpE0) rfl rfl rfl rfl hB9) rfl (rd_no HE.out (HN.out.below.trans (hA9.below HN.out.below.size (Nat.le_refl _))))
    · obtain ⟨HR1, HR2, HR3, HR4, HR5⟩ := rs_end (c := c) HRS.out
      have HF := Lib.hid HR1
      have HD := Lib.hid HR2
      clear HR1 HR2 HR3 HR4 HR5 HNum
      have k0 := cellOf HN.out.box 0
      have k1 := cellOf HN.out.box 1
      have k2 := cellOf HN.out.box 2
      have HNo := Lib.hid (HNo.out e)
      have HFi := Lib.hid (HFi.out e)
      have HFV := Lib.hid (show rpFit c e = (!rpHas e || rpBel e c) from rfl)
      cases hh : rpHas e
      · have HE := Lib.hid (show rpFront c t = none by rw [HF.out, if_neg (fun h => by rw [bel_ne h] at hh; cases hh)])
        rw [hh] at HNo
        clear hh
        go_wp2_with fail
        refine (HNo.out _).mono ?_
        rintro x w2 ⟨rfl, hb2⟩
        have HN2 := Lib.hid (HN.out.next hb2)
        clear hb2 k0 k1 k2
        go_wp2_with (refine wpList_store_blk rfl 23 _ _ rfl w.heap.size 0 23 #[.int .i64 0, .int .i64 0, .int .i64 0] #[.int .i64 0, .int .i64 0, .int .i64 0] #[.int .i64 0, .int .i64 0, .int .i64 0] rfl rfl HN2.out.res size_arr (one_arr _ _ _) (Nat.le_of_eq rfl) (whole_arr _ _ _ 0 0 0) ?_; intro w9 hB9 hA9)
        exact bodyPost_ret (v := .tuple #[.agg #[.int .i64 0, .int .i64 0, .int .i64 0], .string { data := #[] }, .bool false]) (ans_e3 (e := rpE0) rfl rfl rfl rfl hB9) rfl (rd_no HE.out (HN2.out.below.trans (hA9.below HN2.out.below.size (Nat.le_refl _))))
      · rw [hh] at HNo HFV
        clear hh
        go_wp2_with fail
        refine (HNo.out _).mono ?_
        rintro x w2 ⟨rfl, hb2⟩
        have HN2 := Lib.hid (HN.out.next hb2)
        clear hb2 k0 k1 k2
        have k0 := cellOf HN2.out.box 0
        have k1 := cellOf HN2.out.box 1
        have k2 := cellOf HN2.out.box 2
        go_wp2_with fail
        refine (HFi.out _).mono ?_
        rintro x w3 ⟨rfl, hb3⟩
        have HN3 := Lib.hid (HN2.out.next hb3)
        rw [HFV.out]
        clear hb3 k0 k1 k2
        cases hb : rpBel e c
        · have HE := Lib.hid (show rpFront c t = none by rw [HF.out, hb]; rfl)
          clear hb
          go_wp2_with (refine wpList_store_blk rfl 23 _ _ rfl w.heap.size 0 23 #[.int .i64 0, .int .i64 0, .int .i64 0] #[.int .i64 0, .int .i64 0, .int .i64 0] #[.int .i64 0, .int .i64 0, .int .i64 0] rfl rfl HN3.out.res size_arr (one_arr _ _ _) (Nat.le_of_eq rfl) (whole_arr _ _ _ 0 0 0) ?_; intro w9 hB9 hA9)
          exact bodyPost_ret (v := .tuple #[.agg #[.int .i64 0, .int .i64 0, .int .i64 0], .string { data := #[] }, .bool false]) (ans_e3 (e := rpE0) rfl rfl rfl rfl hB9) rfl (rd_no HE.out (HN3.out.below.trans (hA9.below HN3.out.below.size (Nat.le_refl _))))
        · have HE := Lib.hid (show rpFront c t = some e by rw [HF.out, hb]; rfl)
          clear hb
          obtain ⟨c0, c1, c2⟩ := HN3.out.cells
          have r0 := cellOf HN3.out.res 0
          have r1 := cellOf HN3.out.res 1
          have r2 := cellOf HN3.out.res 2
          have f0 := freeOf HN3.out.res 0
          have f1 := freeOf HN3.out.res 1
          have f2 := freeOf HN3.out.res 2
          have hx := dropx_x t k
          have hki : (k : Int) ≤ (t.length : Int) := by omega
          have hk0 : (0 : Int) ≤ (k : Int) := by omega
          go_wp2_with fail
          go_region_held3 (fun wr => wr.cell? ⟨w.heap.size + 1, 0, none⟩ = some (.int .i64 e.1) ∧ wr.cell? ⟨w.heap.size + 1, 1, none⟩ = some (.int .i64 e.2.1) ∧ wr.cell? ⟨w.heap.size + 1, 2, none⟩ = some (.int .i64 e.2.2))
            (first | (with_reducible exact keep3 (Nat.succ_ne_self _) _ _ _ (by assumption) (by assumption) (by assumption)) | (with_reducible exact keep3d (Nat.succ_ne_self _) _ _ _ (by assumption) (by assumption) (by assumption)) | (with_reducible exact ⟨by assumption, by assumption, by assumption⟩) | (with_reducible exact HN3.out.drew.cells) | (with_reducible exact HN3.out.cells))
            (fail)
          all_goals
            have P1 := Lib.hid HN3.out.drew.put3
            have P2 := Lib.hid HN3.out.put3
            have B1 := Lib.hid (HN3.out.drew.below.trans (P1.out.2.below HN3.out.drew.below.size (Nat.le_refl _)))
            have B2 := Lib.hid (below_drewN (HN3.out.below.trans (P2.out.2.below HN3.out.below.size (Nat.le_refl _))) 1)
            clear r0 r1 r2 f0 f1 f2 c0 c1 c2
            go_wp2_with fail
            first
            | exact bodyPost_ret (v := .tuple #[EV e, .string (mkS (t.drop k)), .bool true]) (ans_e3 rfl rfl rfl rfl P1.out.1) rfl (rd_yes HE.out HD.out B1.out)
            | exact bodyPost_ret (v := .tuple #[EV e, .string (mkS (t.drop k)), .bool true]) (ans_e3 rfl rfl rfl rfl P2.out.1) rfl (rd_yes HE.out HD.out B2.out)
end Go.Proofs.YtdcakmamdabiaaaDoor
