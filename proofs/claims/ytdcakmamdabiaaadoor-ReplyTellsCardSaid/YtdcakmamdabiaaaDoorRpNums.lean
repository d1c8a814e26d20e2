/-
  The walk of numbers: an enhanced code read.
-/
import Derived.Test.YtdcakmamdabiaaaDoorRpSplit
namespace Go.Proofs.YtdcakmamdabiaaaDoor
set_option maxRecDepth 100000
open Go.RowKit
def encE (s : Txt) (code : Int) : E3 := (rpEnc s code).getD rpE0
theorem enc_split (s : Txt) (code : Int) : (∃ x y z, split3 s = [x, y, z] ∧ (x.length ≤ s.length ∧ y.length ≤ s.length ∧ z.length ≤ s.length) ∧ rpEnc s code = if rpNm x && rpNm y && rpNm z && rpBel ((valX x : Int), (valX y : Int), (valX z : Int)) code then some ((valX x : Int), (valX y : Int), (valX z : Int)) else none) ∨ ((split3 s).length ≠ 3 ∧ rpEnc s code = none) := by
  unfold split3 rpEnc
  cases h : hasC 46 s
  · exact .inr ⟨by simp, by simp⟩
  · cases h' : hasC 46 (postC 46 s)
    · exact .inr ⟨by simp, by simp⟩
    · exact .inl ⟨preC 46 s, preC 46 (postC 46 s), postC 46 (postC 46 s), by simp, ⟨pre_le 46 s, Nat.le_trans (pre_le 46 _) (post_le 46 s), Nat.le_trans (post_le 46 _) (post_le 46 s)⟩, by simp only [Bool.true_and]⟩
def NumsPost (s : Txt) (code : Int) (w : World) (e : Ending) (w' : World) : Prop := e = .returned (.tuple #[EV (encE s code), .bool (rpEnc s code).isSome]) ∧ Below w.heap.size w w'
theorem nums_no {s : Txt} {code : Int} {w w' : World} (h : rpEnc s code = none) (hb : Below w.heap.size w w') : NumsPost s code w (.returned (.tuple #[.agg #[.int .i64 0, .int .i64 0, .int .i64 0], .bool false])) w' := ⟨by rw [encE, h]; rfl, hb⟩
theorem nums_yes {s : Txt} {code : Int} {w w' : World} {a b c : Int} (h : rpEnc s code = some (a, b, c)) (hb : Below w.heap.size w w') : NumsPost s code w (.returned (.tuple #[.agg #[.int .i64 a, .int .i64 b, .int .i64 c], .bool true])) w' := ⟨by rw [encE, h]; rfl, hb⟩
/-- An enhanced code in its box. -/
structure NS (W : World) (a b c : Int) (w : World) : Prop where
  box : w.heap[W.heap.size]? = some (.cells #[.int .i64 a, .int .i64 b, .int .i64 c] 23 (0, 0))
  below : Below W.heap.size W w
theorem NS.next {W w w' : World} {a b c : Int} (h : NS W a b c w) (hb : Below w.heap.size w w') : NS W a b c w' := ⟨(hb.block _ (ltOf h.box)).trans h.box, below_next h.below hb⟩
theorem NS.new (w : World) : NS w 0 0 0 (w.alloc (.cells #[.int .i64 0, .int .i64 0, .int .i64 0] 23)) := ⟨newOf w _, below_box w _⟩
theorem NS.set {W w w' : World} {a b c a' b' c' : Int} (h : NS W a b c w) (hb : w'.heap[W.heap.size]? = some (.cells #[.int .i64 a', .int .i64 b', .int .i64 c'] 23 (0, 0))) (ha : Apart W.heap.size w.heap.size w w') : NS W a' b' c' w' :=
  ⟨hb, h.below.trans (ha.below h.below.size (Nat.le_refl _))⟩
theorem NS.cell {W w : World} {a b c : Int} (h : NS W a b c w) (i : Nat) (n : Int) {cs : Array Value} (hcs : (#[.int .i64 a, .int .i64 b, .int .i64 c] : Array Value).setIfInBounds i (.int .i64 n) = cs) : (w.setCell ⟨W.heap.size, i, none⟩ (.int .i64 n)).heap[W.heap.size]? = some (.cells cs 23 (0, 0)) ∧ Below W.heap.size W (w.setCell ⟨W.heap.size, i, none⟩ (.int .i64 n)) :=
  ⟨by rw [← hcs]; exact setOf h.box i _, h.below.setCell (p := ⟨W.heap.size, i, none⟩) (Nat.le_refl _) _⟩
theorem size_arr : (Tryd.prog.info? 23).map (·.size) = some 3 := by kernel_rfl
theorem one_arr (a b c : Int) : (#[.int .i64 a, .int .i64 b, .int .i64 c] : Array Value).all (·.oneCell') = true := by kernel_rfl
theorem whole_arr (a b c x y z : Int) : (#[.int .i64 x, .int .i64 y, .int .i64 z] : Array Value) = ((#[.int .i64 a, .int .i64 b, .int .i64 c] : Array Value).toList.take 0 ++ (#[.int .i64 x, .int .i64 y, .int .i64 z] : Array Value).toList ++ (#[.int .i64 a, .int .i64 b, .int .i64 c] : Array Value).toList.drop (0 + 3)).toArray := by kernel_rfl
/-- What is answered, read off its box. -/
theorem ans_arr {fn : Func} {p u : Tmp} (hf : fn.results = #[.cell p 23, .tmp u]) {tmps : Array Value} {w : World} {g : Nat} {a b c : Int} {x : Value} (hp : tmps.getD p undef = .pointer (some ⟨g, 0, none⟩)) (hu : tmps.getD u undef = x)
    (hb : w.heap[g]? = some (.cells #[.int .i64 a, .int .i64 b, .int .i64 c] 23 (0, 0))) : (results fn tmps).run Tryd.prog w = .ok (.tuple #[.agg #[.int .i64 a, .int .i64 b, .int .i64 c], x]) w := by
  rw [results_cell_tmp hf, hp, hu]
  have hl := loadVar_blk (P := Tryd.prog) (ty := 23) (o := 0) (vs := #[.int .i64 a, .int .i64 b, .int .i64 c]) hb Tryd.underlying23 rfl size_arr (fun j _ => by rw [Nat.zero_add])
  simp [asAddr, Result.andThen, hl]
/-- .. beside the pieces, block g. -/
structure NL (W : World) (g : Nat) (cs : Array Value) (a b c : Int) (w : World) : Prop where
  ns : NS W a b c w
  parts : w.heap[g]? = some (.cells cs 9 (0, 0))
  ne : W.heap.size < g
theorem NL.next {W w w' : World} {g : Nat} {cs : Array Value} {a b c : Int} (h : NL W g cs a b c w) (hb : Below w.heap.size w w') : NL W g cs a b c w' := ⟨h.ns.next hb, (hb.block _ (ltOf h.parts)).trans h.parts, h.ne⟩
theorem NL.set {W w : World} {g : Nat} {cs : Array Value} {a b c a' b' c' : Int} (h : NL W g cs a b c w) (i : Nat) (n : Int) (hcs : (#[.int .i64 a, .int .i64 b, .int .i64 c] : Array Value).setIfInBounds i (.int .i64 n) = #[.int .i64 a', .int .i64 b', .int .i64 c']) : NL W g cs a' b' c' (w.setCell ⟨W.heap.size, i, none⟩ (.int .i64 n)) := by
  obtain ⟨h1, h2⟩ := h.ns.cell i n hcs
  have := h.ne
  exact ⟨⟨h1, h2⟩, (Below.heap_setCell w ⟨W.heap.size, i, none⟩ _ g (by show g ≠ W.heap.size; omega)).trans h.parts, h.ne⟩
set_option maxHeartbeats 4000000 in
theorem nums_x (s : Txt) (code : Int) (w : World) (hs : s.length ≤ 1000000) :
    Calls Tryd.prog 37 #[.string (mkS s), .int .i64 code] w (NumsPost s code w) := by
  have HS := Lib.hid (fun w => splitn_x s w hs)
  have HN0 := Lib.hid (NS.new w)
  rcases enc_split s code with ⟨x, y, z, h3, ⟨hx0, hy0, hz0⟩, hv⟩ | ⟨h3, hv⟩
  · have HV := Lib.hid hv
    rw [h3] at HS
    have hxl : x.length ≤ 1000000000000000 := by omega
    have hyl : y.length ≤ 1000000000000000 := by omega
    have hzl : z.length ≤ 1000000000000000 := by omega
    have HX := Lib.hid (fun w => number_x x w hxl)
    have HY := Lib.hid (fun w => number_x y w hyl)
    have HZ := Lib.hid (fun w => number_x z w hzl)
    have HB := Lib.hid (fun w => bel_x ((valX x : Int), (valX y : Int), (valX z : Int)) code w)
    unfold NmPost nmV at HX HY HZ
    clear h3 hv hxl hyl hzl hx0 hy0 hz0
    go_enter Tryd.func37, Tryd.ntmps37
    go_wp2_with fail
    refine (HS.out _).mono ?_
    rintro e w1 ⟨N, cs, rfl, hN, hw1, hcs⟩
    have HN1 := Lib.hid (show NL w (w.heap.size + 1) cs 0 0 0 w1 from ⟨HN0.out.next (hw1 ▸ below_box _ _), by rw [hw1, show w.heap.size + 1 = (w.alloc (.cells #[.int .i64 0, .int .i64 0, .int .i64 0] 23)).heap.size by simp]; exact newOf _ _, by omega⟩)
    have HCS := Lib.hid hcs
    have hg : (w.alloc (.cells #[.int .i64 0, .int .i64 0, .int .i64 0] 23)).heap.size = w.heap.size + 1 := by simp
    rw [hg]
    have hl3 : ([x, y, z] : List Txt).length = 3 := rfl
    generalize w.heap.size + 1 = g at HN1 ⊢
    clear hcs hw1 hN hg
    go_wp2_with fail
    go_loopw [19] (fun i wr => ∃ j : Nat, j ≤ 3 ∧ i = .int .i64 j ∧ Hid (NL w g cs (if 0 < j then (valX x : Int) else 0) (if 1 < j then (valX y : Int) else 0) (if 2 < j then (valX z : Int) else 0) wr) ∧ Hid (∀ i, i < j → rpNm ([x, y, z].getD i []) = true)) (fun i _ => 3 - (intOf i).toNat)
    case atStart => exact ⟨0, Nat.zero_le _, rfl, HN1, Lib.hid (fun i hi => absurd hi (Nat.not_lt_zero _))⟩
    case round =>
      obtain ⟨j, hj, rfl, HL, HJ⟩ := hrel
      rcases (show j = 0 ∨ j = 1 ∨ j = 2 ∨ j = 3 by omega) with rfl | rfl | rfl | rfl
      · have HNj := Lib.hid (show NL w g cs 0 0 0 wr from HL.out)
        have k0 := (cellOf HNj.out.parts 0).trans (HCS.out 0 x rfl)
        have f0 := freeOf HNj.out.ns.box 0
        have e0 := cellOf HNj.out.ns.box 0
        clear HL
        cases hx : rpNm x
        · have HE := Lib.hid (show rpEnc s code = none by rw [HV.out, hx]; simp)
          rw [hx] at HX
          go_wp2_with fail
          refine (HX.out _).mono ?_
          rintro e w3 ⟨rfl, rfl⟩
          clear k0 f0 e0
          go_wp2_with (refine wpList_store_blk rfl 23 _ _ rfl w.heap.size 0 23 #[.int .i64 0, .int .i64 0, .int .i64 0] #[.int .i64 0, .int .i64 0, .int .i64 0] #[.int .i64 0, .int .i64 0, .int .i64 0] rfl rfl HNj.out.ns.box size_arr (one_arr _ _ _) (Nat.le_of_eq rfl) (whole_arr _ _ _ 0 0 0) ?_; intro w2 hB2 hA2)
          refine bodyPost_ret (v := .tuple #[.agg #[.int .i64 0, .int .i64 0, .int .i64 0], .bool false]) (ans_arr rfl rfl rfl hB2) rfl (nums_no HE.out (HNj.out.ns.set hB2 hA2).below)
        · have HYes := Lib.hid hx
          rw [hx] at HX
          go_wp2_with fail
          refine (HX.out _).mono ?_
          rintro e w3 ⟨rfl, rfl⟩
          go_wp2_with fail
          go_roundw
          case rel => exact ⟨1, by omega, by go_num, Lib.hid (HNj.out.set (a' := ((valX x : Nat) : Int)) (b' := 0) (c' := 0) 0 _ rfl), Lib.hid (fun i hi => (Nat.lt_or_eq_of_le (Nat.le_of_lt_succ hi)).elim (HJ.out i) (fun e => by subst e; exact HYes.out))⟩
          case measure => simp [intOf]
      · have HNj := Lib.hid (show NL w g cs ((valX x : Nat) : Int) 0 0 wr from HL.out)
        have k0 := (cellOf HNj.out.parts 1).trans (HCS.out 1 y rfl)
        have f0 := freeOf HNj.out.ns.box 1
        have e0 := cellOf HNj.out.ns.box 1
        clear HL
        cases hy : rpNm y
        · have HE := Lib.hid (show rpEnc s code = none by rw [HV.out, hy]; simp)
          rw [hy] at HY
          go_wp2_with fail
          refine (HY.out _).mono ?_
          rintro e w3 ⟨rfl, rfl⟩
          clear k0 f0 e0
          go_wp2_with (refine wpList_store_blk rfl 23 _ _ rfl w.heap.size 0 23 #[.int .i64 ((valX x : Nat) : Int), .int .i64 0, .int .i64 0] #[.int .i64 0, .int .i64 0, .int .i64 0] #[.int .i64 0, .int .i64 0, .int .i64 0] rfl rfl HNj.out.ns.box size_arr (one_arr _ _ _) (Nat.le_of_eq rfl) (whole_arr _ _ _ 0 0 0) ?_; intro w2 hB2 hA2)
          refine bodyPost_ret (v := .tuple #[.agg #[.int .i64 0, .int .i64 0, .int .i64 0], .bool false]) (ans_arr rfl rfl rfl hB2) rfl (nums_no HE.out (HNj.out.ns.set hB2 hA2).below)
        · have HYes := Lib.hid hy
          rw [hy] at HY
          go_wp2_with fail
          refine (HY.out _).mono ?_
          rintro e w3 ⟨rfl, rfl⟩
          go_wp2_with fail
          go_roundw
          case rel => exact ⟨2, by omega, by go_num, Lib.hid (HNj.out.set (a' := ((valX x : Nat) : Int)) (b' := ((valX y : Nat) : Int)) (c' := 0) 1 _ rfl), Lib.hid (fun i hi => (Nat.lt_or_eq_of_le (Nat.le_of_lt_succ hi)).elim (HJ.out i) (fun e => by subst e; exact HYes.out))⟩
          case measure => simp [intOf]
      · have HNj := Lib.hid (show NL w g cs ((valX x : Nat) : Int) ((valX y : Nat) : Int) 0 wr from HL.out)
        have k0 := (cellOf HNj.out.parts 2).trans (HCS.out 2 z rfl)
        have f0 := freeOf HNj.out.ns.box 2
        have e0 := cellOf HNj.out.ns.box 2
        clear HL
        cases hz : rpNm z
        · have HE := Lib.hid (show rpEnc s code = none by rw [HV.out, hz]; simp)
          rw [hz] at HZ
          go_wp2_with fail
          refine (HZ.out _).mono ?_
          rintro e w3 ⟨rfl, rfl⟩
          clear k0 f0 e0
          go_wp2_with (refine wpList_store_blk rfl 23 _ _ rfl w.heap.size 0 23 #[.int .i64 ((valX x : Nat) : Int), .int .i64 ((valX y : Nat) : Int), .int .i64 0] #[.int .i64 0, .int .i64 0, .int .i64 0] #[.int .i64 0, .int .i64 0, .int .i64 0] rfl rfl HNj.out.ns.box size_arr (one_arr _ _ _) (Nat.le_of_eq rfl) (whole_arr _ _ _ 0 0 0) ?_; intro w2 hB2 hA2)
          refine bodyPost_ret (v := .tuple #[.agg #[.int .i64 0, .int .i64 0, .int .i64 0], .bool false]) (ans_arr rfl rfl rfl hB2) rfl (nums_no HE.out (HNj.out.ns.set hB2 hA2).below)
        · have HYes := Lib.hid hz
          rw [hz] at HZ
          go_wp2_with fail
          refine (HZ.out _).mono ?_
          rintro e w3 ⟨rfl, rfl⟩
          go_wp2_with fail
          go_roundw
          case rel => exact ⟨3, by omega, by go_num, Lib.hid (HNj.out.set (a' := ((valX x : Nat) : Int)) (b' := ((valX y : Nat) : Int)) (c' := ((valX z : Nat) : Int)) 2 _ rfl), Lib.hid (fun i hi => (Nat.lt_or_eq_of_le (Nat.le_of_lt_succ hi)).elim (HJ.out i) (fun e => by subst e; exact HYes.out))⟩
          case measure => simp [intOf]
      · have HNj := Lib.hid (show NL w g cs ((valX x : Nat) : Int) ((valX y : Nat) : Int) ((valX z : Nat) : Int) wr from HL.out)
        have hx := HJ.out 0 (by decide)
        have hy := HJ.out 1 (by decide)
        have hz := HJ.out 2 (by decide)
        have hVV := HV.out
        rw [show rpNm x = true from hx, show rpNm y = true from hy, show rpNm z = true from hz] at hVV
        have k0 := cellOf HNj.out.ns.box 0
        have k1 := cellOf HNj.out.ns.box 1
        have k2 := cellOf HNj.out.ns.box 2
        cases hb : rpBel ((valX x : Int), (valX y : Int), (valX z : Int)) code
        · have HE := Lib.hid (show rpEnc s code = none by rw [hVV, hb]; rfl)
          rw [hb] at HB
          clear hVV hx hy hz HL hb
          go_wp2_with fail
          refine (HB.out _).mono ?_
          rintro e w3 ⟨rfl, hb3⟩
          have HN3 := Lib.hid (HNj.out.next hb3)
          clear hb3 k0 k1 k2
          go_wp2_with (refine wpList_store_blk rfl 23 _ _ rfl w.heap.size 0 23 #[.int .i64 ((valX x : Nat) : Int), .int .i64 ((valX y : Nat) : Int), .int .i64 ((valX z : Nat) : Int)] #[.int .i64 0, .int .i64 0, .int .i64 0] #[.int .i64 0, .int .i64 0, .int .i64 0] rfl rfl HN3.out.ns.box size_arr (one_arr _ _ _) (Nat.le_of_eq rfl) (whole_arr _ _ _ 0 0 0) ?_; intro w2 hB2 hA2)
          refine bodyPost_ret (v := .tuple #[.agg #[.int .i64 0, .int .i64 0, .int .i64 0], .bool false]) (ans_arr rfl rfl rfl hB2) rfl (nums_no HE.out (HN3.out.ns.set hB2 hA2).below)
        · have HE := Lib.hid (show rpEnc s code = some ((valX x : Int), (valX y : Int), (valX z : Int)) by rw [hVV, hb]; rfl)
          rw [hb] at HB
          clear hVV hx hy hz HL hb
          go_wp2_with fail
          refine (HB.out _).mono ?_
          rintro e w3 ⟨rfl, hb3⟩
          have HN3 := Lib.hid (HNj.out.next hb3)
          clear hb3 k0 k1 k2
          have k0 := cellOf HN3.out.ns.box 0
          have k1 := cellOf HN3.out.ns.box 1
          have k2 := cellOf HN3.out.ns.box 2
          go_wp2_with (refine wpList_store_blk rfl 23 _ _ rfl w.heap.size 0 23 #[.int .i64 ((valX x : Nat) : Int), .int .i64 ((valX y : Nat) : Int), .int .i64 ((valX z : Nat) : Int)] #[.int .i64 ((valX x : Nat) : Int), .int .i64 ((valX y : Nat) : Int), .int .i64 ((valX z : Nat) : Int)] #[.int .i64 ((valX x : Nat) : Int), .int .i64 ((valX y : Nat) : Int), .int .i64 ((valX z : Nat) : Int)] rfl rfl HN3.out.ns.box size_arr (one_arr _ _ _) (Nat.le_of_eq rfl) (whole_arr _ _ _ _ _ _) ?_; intro w2 hB2 hA2)
          refine bodyPost_ret (v := .tuple #[.agg #[.int .i64 ((valX x : Nat) : Int), .int .i64 ((valX y : Nat) : Int), .int .i64 ((valX z : Nat) : Int)], .bool true]) (ans_arr rfl rfl rfl hB2) rfl (nums_yes HE.out (HN3.out.ns.set hB2 hA2).below)
  · have HV := Lib.hid hv
    have HL := Lib.hid h3
    clear h3 hv
    go_enter Tryd.func37, Tryd.ntmps37
    go_wp2_with fail
    refine (HS.out _).mono ?_
    rintro e w1 ⟨N, cs, rfl, hN, hw1, hcs⟩
    have HN1 := Lib.hid (HN0.out.next (hw1 ▸ below_box _ _))
    have d1 : (((split3 s).length : Int) != 3) = true := by rw [bne_iff_ne]; have := HL.out; omega
    clear hcs hw1 hN
    go_wp2_with (refine wpList_store_blk rfl 23 _ _ rfl w.heap.size 0 23 #[.int .i64 0, .int .i64 0, .int .i64 0] #[.int .i64 0, .int .i64 0, .int .i64 0] #[.int .i64 0, .int .i64 0, .int .i64 0] rfl rfl HN1.out.box size_arr (one_arr _ _ _) (Nat.le_of_eq rfl) (whole_arr 0 0 0 0 0 0) ?_; intro w2 hB2 hA2)
    refine bodyPost_ret (v := .tuple #[.agg #[.int .i64 0, .int .i64 0, .int .i64 0], .bool false]) (ans_arr rfl rfl rfl hB2) rfl (nums_no HV.out (HN1.out.set hB2 hA2).below)
end Go.Proofs.YtdcakmamdabiaaaDoor
