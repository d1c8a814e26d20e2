/-
  The walk of the law LineGoes.
-/
import Derived.Test.YtkkpfencnjnddaaLoop
import Derived.Test.YtkkpfencnjnddaaSim
namespace Go.Proofs.Ytkkpfencnjnddaa
open Go.RowKit

/-- Up to here no end stands. -/
def NoPair (l : List UInt8) (k : Nat) : Prop := ∀ j, j < k → ¬ (l[j]? = some 13 ∧ l[j + 1]? = some 10)
theorem NoPair.more {l : List UInt8} {k : Nat} (h : NoPair l k) (hk : ¬ (l[k]? = some 13 ∧ l[k + 1]? = some 10)) : NoPair l (k + 1) := fun j hj => by
  by_cases e : j = k
  · subst e; exact hk
  · exact h j (by omega)
theorem NoPair.noEnd {l : List UInt8} {k : Nat} (h : NoPair l k) (hk : l.length ≤ k + 1) : noEnd 0 l = true := by
  refine noEnd_of l 0 (fun e => absurd e.1 (by decide)) fun j e => ?_
  have h1 := (List.getElem?_eq_some_iff.1 e.2).1
  exact h j (by omega) e

theorem np_y {l : List UInt8} {k : Nat} {y : UInt8} (h : NoPair l k) (hy : l[k + 1]? = some y) (h10 : ((y.toNat : Int) == 10) = false) : Hid (NoPair l (k + 1)) := h.more fun e => by
  rw [hy] at e
  have := e.2
  injection this with this
  subst this
  exact absurd h10 (by decide)
theorem np_x {l : List UInt8} {k : Nat} {x : UInt8} (h : NoPair l k) (hx : l[k]? = some x) (h13 : ¬ (x.toNat : Int) = 13) : Hid (NoPair l (k + 1)) := h.more fun e => by
  rw [hx] at e
  have := e.1
  injection this with this
  subst this
  exact h13 rfl
theorem joinB_two (p q : ByteArray) : joinB [p, q] = p.data.toList ++ q.data.toList := by simp [joinB]
/-- A new cutter's block. -/
def newCells (M : Nat) : Obj := .cells #[.int .i64 (M : Int), .slice none 0 0, .int .i64 0, .int .u8 0, .int .i64 0] 53
/-- Two new cutters. -/
structure Two (w : World) (a b M : Nat) (W : World) : Prop where
  ca : Cut w.heap.size W a (.slice none 0 0) M [] 0 0 0
  cb : Cut w.heap.size W b (.slice none 0 0) M [] 0 0 0
  below : Below w.heap.size w W
  ab : a ≠ b
theorem two_of {w w1 : World} {M : Nat} (hb : Below w.heap.size w w1) : Two w w1.heap.size (w1.heap.size + 1) M ((w1.alloc (newCells M)).alloc (newCells M)) := by
  have hs := hb.size
  have c1 := cut_new w.heap.size w1 M hs
  have c2 := cut_new w.heap.size (w1.alloc (newCells M)) M (by simp; omega)
  have b1 : ∀ (W : World) o, Below W.heap.size W (W.alloc o) := fun W o => (Below.refl _ _).alloc (Nat.le_refl _) _
  have e1 : (w1.alloc (newCells M)).heap.size = w1.heap.size + 1 := by simp
  rw [e1] at c2
  exact ⟨c1.below (b1 _ _), c2, (hb.alloc hs _).alloc (by simp; omega) _, by omega⟩

/-- Behind the bad line: the first cutter as it is then, the line that it gave, the second one new. -/
structure Gone (w : World) (a b M : Nat) (va o : Value) (l : List UInt8 × Int) (W : World) : Prop where
  ca : Cut w.heap.size W a va M [] 0 10 1
  cb : Cut w.heap.size W b (.slice none 0 0) M [] 0 0 0
  row : ∃ B, W.ownsRow B 49 2 o 1 (lnsV [l])
  below : Below w.heap.size w W
  ab : a ≠ b
theorem goes_mid {w W3 w4 : World} {a b M : Nat} {t u : List UInt8} {o : Value} (ht : Two w a b M W3) (hfo : FO W3 w.heap.size a M [] (t ++ u) (.slice none 0 0) o w4) (hf : feed M st0 (t ++ [13, 10]) = (⟨[], 0, 10, 1⟩, [badLine M t])) (hu : u = [13, 10] := by rfl) : ∃ va, Gone w a b M va o (badLine M t) w4 := by
  subst hu
  obtain ⟨va, hca, ho⟩ := hfo.cut
  obtain ⟨B, hout⟩ := hfo.out
  have hout' : w4.ownsRow B 49 2 o (feed M st0 (t ++ [13, 10])).2.length (lnsV (feed M st0 (t ++ [13, 10])).2) := hout
  rw [List.nil_append, hf] at hca
  rw [hf] at hout'
  exact ⟨va, hca, ht.cb.aside ht.ca.blk (Ne.symm ht.ab) ho, ⟨B, hout'⟩, ht.below.trans (ho.toBelow ht.below.size ht.ca.ge (fun k e => by cases e)), ht.ab⟩

theorem goes_line {w4 : World} {M B k0 cap : Nat} {bad : ByteArray} (hro : w4.ownsRow B 49 2 (.slice (some ⟨k0, 0, none⟩) 1 cap) 1 (lnsV [badLine M bad.data.toList])) :
    ∃ (T : ByteArray) (X : Int), w4.cell? ⟨k0, 0, none⟩ = some (.string T) ∧ w4.cell? ⟨k0, 1, none⟩ = some (.int .i64 X) ∧
      ((decide ((M : Int) < (bad.size : Int) + 2) = true ∧ X = 3 ∧ T = { data := #[] }) ∨ (decide ((M : Int) < (bad.size : Int) + 2) = false ∧ X = 2 ∧ T = { data := #[] }) ∨ (decide ((M : Int) < (bad.size : Int) + 2) = false ∧ X = 0 ∧ T = bad)) := by
  have hl0 : ([badLine M bad.data.toList] : List (List UInt8 × Int))[0]? = some ((badLine M bad.data.toList).1, (badLine M bad.data.toList).2) := rfl
  refine ⟨_, _, (hro.cellAt 0 (by omega)).trans (lnsV_get hl0).1, (hro.cellAt 1 (by omega)).trans (lnsV_get hl0).2, ?_⟩
  by_cases hlong : M < bad.size + 2
  · rw [badLine, if_pos (by rw [← Lib.size_eq]; exact hlong)]
    exact .inl ⟨decide_eq_true (by omega), rfl, rfl⟩
  · rw [badLine, if_neg (by rw [← Lib.size_eq]; exact hlong)]
    cases hpl : plainB bad.data.toList
    · exact .inr (.inl ⟨decide_eq_false (by omega), rfl, rfl⟩)
    · exact .inr (.inr ⟨decide_eq_false (by omega), rfl, mkS_data bad⟩)
/-- Behind the first cutter's second Feed. -/
structure Gone2 (w : World) (a b M : Nat) (J : List UInt8) (y : Value) (W : World) : Prop where
  ca : ∃ v, Cut w.heap.size W a v M (feed M ⟨[], 0, 10, 1⟩ J).1.kept (feed M ⟨[], 0, 10, 1⟩ J).1.pend (feed M ⟨[], 0, 10, 1⟩ J).1.last (feed M ⟨[], 0, 10, 1⟩ J).1.lines
  cb : Cut w.heap.size W b (.slice none 0 0) M [] 0 0 0
  y : ∃ B, W.ownsRow B 49 2 y (feed M ⟨[], 0, 10, 1⟩ J).2.length (lnsV (feed M ⟨[], 0, 10, 1⟩ J).2)
  below : Below w.heap.size w W
  ab : a ≠ b
theorem goes_feed {w w4 : World} {a b M : Nat} {va o : Value} {l : List UInt8 × Int} (hg : Gone w a b M va o l w4) (n c : Nat) (ps : List ByteArray) (A : Option Addr) (hs : Strs w A n ps) (h2 : 2 ≤ M) (h6 : M ≤ 65536) (hj : (joinB ps).length ≤ 20000) (hn : n ≤ 100) :
    Calls Try.prog 11 #[.pointer (some ⟨a, 0, none⟩), .slice A n c] w4 fun e w' => ∃ y, e = .returned y ∧ Gone2 w a b M (joinB ps) y w' := by
  refine (feed_x w.heap.size a M n c ⟨[], 0, 10, 1⟩ va A ps w4 hg.ca ⟨by simp, fun h => absurd h (by decide)⟩ h2 h6 hg.below.size (by show 0 + _ ≤ _; omega) (by show 1 + _ ≤ _; omega) (hs.below hg.below) (fun ad h h0 => ?_) (by omega)).mono ?_
  · obtain ⟨ad', e, hlt, _⟩ := hs.2 h0
    rw [h] at e
    injection e with e
    subst e
    exact ⟨by have := hg.ca.ge; omega, fun e => by have := (hg.ca.own.lt _ e).1; omega⟩
  · rintro e w' ⟨v', y, rfl, hc, hr, ho⟩
    refine ⟨y, rfl, ⟨v', hc⟩, ⟨?_, ⟨rfl, .inl ⟨rfl, rfl⟩⟩, hg.cb.ge⟩, ⟨_, hr⟩, hg.below.trans (ho.toBelow hg.below.size hg.ca.ge (fun k e => (hg.ca.own.lt k e).1)), hg.ab⟩
    exact (ho.block b (lt5 hg.cb.blk) (Ne.symm hg.ab) (fun e => row_ne hg.ca.own hg.cb.blk (by decide) e.symm)).trans hg.cb.blk
/-- At the end: the same lines twice, as many bytes behind. -/
structure Fin2 (w : World) (a b : Nat) (LL : List (List UInt8 × Int)) (pd : Int) (y z : Value) (W : World) : Prop where
  a : W.cell? ⟨a, 2, none⟩ = some (.int .i64 pd)
  b : W.cell? ⟨b, 2, none⟩ = some (.int .i64 pd)
  y : W.ownsRow 0 49 2 y LL.length (lnsV LL)
  z : W.ownsRow 0 49 2 z LL.length (lnsV LL)
  below : Below w.heap.size w W
  len : LL.length ≤ 1000000000
theorem goes_feed2 {w w4 : World} {a b M : Nat} {y : Value} (n c : Nat) (ps : List ByteArray) (A : Option Addr) (hg : Gone2 w a b M (joinB ps) y w4) (hs : Strs w A n ps) (h2 : 2 ≤ M) (h6 : M ≤ 65536) (hj : (joinB ps).length ≤ 20000) (hn : n ≤ 100) :
    Calls Try.prog 11 #[.pointer (some ⟨b, 0, none⟩), .slice A n c] w4 fun e w' => ∃ z, e = .returned z ∧ ∃ LL pd, Fin2 w a b LL pd y z w' := by
  refine ((fa_new hg.cb hg.below.size).feed (Below.refl _ _) A n c ps (hs.below hg.below) (fun ad h h0 => ?_) h2 h6 (by simp only [List.length_nil]; omega) (by omega)).mono ?_
  · obtain ⟨ad', e, hlt, _⟩ := hs.2 h0
    rw [h] at e
    injection e with e
    subst e
    exact .inr ⟨Nat.lt_of_lt_of_le hlt hg.below.size, by have := hg.cb.ge; omega⟩
  · rintro e w' ⟨z, rfl, hfo⟩
    obtain ⟨vb, hcb, ho⟩ := hfo.cut
    obtain ⟨va, hca⟩ := hg.ca
    obtain ⟨B, hy⟩ := hg.y
    obtain ⟨B', hz⟩ := hfo.out
    obtain ⟨hsim, hsl⟩ := Sim.feed (most := M) (joinB ps) sim0
    have hz' : w'.ownsRow B' 49 2 z (feed M st0 (joinB ps)).2.length (lnsV (feed M st0 (joinB ps)).2) := hz
    have hca' := hca.aside hg.cb.blk hg.ab ho
    have hy' := own_aside hy (by decide) hg.cb.blk ho
    rw [hsl] at hy'
    refine ⟨z, rfl, (feed M st0 (joinB ps)).2, ((feed M st0 (joinB ps)).1.pend : Int), ?_, cell5 hcb.blk 2, own_mono hy' (Nat.zero_le _), own_mono hz' (Nat.zero_le _), hg.below.trans (ho.toBelow hg.below.size hg.cb.ge (fun k e => by cases e)), ?_⟩
    · rw [← hsim.pend]; exact cell5 hca'.blk 2
    · have := (feed_count M (joinB ps) st0).2.2; omega

set_option maxRecDepth 100000 in
set_option maxHeartbeats 1000000 in
theorem lineGoes_x (most : Int) (bad : ByteArray) (n c : Nat) (ps : List ByteArray) (A : Option Addr) (m : Int) (w : World) (hm : w.cell? ⟨0, 0, none⟩ = some (.int .i64 m)) (h0 : 0 < w.heap.size) (hs : Strs w A n ps) (hz : ∀ p ∈ ps, p.size ≤ 140737488355328) :
    Calls Try.prog 7 #[.int .i64 most, .string bad, .slice A n c] w fun e w' => e = .returned (.bool true) ∧ Below w.heap.size w w' := by
  have HA := Lib.hid (awake_x m w hm h0)
  have HS := Lib.hid hs
  have HZ := Lib.hid hz
  clear hm hs hz
  go_enter Try.func7, Try.ntmps7
  go_wp2_with fail
  refine HA.out.mono ?_
  rintro e w1 ⟨rfl, hb1⟩
  have HB1 := Lib.hid hb1
  have HF := Lib.hid (few_x n c ps A w1 (HS.out.below hb1) HZ.out)
  clear hb1
  go_wp2_with fail
  refine HF.out.mono ?_
  rintro e w2 ⟨rfl, rfl⟩
  cases hfew : fewB ps
  · go_wp2_with fail
    go_ret
    exact ⟨rfl, HB1.out⟩
  obtain ⟨hl1, hl2⟩ := of_decide_eq_true hfew
  have hn : n ≤ 100 := by rw [← HS.out.1]; exact hl1
  have HJ := Lib.hid hl2
  clear hfew hl1 hl2
  by_cases h5 : 5000 < bad.size
  · have d5 : decide ((5000 : Int) < (bad.size : Int)) = true := decide_eq_true (by omega)
    go_wp2_with fail
    go_ret
    exact ⟨rfl, HB1.out⟩
  have d5 : decide ((5000 : Int) < (bad.size : Int)) = false := decide_eq_false (by omega)
  by_cases h2 : most < 2
  · have d2 : decide (most < 2) = true := decide_eq_true h2
    go_wp2_with fail
    go_ret
    exact ⟨rfl, HB1.out⟩
  have d2 : decide (most < 2) = false := decide_eq_false h2
  by_cases h6 : 65536 < most
  · have d6 : decide (65536 < most) = true := decide_eq_true h6
    go_wp2_with fail
    go_ret
    exact ⟨rfl, HB1.out⟩
  have d6 : decide (65536 < most) = false := decide_eq_false h6
  obtain ⟨M, rfl⟩ := Int.eq_ofNat_of_zero_le (show 0 ≤ most by omega)
  have hM2 : 2 ≤ M := by omega
  have hM6 : M ≤ 65536 := by omega
  have HN := Lib.hid fun W => new_yes M W hM2 hM6
  go_wp2_with fail
  · go_ret
    exact ⟨rfl, HB1.out⟩
  all_goals
    refine (HN.out _).mono ?_
    rintro e w3 ⟨rfl, rfl⟩
    go_wp2_with fail
    refine (HN.out _).mono ?_
    rintro e w3 ⟨rfl, rfl⟩
    have hth := two_of (M := M) HB1.out
    unfold newCells at hth
    go_wp2_with fail
    generalize ((w1.alloc (.cells #[.int .i64 (M : Int), .slice none 0 0, .int .i64 0, .int .u8 0, .int .i64 0] 53)).alloc (.cells #[.int .i64 (M : Int), .slice none 0 0, .int .i64 0, .int .u8 0, .int .i64 0] 53)) = W3 at hth
    have hba : w.heap.size ≤ w1.heap.size := HB1.out.size
    generalize w1.heap.size + 1 = gb at hth
    generalize w1.heap.size = ga at hth hba
    have HT := Lib.hid hth
    clear hth
    go_loop [11] (fun i => ∃ k : Nat, k ≤ bad.size ∧ i = .int .i64 k ∧ Hid (NoPair bad.data.toList k)) (fun i => bad.size - (intOf i).toNat)
    case atStart => exact ⟨0, Nat.zero_le _, rfl, fun j hj => absurd hj (Nat.not_lt_zero j)⟩
    case round =>
      obtain ⟨k, hk, rfl, HNP⟩ := hrel
      by_cases hlt : k + 1 < bad.size
      · first
        | (exfalso; omega)
        | (obtain ⟨x, hx⟩ : ∃ x : UInt8, bad[k]'(by omega) = x := ⟨_, rfl⟩
           obtain ⟨y, hy⟩ : ∃ y : UInt8, bad[k + 1]'hlt = y := ⟨_, rfl⟩
           have HX := Lib.hid (show bad.data.toList[k]? = some x by rw [← hx]; exact Lib.data_getElem? bad k (by omega))
           have HY := Lib.hid (show bad.data.toList[k + 1]? = some y by rw [← hy]; exact Lib.data_getElem? bad (k + 1) hlt)
           go_wp2_with fail
           · go_ret
             exact ⟨rfl, HT.out.below⟩
           · have hy10 : ((y.toNat : Int) == 10) = false := by assumption
             have HN1 := Lib.hid (np_y HNP.out HY.out hy10)
             go_round
             case rel => exact ⟨k + 1, by omega, by go_num, HN1.out⟩
             case measure => simp [intOf]; omega
           · have hx13 : ¬ (x.toNat : Int) = 13 := by assumption
             have HN1 := Lib.hid (np_x HNP.out HX.out hx13)
             go_round
             case rel => exact ⟨k + 1, by omega, by go_num, HN1.out⟩
             case measure => simp [intOf]; omega)
      · have hne := HNP.out.noEnd (by rw [← Lib.size_eq]; omega)
        have HFB := Lib.hid (feed_bad M bad.data.toList hne)
        have HFD := Lib.hid ((fa_new HT.out.ca HT.out.below.size).feed ((Below.refl _ _).alloc (Nat.le_refl _) (.cells #[.string bad, .string { data := #[13, 10] }] 9)) (some ⟨W3.heap.size, 0, none⟩) 2 2 [bad, { data := #[13, 10] }] (strs2 W3 bad { data := #[13, 10] } _ rfl) (fun ad h _ => by injection h with h; subst h; exact .inl (Nat.le_refl _)) hM2 hM6 (by rw [joinB_two, List.length_append, ← Lib.size_eq]; simp; omega) (by omega))
        clear hne
        go_wp2_with fail
        refine HFD.out.mono ?_
        rintro e w4 ⟨o, rfl, hfo⟩
        rw [joinB_two] at hfo
        obtain ⟨va, hga⟩ := goes_mid HT.out hfo HFB.out
        have HGA := Lib.hid hga
        obtain ⟨by1, hro⟩ := hga.row
        obtain ⟨k0, cap, rfl, _, _⟩ := hro.form (by omega)
        have a2 : w4.cell? ⟨ga, 2, none⟩ = some (.int .i64 0) := cell5 hga.ca.blk 2
        have HP := Lib.hid (pending_x ga 0 w4 a2)
        obtain ⟨T, X, x0, x1, hor⟩ := goes_line hro
        have HF2 := Lib.hid (goes_feed HGA.out n c ps A HS.out hM2 hM6 (by have := HJ.out; omega) (by omega))
        clear hfo hga hro a2
        rcases hor with ⟨hdl, rfl, rfl⟩ | ⟨hdl, rfl, rfl⟩ | ⟨hdl, rfl, rfl⟩
        all_goals
          go_wp2_with fail
          refine HP.out.mono ?_
          rintro e w5 ⟨rfl, rfl⟩
          go_wp2_with fail
          refine HF2.out.mono ?_
          rintro e w6 ⟨y, rfl, hg2⟩
          have HG2 := Lib.hid hg2
          have HF3 := Lib.hid (goes_feed2 n c ps A hg2 HS.out hM2 hM6 (by have := HJ.out; omega) (by omega))
          clear hg2
          go_wp2_with fail
          refine HF3.out.mono ?_
          rintro e w7 ⟨z, rfl, LL, pd, hfin⟩
          obtain ⟨Ay, cy, rfl⟩ := own_slice hfin.y
          obtain ⟨Az, cz, rfl⟩ := own_slice hfin.z
          have hll := hfin.len
          have HFIN := Lib.hid hfin
          clear hfin
          go_wp2_with fail
          go_loopw [15] (fun i wx => ∃ j q : Nat, j ≤ LL.length ∧ i = .int .i64 j ∧ wx = w7.drewN q) (fun i _ => LL.length - (intOf i).toNat)
          case atStart => exact ⟨0, 0, Nat.zero_le _, rfl, rfl⟩
          case round =>
            obtain ⟨j, q, hj, rfl, rfl⟩ := hrel
            by_cases hlt3 : j < LL.length
            · obtain ⟨ky, _, hvy, _, _⟩ := HFIN.out.y.form (by omega)
              obtain ⟨kz, _, hvz, _, _⟩ := HFIN.out.z.form (by omega)
              injection hvy with hvy hvy1 hvy2
              injection hvz with hvz hvz1 hvz2
              subst hvy; subst hvz
              clear hvy1 hvy2 hvz1 hvz2
              have hlj : LL[j]? = some (LL[j]'hlt3) := List.getElem?_eq_getElem hlt3
              generalize LL[j]'hlt3 = l at hlj
              obtain ⟨t, x⟩ := l
              have y0 : w7.cell? ⟨ky, j * 2, none⟩ = some (.string (mkS t)) := (HFIN.out.y.cellAt (j * 2) (by omega)).trans (lnsV_get hlj).1
              have y1 : w7.cell? ⟨ky, j * 2 + 1, none⟩ = some (.int .i64 x) := (HFIN.out.y.cellAt (j * 2 + 1) (by omega)).trans (lnsV_get hlj).2
              have z0 : w7.cell? ⟨kz, j * 2, none⟩ = some (.string (mkS t)) := (HFIN.out.z.cellAt (j * 2) (by omega)).trans (lnsV_get hlj).1
              have z1 : w7.cell? ⟨kz, j * 2 + 1, none⟩ = some (.int .i64 x) := (HFIN.out.z.cellAt (j * 2 + 1) (by omega)).trans (lnsV_get hlj).2
              clear hlj
              go_wp2_with fail
              go_quiet (fail)
              go_wp2_with fail
              go_roundw
              case rel => exact ⟨j + 1, _, by omega, by go_num, rfl⟩
              case measure => simp [intOf]; omega
            · have P1 := Lib.hid (pending_x ga pd (w7.drewN q) HFIN.out.a)
              have P2 := Lib.hid (pending_x gb pd (w7.drewN q) HFIN.out.b)
              go_wp2_with fail
              refine P1.out.mono ?_
              rintro e w9 ⟨rfl, rfl⟩
              go_wp2_with fail
              refine P2.out.mono ?_
              rintro e w9 ⟨rfl, rfl⟩
              go_wp2_with fail
              go_ret
              exact ⟨by simp, below_drewN HFIN.out.below _⟩
end Go.Proofs.Ytkkpfencnjnddaa
