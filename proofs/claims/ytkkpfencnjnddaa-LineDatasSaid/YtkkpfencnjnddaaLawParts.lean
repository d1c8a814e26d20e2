/-
  The walk of the law LineParts.
-/
import Derived.Test.YtkkpfencnjnddaaLoop
namespace Go.Proofs.Ytkkpfencnjnddaa
open Go.RowKit

/-- A new cutter's block. -/
def newCells (M : Nat) : Obj := .cells #[.int .i64 (M : Int), .slice none 0 0, .int .i64 0, .int .u8 0, .int .i64 0] 53
/-- Three new cutters. -/
structure Three (w : World) (a b c M : Nat) (W : World) : Prop where
  ca : Cut w.heap.size W a (.slice none 0 0) M [] 0 0 0
  cb : Cut w.heap.size W b (.slice none 0 0) M [] 0 0 0
  cc : Cut w.heap.size W c (.slice none 0 0) M [] 0 0 0
  below : Below w.heap.size w W
  ab : a ≠ b
  ac : a ≠ c
  bc : b ≠ c
theorem three_of {w w1 : World} {M : Nat} (hb : Below w.heap.size w w1) : Three w w1.heap.size (w1.heap.size + 1) (w1.heap.size + 1 + 1) M (((w1.alloc (newCells M)).alloc (newCells M)).alloc (newCells M)) := by
  have hs := hb.size
  have c1 := cut_new w.heap.size w1 M hs
  have c2 := cut_new w.heap.size (w1.alloc (newCells M)) M (by simp; omega)
  have c3 := cut_new w.heap.size ((w1.alloc (newCells M)).alloc (newCells M)) M (by simp; omega)
  have b1 : ∀ (W : World) o, Below W.heap.size W (W.alloc o) := fun W o => (Below.refl _ _).alloc (Nat.le_refl _) _
  have e1 : (w1.alloc (newCells M)).heap.size = w1.heap.size + 1 := by simp
  have e2 : ((w1.alloc (newCells M)).alloc (newCells M)).heap.size = w1.heap.size + 1 + 1 := by simp
  rw [e1] at c2
  rw [e2] at c3
  exact ⟨(c1.below (b1 _ _)).below (b1 _ _), c2.below (b1 _ _), c3, ((hb.alloc hs _).alloc (by simp; omega) _).alloc (by simp; omega) _, by omega, by omega, by omega⟩
theorem joinB_one (p : ByteArray) : joinB [p] = p.data.toList := by simp [joinB]
theorem take_snoc' (J : List UInt8) (k : Nat) : J.take (k + 1) = J.take k ++ ((mkS J).extract k (k + 1)).data.toList := by
  have e : ((mkS J).extract k (k + 1)).data.toList = (J.take (k + 1)).drop k := by
    rw [ByteArray.data_extract, Array.toList_extract]
    simp [mkS, List.extract, List.drop_take]
  rw [e]
  conv => lhs; rw [← List.take_append_drop k (J.take (k + 1))]
  rw [List.take_take, Nat.min_eq_left (by omega)]
theorem mkS_add (J : List UInt8) (p : ByteArray) : mkS J ++ p = mkS (J ++ p.data.toList) := mkS_cat J p

/-- Behind the first two ways: two cutters of one state, the same lines twice, a third cutter new. -/
structure Twice (w : World) (a b c M : Nat) (J : List UInt8) (xv yv : Value) (W : World) : Prop where
  ca : ∃ v, Cut w.heap.size W a v M (feed M st0 J).1.kept (feed M st0 J).1.pend (feed M st0 J).1.last (feed M st0 J).1.lines
  cb : ∃ v, Cut w.heap.size W b v M (feed M st0 J).1.kept (feed M st0 J).1.pend (feed M st0 J).1.last (feed M st0 J).1.lines
  cc : Cut w.heap.size W c (.slice none 0 0) M [] 0 0 0
  x : ∃ B, W.ownsRow B 49 2 xv (feed M st0 J).2.length (lnsV (feed M st0 J).2)
  y : ∃ B, W.ownsRow B 49 2 yv (feed M st0 J).2.length (lnsV (feed M st0 J).2)
  below : Below w.heap.size w W
theorem parts_mid {w W3 wr w6 : World} {a b c M B : Nat} {J : List UInt8} {xv yv : Value} (ht : Three w a b c M W3) (hfa : FA W3 w.heap.size a M J xv wr) (hcb : Cut w.heap.size wr b (.slice none 0 0) M [] 0 0 0) (hfo : FO wr w.heap.size b M [] J (.slice none 0 0) yv w6) (hout : w6.ownsRow B 49 2 yv (feed M (feed M st0 []).1 J).2.length (lnsV (feed M (feed M st0 []).1 J).2)) :
    Twice w a b c M J xv yv w6 := by
  obtain ⟨va, hca, _⟩ := hfa.cut
  obtain ⟨vb, hcb', ho⟩ := hfo.cut
  have hcc : Cut w.heap.size wr c (.slice none 0 0) M [] 0 0 0 := ⟨(hfa.keeps c (lt5 ht.cc.blk) (Ne.symm ht.ac)).trans ht.cc.blk, ⟨rfl, .inl ⟨rfl, rfl⟩⟩, ht.cc.ge⟩
  have hbr := ht.below.trans (hfa.toBelow ht.ca.ge)
  exact ⟨⟨va, hca.aside hcb.blk ht.ab ho⟩, ⟨vb, hcb'⟩, hcc.aside hcb.blk (Ne.symm ht.bc) ho, ⟨_, own_aside hfa.row (by decide) hcb.blk ho⟩, ⟨B, hout⟩, hbr.trans (ho.toBelow hbr.size hcb.ge (fun k e => by cases e))⟩
theorem Twice.aside {w W W' : World} {a b c M : Nat} {J : List UInt8} {xv yv : Value} {r' : Option Nat} (h : Twice w a b c M J xv yv W) (hac : a ≠ c) (hbc : b ≠ c) (ho : Only c none r' W W') :
    (∃ v, Cut w.heap.size W' a v M (feed M st0 J).1.kept (feed M st0 J).1.pend (feed M st0 J).1.last (feed M st0 J).1.lines) ∧ (∃ v, Cut w.heap.size W' b v M (feed M st0 J).1.kept (feed M st0 J).1.pend (feed M st0 J).1.last (feed M st0 J).1.lines) ∧
      (∃ B, W'.ownsRow B 49 2 xv (feed M st0 J).2.length (lnsV (feed M st0 J).2)) ∧ (∃ B, W'.ownsRow B 49 2 yv (feed M st0 J).2.length (lnsV (feed M st0 J).2)) ∧ Below w.heap.size w W' := by
  obtain ⟨va, hca⟩ := h.ca
  obtain ⟨vb, hcb⟩ := h.cb
  obtain ⟨bx, hx⟩ := h.x
  obtain ⟨by', hy⟩ := h.y
  exact ⟨⟨va, hca.aside h.cc.blk hac ho⟩, ⟨vb, hcb.aside h.cc.blk hbc ho⟩, ⟨bx, own_aside hx (by decide) h.cc.blk ho⟩, ⟨by', own_aside hy (by decide) h.cc.blk ho⟩, h.below.trans (ho.toBelow h.below.size h.cc.ge (fun k e => by cases e))⟩

set_option maxRecDepth 100000 in
set_option maxHeartbeats 1000000 in
theorem lineParts_x (most : Int) (n c : Nat) (ps : List ByteArray) (A : Option Addr) (m : Int) (w : World) (hm : w.cell? ⟨0, 0, none⟩ = some (.int .i64 m)) (h0 : 0 < w.heap.size) (hs : Strs w A n ps) (hz : ∀ p ∈ ps, p.size ≤ 140737488355328) :
    Calls Try.prog 5 #[.int .i64 most, .slice A n c] w fun e w' => e = .returned (.bool true) ∧ Below w.heap.size w w' := by
  have HA := Lib.hid (awake_x m w hm h0)
  have HS := Lib.hid hs
  have HZ := Lib.hid hz
  clear hm hs hz
  go_enter Try.func5, Try.ntmps5
  go_wp2_with fail
  refine HA.out.mono ?_
  rintro e w1 ⟨rfl, hb1⟩
  have HB1 := Lib.hid hb1
  have HF := Lib.hid (few_x n c ps A w1 (HS.out.below hb1) HZ.out)
  clear hb1
  go_wp2_with fail
  refine HF.out.mono ?_
  rintro e w2 ⟨rfl, rfl⟩
  cases hfew : fewB ps
  · go_wp2_with fail
    go_ret
    exact ⟨rfl, HB1.out⟩
  · obtain ⟨hl1, hl2⟩ := of_decide_eq_true hfew
    have hn : n ≤ 100 := by rw [← HS.out.1]; exact hl1
    have HJ := Lib.hid hl2
    clear hfew hl1 hl2
    by_cases h2 : most < 2
    · have d2 : decide (most < 2) = true := decide_eq_true h2
      go_wp2_with fail
      go_ret
      exact ⟨rfl, HB1.out⟩
    · have d2 : decide (most < 2) = false := decide_eq_false h2
      by_cases h6 : 65536 < most
      · have d6 : decide (65536 < most) = true := decide_eq_true h6
        go_wp2_with fail
        go_ret
        exact ⟨rfl, HB1.out⟩
      · have d6 : decide (65536 < most) = false := decide_eq_false h6
        obtain ⟨M, rfl⟩ := Int.eq_ofNat_of_zero_le (show 0 ≤ most by omega)
        have hM2 : 2 ≤ M := by omega
        have hM6 : M ≤ 65536 := by omega
        have HN := Lib.hid fun W => new_yes M W hM2 hM6
        go_wp2_with fail
        refine (HN.out _).mono ?_
        rintro e w3 ⟨rfl, rfl⟩
        go_wp2_with fail
        refine (HN.out _).mono ?_
        rintro e w3 ⟨rfl, rfl⟩
        go_wp2_with fail
        refine (HN.out _).mono ?_
        rintro e w3 ⟨rfl, rfl⟩
        have hth := three_of (M := M) HB1.out
        unfold newCells at hth
        go_wp2_with fail
        generalize (((w1.alloc (.cells #[.int .i64 (M : Int), .slice none 0 0, .int .i64 0, .int .u8 0, .int .i64 0] 53)).alloc (.cells #[.int .i64 (M : Int), .slice none 0 0, .int .i64 0, .int .u8 0, .int .i64 0] 53)).alloc (.cells #[.int .i64 (M : Int), .slice none 0 0, .int .i64 0, .int .u8 0, .int .i64 0] 53)) = W3 at hth
        have hba : w.heap.size ≤ w1.heap.size := HB1.out.size
        generalize w1.heap.size + 1 + 1 = gc at hth
        generalize w1.heap.size + 1 = gb at hth
        generalize w1.heap.size = ga at hth hba
        have HT := Lib.hid hth
        clear hth
        go_loopw [11, 12, 14] (fun al xv i wr => ∃ k : Nat, k ≤ n ∧ i = .int .i64 k ∧ al = .string (mkS (joinB (ps.take k))) ∧ FA W3 w.heap.size ga M (joinB (ps.take k)) xv wr) (fun _ _ i _ => n - (intOf i).toNat)
        case atStart => exact ⟨0, Nat.zero_le _, rfl, rfl, fa_new HT.out.ca HT.out.below.size⟩
        case round =>
          obtain ⟨k, hk, rfl, rfl, hfa⟩ := hrel
          by_cases hlt : k < n
          · obtain ⟨ad, p, rfl, hpk, hab, hcw⟩ := HS.out.cell hlt
            have hbw := HT.out.below.trans (hfa.toBelow hba)
            have hcl : wr.cell? (ad.add k) = some (.string p) := (hbw.cell (by rw [add_block]; exact hab)).trans hcw
            have hj1 := (join_le (m := 0) hpk)
            have hjm := join_mono ps k
            have hps : p.size ≤ 20000 := by have := HJ.out; omega
            have hjs : (mkS (joinB (ps.take k))).size ≤ 20000 := by have := HJ.out; rw [mkS, size_mk]; omega
            have HPK := Lib.hid hpk
            have HFA := Lib.hid hfa
            have HJT := Lib.hid (joinB_take hpk)
            have hjl : (joinB (ps.take k)).length ≤ 20000 := by have := HJ.out; omega
            clear hpk hcw hfa hj1 hjm hbw
            generalize joinB (ps.take k) = J at HFA hjs HJT hjl
            go_wp2_with fail
            refine (HFA.out.feed ((Below.refl _ _).alloc (Nat.le_refl _) _) (some ⟨wr.heap.size, 0, none⟩) 1 1 [p] (strs1 wr p _ rfl) (fun ad h _ => by injection h with h; subst h; exact .inl (Nat.le_refl _)) hM2 hM6 (by rw [joinB_one, ← Lib.size_eq]; omega) (by omega)).mono ?_
            rintro e w4 ⟨o, rfl, hfo⟩
            rw [joinB_one] at hfo
            obtain ⟨b, hout⟩ := hfo.out
            have HFO := Lib.hid hfo
            have HOUT := Lib.hid hout
            have hct := feed_count M J st0
            have hct2 := feed_count M p.data.toList (feed M st0 J).1
            have HCT := Lib.hid (show (feed M st0 J).2.length + (feed M (feed M st0 J).1 p.data.toList).2.length ≤ 1000000000 by rw [← Lib.size_eq] at hct2; omega)
            clear hfo hout hct hct2
            go_wp2_with (at_builtin
                         refine app_lines rfl (.tmp 68) (.tmp 75) rfl W3.heap.size b _ _ _ _ rfl rfl HFO.out.row HOUT.out HCT.out HFO.out.size ?_
                         intro xv' w5 hr5 hg5)
            have HFA5 := Lib.hid (HFO.out.append hr5 hg5)
            clear hr5 hg5
            go_wp2_with fail
            go_roundw
            case rel => exact ⟨k + 1, by omega, by go_num, by rw [HJT.out, mkS_add], by rw [HJT.out]; exact HFA5.out⟩
            case measure => simp [intOf]; omega
          · rw [List.take_of_length_le (by rw [HS.out.1]; omega)] at hfa
            rw [List.take_of_length_le (by rw [HS.out.1]; omega)]
            have hjl := HJ.out
            generalize hJJ : joinB ps = J at hfa hjl
            have HE := Lib.hid hJJ
            have HFA := Lib.hid hfa
            clear hfa hJJ
            have hbr := HT.out.below.trans (HFA.out.toBelow hba)
            have hcb : Cut w.heap.size wr gb (.slice none 0 0) M [] 0 0 0 := ⟨(HFA.out.keeps gb (lt5 HT.out.cb.blk) (Ne.symm HT.out.ab)).trans HT.out.cb.blk, ⟨rfl, .inl ⟨rfl, rfl⟩⟩, HT.out.cb.ge⟩
            have HCB := Lib.hid hcb
            have HBR := Lib.hid hbr
            have hfb := (fa_new hcb hbr.size).feed (Below.refl _ _) A n c ps (HS.out.below hbr) (fun ad h h0 => by
              obtain ⟨ad', e, hlt', _⟩ := HS.out.2 h0
              rw [h] at e
              injection e with e
              subst e
              exact .inr ⟨Nat.lt_of_lt_of_le hlt' hbr.size, by have := HT.out.cb.ge; omega⟩) hM2 hM6 (by rw [HE.out]; simp only [List.length_nil]; omega) (by omega)
            rw [HE.out] at hfb
            have HFB := Lib.hid hfb
            clear hfb hcb hbr
            go_wp2_with fail
            refine HFB.out.mono ?_
            rintro e w6 ⟨y, rfl, hfo⟩
            obtain ⟨by', hout⟩ := hfo.out
            have hst := parts_mid HT.out HFA.out HCB.out hfo hout
            have hy : w6.ownsRow by' 49 2 y (feed M st0 J).2.length (lnsV (feed M st0 J).2) := hout
            have HST := Lib.hid hst
            obtain ⟨Ax, cx, rfl⟩ := own_slice HFA.out.row
            obtain ⟨Ay, cy, rfl⟩ := own_slice hy
            clear hfo hout hst hy
            have hms : (mkS J).size = J.length := size_mk J
            go_wp2_with fail
            go_loopw [13, 16] (fun zv i wx => ∃ k : Nat, k ≤ J.length ∧ i = .int .i64 k ∧ FA w6 w.heap.size gc M (J.take k) zv wx) (fun _ i _ => J.length - (intOf i).toNat)
            case atStart => exact ⟨0, Nat.zero_le _, rfl, fa_new HST.out.cc HST.out.below.size⟩
            case round =>
              obtain ⟨k2, hk2, rfl, hfa2⟩ := hrel
              by_cases hlt2 : k2 < J.length
              · have HFA2 := Lib.hid hfa2
                have hjs := take_snoc' J k2
                have HJS := Lib.hid hjs
                have hjt : (J.take k2).length ≤ 20000 := by rw [List.length_take]; omega
                clear hfa2 hjs
                generalize J.take k2 = J2 at HFA2 HJS hjt
                go_wp2_with fail
                have hex : ((mkS J).extract k2 (k2 + 1)).size ≤ 20000 := by
                  rw [Lib.size_eq, ByteArray.data_extract, Array.toList_extract]
                  simp [List.extract, mkS]
                  omega
                generalize (mkS J).extract k2 (k2 + 1) = p at hex HJS
                refine (HFA2.out.feed ((Below.refl _ _).alloc (Nat.le_refl _) _) (some ⟨wr.heap.size, 0, none⟩) 1 1 [p] (strs1 wr p _ rfl) (fun ad h _ => by injection h with h; subst h; exact .inl (Nat.le_refl _)) hM2 hM6 (by rw [joinB_one, ← Lib.size_eq]; omega) (by omega)).mono ?_
                rintro e w7 ⟨o, rfl, hfo⟩
                rw [joinB_one] at hfo
                obtain ⟨b, hout⟩ := hfo.out
                have HFO := Lib.hid hfo
                have HOUT := Lib.hid hout
                have hct := feed_count M J2 st0
                have hct2 := feed_count M p.data.toList (feed M st0 J2).1
                have HCT := Lib.hid (show (feed M st0 J2).2.length + (feed M (feed M st0 J2).1 p.data.toList).2.length ≤ 1000000000 by rw [← Lib.size_eq] at hct2; omega)
                clear hfo hout hct hct2
                go_wp2_with (at_builtin
                             refine app_lines rfl (.tmp 86) (.tmp 94) rfl w6.heap.size b _ _ _ _ rfl rfl HFO.out.row HOUT.out HCT.out HFO.out.size ?_
                             intro xv' w8 hr8 hg8)
                have HFA8 := Lib.hid (HFO.out.append hr8 hg8)
                clear hr8 hg8
                go_wp2_with fail
                go_roundw
                case rel => exact ⟨k2 + 1, by omega, by go_num, by rw [HJS.out]; exact HFA8.out⟩
                case measure => simp [intOf]; omega
              · rw [List.take_of_length_le (by omega)] at hfa2
                obtain ⟨vc, hcc, hoc⟩ := hfa2.cut
                obtain ⟨ha, hb, hx, hy, hbl⟩ := HST.out.aside HT.out.ac HT.out.bc hoc
                obtain ⟨Az, cz, rfl⟩ := own_slice hfa2.row
                obtain ⟨va, hca⟩ := ha
                obtain ⟨vb, hcb⟩ := hb
                obtain ⟨bx, hx⟩ := hx
                obtain ⟨bby, hy⟩ := hy
                have hz := hfa2.row
                have hlin := (feed_count M J st0).2.1
                have hLL := (feed_count M J st0).2.2
                generalize feed M st0 J = R at hca hcb hcc hx hy hz hlin hLL
                obtain ⟨S, LL⟩ := R
                simp only at hca hcb hcc hx hy hz hlin hLL
                have a2 : wr.cell? ⟨ga, 2, none⟩ = some (.int .i64 (S.pend : Int)) := cell5 hca.blk 2
                have a4 : wr.cell? ⟨ga, 4, none⟩ = some (.int .i64 (S.lines : Int)) := cell5 hca.blk 4
                have b2 : wr.cell? ⟨gb, 2, none⟩ = some (.int .i64 (S.pend : Int)) := cell5 hcb.blk 2
                have c2 : wr.cell? ⟨gc, 2, none⟩ = some (.int .i64 (S.pend : Int)) := cell5 hcc.blk 2
                have HX := Lib.hid hx
                have HY := Lib.hid hy
                have HZ' := Lib.hid hz
                have HBL := Lib.hid hbl
                have HLIN := Lib.hid hlin
                clear hfa2 hca hcb hcc hoc hx hy hz hbl hlin
                go_wp2_with fail
                go_loopw [17] (fun i wx => ∃ j q : Nat, j ≤ LL.length ∧ i = .int .i64 j ∧ wx = wr.drewN q) (fun i _ => LL.length - (intOf i).toNat)
                case atStart => exact ⟨0, 0, Nat.zero_le _, rfl, rfl⟩
                case round =>
                  obtain ⟨j, q, hj, rfl, rfl⟩ := hrel
                  by_cases hlt3 : j < LL.length
                  · obtain ⟨kx, _, hvx, _, _⟩ := HX.out.form (by omega)
                    obtain ⟨ky, _, hvy, _, _⟩ := HY.out.form (by omega)
                    obtain ⟨kz, _, hvz, _, _⟩ := HZ'.out.form (by omega)
                    injection hvx with hvx hvx1 hvx2
                    injection hvy with hvy hvy1 hvy2
                    injection hvz with hvz hvz1 hvz2
                    subst hvx; subst hvy; subst hvz
                    clear hvx1 hvx2 hvy1 hvy2 hvz1 hvz2
                    have hlj : LL[j]? = some (LL[j]'hlt3) := List.getElem?_eq_getElem hlt3
                    generalize LL[j]'hlt3 = l at hlj
                    obtain ⟨t, x⟩ := l
                    have x0 : wr.cell? ⟨kx, j * 2, none⟩ = some (.string (mkS t)) := (HX.out.cellAt (j * 2) (by omega)).trans (lnsV_get hlj).1
                    have x1 : wr.cell? ⟨kx, j * 2 + 1, none⟩ = some (.int .i64 x) := (HX.out.cellAt (j * 2 + 1) (by omega)).trans (lnsV_get hlj).2
                    have y0 : wr.cell? ⟨ky, j * 2, none⟩ = some (.string (mkS t)) := (HY.out.cellAt (j * 2) (by omega)).trans (lnsV_get hlj).1
                    have y1 : wr.cell? ⟨ky, j * 2 + 1, none⟩ = some (.int .i64 x) := (HY.out.cellAt (j * 2 + 1) (by omega)).trans (lnsV_get hlj).2
                    have z0 : wr.cell? ⟨kz, j * 2, none⟩ = some (.string (mkS t)) := (HZ'.out.cellAt (j * 2) (by omega)).trans (lnsV_get hlj).1
                    have z1 : wr.cell? ⟨kz, j * 2 + 1, none⟩ = some (.int .i64 x) := (HZ'.out.cellAt (j * 2 + 1) (by omega)).trans (lnsV_get hlj).2
                    clear hlj
                    go_wp2_with fail
                    go_quiet (fail)
                    go_wp2_with fail
                    go_roundw
                    case rel => exact ⟨j + 1, _, by omega, by go_num, rfl⟩
                    case measure => simp [intOf]; omega
                  · have P1 := Lib.hid (pending_x ga S.pend (wr.drewN q) a2)
                    have P2 := Lib.hid (pending_x gb S.pend (wr.drewN q) b2)
                    have P3 := Lib.hid (pending_x gc S.pend (wr.drewN q) c2)
                    have P4 := Lib.hid (lines_x ga S.lines (wr.drewN q) a4)
                    go_wp2_with fail
                    refine P1.out.mono ?_
                    rintro e w9 ⟨rfl, rfl⟩
                    go_wp2_with fail
                    refine P2.out.mono ?_
                    rintro e w9 ⟨rfl, rfl⟩
                    go_wp2_with fail
                    refine P1.out.mono ?_
                    rintro e w9 ⟨rfl, rfl⟩
                    go_wp2_with fail
                    refine P3.out.mono ?_
                    rintro e w9 ⟨rfl, rfl⟩
                    go_wp2_with fail
                    refine P4.out.mono ?_
                    rintro e w9 ⟨rfl, rfl⟩
                    have hll : ((S.lines : Int) == (LL.length : Int)) = true := by have := HLIN.out; rw [beq_iff_eq]; simp [st0] at this; omega
                    go_wp2_with fail
                    go_ret
                    exact ⟨rfl, below_drewN HBL.out _⟩
end Go.Proofs.Ytkkpfencnjnddaa
