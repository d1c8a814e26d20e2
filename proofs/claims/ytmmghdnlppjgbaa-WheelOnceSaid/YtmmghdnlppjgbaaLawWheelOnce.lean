/-
  The walk of WheelOnce.
-/
import Derived.Test.YtmmghdnlppjgbaaWhOnce
namespace Go.Proofs.Ytmmghdnlppjgbaa
set_option maxRecDepth 100000
open Go.RowKit
/-- Where a law stands behind its steps: q have fired. -/
structure Stp (W : World) (Oa : Nat → Prop) (a : Nat) (nA : Int) (Ob : Nat → Prop) (b : Nat) (nB : Int) (M : List En) (fm q : Nat) (vo : Value) (to : Int) (w : World) : Prop where
  os : OS W Oa a nA (M.drop q) Ob b nB M fm ((M.take q).map kv1) vo ((M.take q).map Prod.snd) w
  le : q ≤ M.length
  past : ∀ p ∈ M.take q, p.1 ≤ to
set_option maxHeartbeats 16000000 in
theorem wheelOnce_x (s : Int) (v0 : Value) (l : List Int) (v1 : Value) (ls : List Int) (bt : Int) (W : World) (_ : IntKind.i64.min ≤ s) (_ : s ≤ IntKind.i64.max) (y0 : RowAt W v0 (intsV l)) (_ : ∀ n ∈ l, -9223372036854775808 ≤ n ∧ n ≤ 9223372036854775807)
    (y1 : RowAt W v1 (intsV ls)) (_ : ∀ n ∈ ls, -9223372036854775808 ≤ n ∧ n ≤ 9223372036854775807) (_ : IntKind.i64.min ≤ bt) (_ : bt ≤ IntKind.i64.max) :
    Calls Try.prog 4 #[.int .i64 s, v0, v1, .int .i64 bt] W fun e w' => e = .returned (.bool true) ∧ Below W.heap.size W w' := by
  obtain ⟨A, c, hv, -, hc⟩ := y0.ints
  obtain ⟨A1, c1, hv1, -, hc1⟩ := y1.ints
  have HR := Lib.hid hc
  have HR1 := Lib.hid hc1
  subst hv hv1
  clear hc hc1 y0 y1
  obtain ⟨N, hN⟩ : ∃ N, l.length = N := ⟨_, rfl⟩
  obtain ⟨N1, hN1⟩ : ∃ N, ls.length = N := ⟨_, rfl⟩
  rw [hN, hN1]
  have HNl := Lib.hid (And.intro hN hN1)
  clear hN hN1
  have HAw := Lib.hid (awake_x W)
  by_cases h1 : 60 < N
  · have d0 : decide ((60 : Int) < (N : Int)) = true := decide_eq_true (by omega)
    go_enter Try.func4, Try.ntmps4
    go_wp2_with fail
    refine HAw.out.mono ?_
    rintro e w1 ⟨rfl, hb⟩
    go_wp2_with fail
    go_ret
    exact ⟨rfl, hb⟩
  have d0 : decide ((60 : Int) < (N : Int)) = false := decide_eq_false (by omega)
  by_cases h2 : 60 < N1
  · have d1 : decide ((60 : Int) < (N1 : Int)) = true := decide_eq_true (by omega)
    go_enter Try.func4, Try.ntmps4
    go_wp2_with fail
    refine HAw.out.mono ?_
    rintro e w1 ⟨rfl, hb⟩
    go_wp2_with fail
    go_ret
    exact ⟨rfl, hb⟩
  have d1 : decide ((60 : Int) < (N1 : Int)) = false := decide_eq_false (by omega)
  by_cases h3 : s < 0
  · have d2 : decide (s < 0) = true := decide_eq_true (by exact h3)
    go_enter Try.func4, Try.ntmps4
    go_wp2_with fail
    refine HAw.out.mono ?_
    rintro e w1 ⟨rfl, hb⟩
    go_wp2_with fail
    go_ret
    exact ⟨rfl, hb⟩
  have d2 : decide (s < 0) = false := decide_eq_false (by exact h3)
  by_cases h4 : 549755813888 < s
  · have d3 : decide ((549755813888 : Int) < s) = true := decide_eq_true (by exact h4)
    go_enter Try.func4, Try.ntmps4
    go_wp2_with fail
    refine HAw.out.mono ?_
    rintro e w1 ⟨rfl, hb⟩
    go_wp2_with fail
    go_ret
    exact ⟨rfl, hb⟩
  have d3 : decide ((549755813888 : Int) < s) = false := decide_eq_false (by exact h4)
  by_cases h5 : bt < 1
  · have d4 : decide (bt < 1) = true := decide_eq_true (by exact h5)
    go_enter Try.func4, Try.ntmps4
    go_wp2_with fail
    refine HAw.out.mono ?_
    rintro e w1 ⟨rfl, hb⟩
    go_wp2_with fail
    go_ret
    exact ⟨rfl, hb⟩
  have d4 : decide (bt < 1) = false := decide_eq_false (by exact h5)
  by_cases h6 : 1048576 < bt
  · have d5 : decide ((1048576 : Int) < bt) = true := decide_eq_true (by exact h6)
    go_enter Try.func4, Try.ntmps4
    go_wp2_with fail
    refine HAw.out.mono ?_
    rintro e w1 ⟨rfl, hb⟩
    go_wp2_with fail
    go_ret
    exact ⟨rfl, hb⟩
  have d5 : decide ((1048576 : Int) < bt) = false := decide_eq_false (by exact h6)
  have HN := Lib.hid (show 0 ≤ s ∧ s ≤ 549755813888 ∧ 1 ≤ bt ∧ bt ≤ 1048576 by omega)
  have HL := Lib.hid (show N ≤ 60 ∧ N1 ≤ 60 by omega)
  clear h1 h2 h3 h4 h5 h6
  have HMk := Lib.hid make_ints
  go_enter Try.func4, Try.ntmps4
  go_wp2_with fail
  refine HAw.out.mono ?_
  rintro e w1 ⟨rfl, hb⟩
  have HB := Lib.hid hb
  clear hb
  go_wp2_with fail
  refine (new_h HB.out (by have := HN.out; omega)).mono ?_
  rintro e w2 ⟨a, O1, rfl, h1, -, -⟩
  have H1 := Lib.hid h1
  clear h1 HB
  go_wp2_with fail
  refine (new_h H1.out.below (by have := HN.out; omega)).mono ?_
  rintro e w3 ⟨b, O2, rfl, h2, hs, hb⟩
  have H2 : Hid (TW W O1 a s [] O2 b s [] w3) := Lib.hid ⟨H1.out.keep hb, h2, fun k hk ho => by have := H1.out.pw.lt k hk; have := hs k ho; omega⟩
  clear h2 hs hb H1
  go_wp2_with fail
  go_loopw [13] (fun si wr => ∃ (k : Nat) (M : List En) (O O2 : Nat → Prop), si = .int .i64 k ∧ k ≤ N ∧ Hid (TW W O a s M O2 b s M wr ∧ Row s l k M)) (fun si _ => N - (intOf si).toNat)
  case atStart => exact ⟨0, [], O1, O2, rfl, Nat.zero_le _, Lib.hid ⟨H2.out, Row.nil _ _⟩⟩
  case round =>
    obtain ⟨k, M, O, O2, rfl, hk, HS⟩ := hrel
    have hl := HL.out
    by_cases hlt : k < N
    · obtain ⟨d, hd⟩ : ∃ d, l[k]? = some d := ⟨_, List.getElem?_eq_getElem (by rw [HNl.out.1]; exact hlt)⟩
      obtain ⟨ad, rfl, hab, c00⟩ := HR.out k d hd
      have c0 : wr.cell? (ad.add k) = some (.int .i64 d) := (HS.out.1.fst.below.cell (by rw [add_block]; exact hab)).trans c00
      have HD := Lib.hid hd
      by_cases g1 : d < 0
      · have e1 : decide (d < 0) = true := decide_eq_true g1
        clear hab c00 hd
        go_wp2_with fail
        go_ret
        exact ⟨rfl, HS.out.1.fst.below⟩
      have e1 : decide (d < 0) = false := decide_eq_false g1
      by_cases g2 : 1099511627776 < d
      · have e2 : decide ((1099511627776 : Int) < d) = true := decide_eq_true g2
        clear hab c00 hd
        go_wp2_with fail
        go_ret
        exact ⟨rfl, HS.out.1.fst.below⟩
      have e2 : decide ((1099511627776 : Int) < d) = false := decide_eq_false g2
      have HC := Lib.hid (And.intro hab c00)
      clear hab c00 hd
      go_wp2_with fail
      refine (set_h (M' := setE M k (max d (s + 1))) HS.out.1.fst ⟨by omega, by omega⟩ ⟨by omega, by omega⟩ (by rw [HS.out.2.len]; omega) rfl).mono ?_
      rintro e w4 ⟨rfl, O3, h3, s3, f3⟩
      have H3 := Lib.hid (HS.out.1.first h3 s3 f3)
      have c0 : w4.cell? (ad.add k) = some (.int .i64 d) := (H3.out.fst.below.cell (by rw [add_block]; exact HC.out.1)).trans HC.out.2
      clear h3 s3 f3
      go_wp2_with fail
      refine (set_h (M' := setE M k (max d (s + 1))) H3.out.snd ⟨by omega, by omega⟩ ⟨by omega, by omega⟩ (by rw [HS.out.2.len]; omega) rfl).mono ?_
      rintro e w5 ⟨rfl, O4, h4, s4, f4⟩
      have H4 := Lib.hid (H3.out.second h4 s4 f4)
      clear h4 s4 f4 c0
      go_wp2_with fail
      go_roundw
      case rel => exact ⟨k + 1, _, O3, O4, by go_num, by omega, Lib.hid ⟨H4.out, HS.out.2.next HD.out⟩⟩
      case measure => simp [intOf]; omega
    · have ek : N = k := by omega
      subst ek
      have hmk := HMk.out wr
      have HO : Hid (Stp W O a s O2 b s M wr.heap.size 0 (.slice none 0 0) s (wr.alloc (.map #[] 0))) := Lib.hid (by
        have hb : Below wr.heap.size wr (wr.alloc (.map #[] 0)) := (Below.refl _ wr).alloc (Nat.le_refl _) _
        refine ⟨⟨by rw [List.drop_zero]; exact HS.out.1.keep hb, JAt.made wr, HS.out.1.fst.below.size, fun e => ?_, fun e => ?_, ⟨by simp, .inl ⟨rfl, by simp⟩⟩, fun g hg => by cases hg⟩, Nat.zero_le _, fun p hp => by simp at hp⟩
        · have := HS.out.1.fst.pw.lt _ e; omega
        · have := HS.out.1.snd.pw.lt _ e; omega)
      have HRw := Lib.hid (And.intro HS.out.2 HS.out.1.fst.pw.ids)
      go_wp2_with fail
      generalize wr.alloc (.map #[] 0) = w4 at HO
      generalize wr.heap.size = fm at HO
      clear hmk HS H2
      go_wp2_with fail
      go_loopw [14, 16, 17] (fun st so si wr => ∃ (i q : Nat) (to : Int) (Oa : Nat → Prop) (A : Option Addr) (c : Nat), st = .int .i64 to ∧ so = .slice A q c ∧ si = .int .i64 i ∧ i ≤ N1 ∧ s ≤ to ∧ to ≤ 1099511627776 ∧ Hid (Stp W Oa a to O2 b s M fm q (.slice A q c) to wr)) (fun _ _ si _ => N1 - (intOf si).toNat)
      case atStart => exact ⟨0, 0, s, O, none, 0, rfl, rfl, rfl, Nat.zero_le _, Int.le_refl _, by have := HN.out; omega, HO⟩
      case round =>
        obtain ⟨i, q, to, Oa, A5, c5, rfl, rfl, rfl, hi, hto0, hto1, HT⟩ := hrel
        by_cases hi1 : i < N1
        · obtain ⟨d, hd⟩ : ∃ d, ls[i]? = some d := ⟨_, List.getElem?_eq_getElem (by rw [HNl.out.2]; exact hi1)⟩
          obtain ⟨ad1, rfl, hab, c00⟩ := HR1.out i d hd
          have hto2 : 0 ≤ to := by have := HN.out; omega
          have c0 : wr.cell? (ad1.add i) = some (.int .i64 d) := (HT.out.os.tw.fst.below.cell (by rw [add_block]; exact hab)).trans c00
          clear hab c00 hd
          by_cases g1 : d < 0
          · have e1 : decide (d < 0) = true := decide_eq_true g1
            go_wp2_with fail
            go_ret
            exact ⟨rfl, HT.out.os.tw.fst.below⟩
          have e1 : decide (d < 0) = false := decide_eq_false g1
          by_cases g2 : 549755813888 < d
          · have e2 : decide ((549755813888 : Int) < d) = true := decide_eq_true g2
            go_wp2_with fail
            go_ret
            exact ⟨rfl, HT.out.os.tw.fst.below⟩
          have e2 : decide ((549755813888 : Int) < d) = false := decide_eq_false g2
          by_cases g3 : 1099511627776 < to + d
          · have e3 : decide ((1099511627776 : Int) < to + d) = true := decide_eq_true g3
            go_wp2_with fail
            go_ret
            exact ⟨rfl, HT.out.os.tw.fst.below⟩
          have e3 : decide ((1099511627776 : Int) < to + d) = false := decide_eq_false g3
          go_wp2_with fail
          go_loopw [16, 18] (fun so sk wr => ∃ (kk q : Nat) (nA : Int) (Oa : Nat → Prop) (A : Option Addr) (c : Nat), so = .slice A q c ∧ sk = .int .i64 kk ∧ kk ≤ q ∧ nA ≤ to + d ∧ q ≤ N ∧ Hid (Stp W Oa a nA O2 b s M fm q (.slice A q c) (to + d) wr)) (fun _ sk _ => N + 1 - (intOf sk).toNat)
          case atStart => exact ⟨0, q, to, Oa, A5, c5, rfl, rfl, Nat.zero_le _, by omega, by have := HT.out.le; have := HRw.out.1.len; omega, Lib.hid ⟨HT.out.os, HT.out.le, fun p hp => by have := HT.out.past p hp; omega⟩⟩
          case round =>
            obtain ⟨kk, q, nA, Oa, A5, c5, rfl, rfl, hkq, hnA, hqN, HT⟩ := hrel
            have hkN : kk ≤ N := by omega
            go_wp2_with fail
            refine (adv_h HT.out.os.tw.fst (by rw [List.length_drop, HRw.out.1.len]; omega) hnA (by omega) (by have := HN.out; omega) (by have := HN.out; omega)).mono ?_
            rintro e w5 ⟨A2, c2, m, k2, O5, rfl, ha, h5, r5, s5, n5, f5⟩
            have hk2 : q + k2 ≤ N := by have := ha.le; rw [List.length_drop, HRw.out.1.len] at this; omega
            have hlen : (((M.drop q).take k2).map Prod.snd).length = k2 := by rw [List.length_map, List.length_take, List.length_drop, HRw.out.1.len]; omega
            have sep : ∀ g, (Value.slice A2 (((M.drop q).take k2).map Prod.snd).length c2).ownBlock = some g → (Value.slice A5 q c5).ownBlock ≠ some g := fun g hg e => by
              have := row_base r5 g hg
              have := (HT.out.os.row.lt g e).2
              omega
            have h6 := HT.out.os.adv h5 s5 f5
            rw [List.drop_drop] at h6
            have HLR : Hid (LR (.slice A5 q c5) (.slice A2 k2 c2) (((M.drop q).take k2).map Prod.snd) w5) := Lib.hid (by
              rw [hlen] at sep
              have r6 := own_mono r5 (Nat.zero_le _)
              rw [hlen] at r6
              exact ⟨by rw [hlen]; exact r6, sep⟩)
            have H6 := Lib.hid h6
            have HA := Lib.hid ha
            have hmto : ¬ to + d < m := by have := ha.hi; omega
            rw [hlen]
            clear h5 r5 s5 n5 f5 sep h6 ha
            go_wp2_with fail
            go_loopw [16, 22] (fun so sj wr => ∃ (j : Nat) (A : Option Addr) (c : Nat), so = .slice A (q + j) c ∧ sj = .int .i64 j ∧ j ≤ k2 ∧ Hid (OS W O5 a m (M.drop (q + k2)) O2 b s M fm ((M.take (q + j)).map kv1) (.slice A (q + j) c) ((M.take (q + j)).map Prod.snd) wr ∧ LR (.slice A (q + j) c) (.slice A2 k2 c2) (((M.drop q).take k2).map Prod.snd) wr)) (fun _ sj _ => k2 - (intOf sj).toNat)
            case atStart => exact ⟨0, A5, c5, rfl, rfl, Nat.zero_le _, Lib.hid ⟨H6.out, HLR.out⟩⟩
            case round =>
              obtain ⟨j, A6, c6, rfl, rfl, hj, HX⟩ := hrel
              by_cases hjk : j < k2
              · obtain ⟨x, hx⟩ : ∃ x, M[q + j]? = some x := ⟨_, List.getElem?_eq_getElem (by rw [HRw.out.1.len]; omega)⟩
                have hxt : ((M.drop q).take k2)[j]? = some x := by rw [List.getElem?_take_of_lt hjk, List.getElem?_drop]; exact hx
                have hxm : x.1 ≤ m := HA.out.past x (List.mem_of_getElem? hxt)
                obtain ⟨jj, d2, hjj, hd2, hxe⟩ := HRw.out.1.at_ x (List.mem_of_getElem? hx)
                have hfr := ids_fresh HRw.out.2 hx
                have hrl := HX.out.2.row
                rw [hlen] at hrl
                obtain ⟨g, rfl⟩ := row_head hrl (by omega)
                have x0 := row_get hrl (i := j) (x := x.2) (by rw [List.getElem?_map, hxt]; rfl)
                have hx2 : x.2 = (jj : Int) := by rw [hxe]
                have hx1 : x.1 = max d2 (s + 1) := by rw [hxe]
                rw [hx2] at x0 hfr
                rw [hx1] at hxm
                obtain ⟨ad, rfl, hab, c00⟩ := HR.out jj d2 hd2
                have c1 := (HX.out.1.tw.fst.below.cell (p := ad.add jj) (by rw [add_block]; exact hab)).trans c00
                have hNm : Nm (jj : Int) := by unfold Nm; omega
                have hlook := HX.out.1.map.int_no (n := (jj : Int)) (fun p hp => by
                  obtain ⟨y, hy, rfl⟩ := List.mem_map.1 hp
                  exact hfr y hy) hNm
                obtain ⟨w6, hput, hj6, ht6⟩ := HX.out.1.map.int_put (n := (jj : Int)) (.int .i64 1) hNm (by rw [List.length_map, List.length_take]; omega)
                have h6 := HX.out.1.put (JAt.one HRw.out.2 hx (by rw [hx2]; exact hj6)) ht6
                have l6 := HX.out.2.put HX.out.1.map ht6
                have hrl6 := l6.row
                rw [hlen] at hrl6
                have x6 := row_get hrl6 (i := j) (x := x.2) (by rw [List.getElem?_map, hxt]; rfl)
                rw [hx2] at x6
                have hol : ((M.take (q + j)).map Prod.snd).length = q + j := by rw [List.length_map, List.length_take, HRw.out.1.len]; omega
                obtain ⟨A7, c7, w7, happ, r7, g7, b7⟩ := run_one (jj : Int) 40 h6.row (by rw [hol]; omega) (by have := h6.new; have := h6.map.lt; omega)
                rw [hol] at happ r7 b7
                have h7 := h6.app r7 g7 b7
                have l7 := l6.app g7 b7
                have e7 : (M.take (q + j)).map Prod.snd ++ [(jj : Int)] = (M.take (q + (j + 1))).map Prod.snd := by rw [← Nat.add_assoc, take_more hx, List.map_append, ← hx2]; rfl
                rw [e7] at h7
                have H7 := Lib.hid (And.intro h7 l7)
                have zf : decide (m < max d2 (s + 1)) = false := decide_eq_false (by omega)
                have hs0 := HN.out.1
                have hs1 := HN.out.2.1
                have hl60 := HL.out.1
                clear hx hxt hd2 hxe hfr hrl hab c00 hj6 ht6 h6 l6 hrl6 hol r7 g7 b7 h7 l7 e7 hx1 hxm hx2
                go_wp2_with (at_builtin; refine wpList_app_run rfl (.tmp 209) (.tmp 214) 40 rfl _ _ _ rfl rfl happ ?_)
                go_roundw
                case rel => exact ⟨j + 1, A7, c7, by go_num, by go_num, by omega, H7⟩
                case measure => simp [intOf]; omega
              · have ej : k2 = j := by omega
                subst ej
                have hover := HA.out.over
                have hpast : ∀ p ∈ M.take (q + k2), p.1 ≤ to + d := fun p hp => by
                  rw [List.take_add] at hp
                  rcases List.mem_append.1 hp with hp | hp
                  · exact HT.out.past p hp
                  · have := HA.out.past p hp; omega
                have HSt : Hid (Stp W O5 a m O2 b s M fm (q + k2) (.slice A6 (q + k2) c6) (to + d) wr) := Lib.hid ⟨HX.out.1, by rw [HRw.out.1.len]; exact hk2, hpast⟩
                have hN60 := HL.out.1
                clear hpast
                by_cases hm : m = to + d
                · subst hm
                  by_cases hb : (k2 : Int) < bt
                  · have zb : decide ((k2 : Int) < bt) = true := decide_eq_true hb
                    clear hover
                    go_wp2_with fail
                    go_roundw
                    case rel => exact ⟨i + 1, q + k2, to + d, O5, A6, c6, by go_num, by go_num, by go_num, by omega, by omega, by omega, HSt⟩
                    case measure => simp [intOf]; omega
                  · have zb : decide ((k2 : Int) < bt) = false := decide_eq_false hb
                    have hk1 : 1 ≤ k2 := by
                      have := HN.out
                      omega
                    clear hover
                    go_wp2_with fail
                    go_roundw
                    case rel => exact ⟨kk + 1, q + k2, to + d, O5, A6, c6, by go_num, by go_num, by omega, by omega, by omega, HSt⟩
                    case measure => simp [intOf]; omega
                · have hmf : (m == to + d) = false := beq_eq_false_iff_ne.2 hm
                  have hk1 : 1 ≤ k2 := by
                    have := HN.out
                    rcases hover with e | e
                    · exact absurd e.1 hm
                    · omega
                  have hml : m ≤ to + d := by omega
                  clear hover
                  go_wp2_with fail
                  go_roundw
                  case rel => exact ⟨kk + 1, q + k2, m, O5, A6, c6, by go_num, by go_num, by omega, by omega, by omega, HSt⟩
                  case measure => simp [intOf]; omega
        · have ei : N1 = i := by omega
          subst ei
          go_wp2_with fail
          refine (adv_h HT.out.os.tw.snd (by rw [HRw.out.1.len]; omega) hto0 hto1 (by decide) (by decide)).mono ?_
          rintro e w5 ⟨A2, c2, m, k2, O5, rfl, ha, h5, r5, s5, n5, f5⟩
          have hm : to = m := by
            rcases ha.over with e | e
            · exact e.1.symm
            · have := ha.le; rw [HRw.out.1.len] at this; omega
          subst hm
          have hkq : q = k2 := (split_at ha.le HT.out.le ha.past ha.next HT.out.past HT.out.os.tw.fst.pw.gt).symm
          subst hkq
          have hlen : ((M.take q).map Prod.snd).length = q := by rw [List.length_map, List.length_take]; have := ha.le; omega
          have h6 := HT.out.os.advB h5 s5 f5
          have hsame := same_x (l := (M.take q).map Prod.snd) r5 (by have := h6.row; rw [hlen] at this ⊢; exact this) (by have := ha.le; rw [HRw.out.1.len] at this; omega)
          rw [hlen] at hsame ⊢
          have H6 := Lib.hid h6
          have HSm := Lib.hid hsame
          have HPs := Lib.hid (And.intro HT.out.past HT.out.os.tw.fst.pw.gt)
          have hbb : ((to : Int) != to) = false := bne_self_eq_false to
          clear ha h5 r5 s5 n5 f5 h6 hsame HT
          go_wp2_with fail
          refine HSm.out.mono ?_
          rintro e w6 ⟨rfl, hm6⟩
          have H7 : Hid (OS W Oa a to (M.drop q) O5 b to (M.drop q) fm ((M.take q).map kv1) (.slice A5 q c5) ((M.take q).map Prod.snd) w6) := Lib.hid (by obtain ⟨m6, rfl⟩ := hm6; exact H6.out.drewN m6)
          clear hm6 H6 HSm
          go_wp2_with fail
          refine (wnow_x H7.out.tw.fst.pw).mono ?_
          rintro e w7 ⟨rfl, rfl⟩
          go_wp2_with fail
          obtain ⟨D, hD⟩ : ∃ D : Int, ((M.drop q).length : Int) = D := ⟨_, rfl⟩
          refine (wlen_h (x := D) H7.out.tw.fst.pw hD).mono ?_
          rintro e w7 ⟨rfl, rfl⟩
          go_wp2_with fail
          refine (wlen_h (x := D) H7.out.tw.snd.pw hD).mono ?_
          rintro e w7 ⟨rfl, rfl⟩
          have hbD : (D != D) = false := bne_self_eq_false D
          clear hD
          go_wp2_with fail
          go_loopw [26] (fun si wx => ∃ i : Nat, si = .int .i64 i ∧ i ≤ N ∧ Hid (OS W Oa a to (M.drop q) O5 b to (M.drop q) fm ((M.take q).map kv1) (.slice A5 q c5) ((M.take q).map Prod.snd) wx)) (fun si _ => N - (intOf si).toNat)
          case atStart => exact ⟨0, rfl, Nat.zero_le _, H7⟩
          case round =>
            obtain ⟨i, rfl, hi2, HX⟩ := hrel
            by_cases hiN : i < N
            · obtain ⟨d, hd⟩ : ∃ d, l[i]? = some d := ⟨_, List.getElem?_eq_getElem (by rw [HNl.out.1]; exact hiN)⟩
              have hmem := HRw.out.1.all i d hiN hd
              obtain ⟨ad, rfl, hab, c00⟩ := HR.out i d hd
              have c1 := (HX.out.tw.fst.below.cell (p := ad.add i) (by rw [add_block]; exact hab)).trans c00
              have hNm : Nm (i : Int) := by unfold Nm; omega
              have hs0 := HN.out.1
              have hs1 := HN.out.2.1
              by_cases hle : max d (s + 1) ≤ to
              · have hin : ((i : Int), Value.int .i64 1) ∈ (M.take q).map kv1 := by
                  rw [← List.take_append_drop q M] at hmem
                  rcases List.mem_append.1 hmem with h | h
                  · exact List.mem_map.2 ⟨_, h, rfl⟩
                  · have := HPs.out.2 _ h; omega
                have hlook : ∀ z, (Instr.lookup 53 (.map (some fm)) (.int .i64 (i : Int)) false).run Try.prog (wr.drewN z) = .ok (.int .i64 1) (wr.drewN z) := fun z => (HX.out.drewN z).map.int_yes hin hNm
                have zl : decide (max d (s + 1) ≤ to) = true := decide_eq_true hle
                clear hmem hd hab c00 hin
                go_wp2_with fail
                go_quiet (fail)
                go_wp2_with fail
                go_roundw
                case rel => exact ⟨i + 1, by go_num, by omega, Lib.hid (HX.out.drewN _)⟩
                case measure => simp [intOf]; omega
              · have hno : ∀ p ∈ (M.take q).map kv1, p.1 ≠ (i : Int) := fun p hp e => by
                  obtain ⟨y, hy, rfl⟩ := List.mem_map.1 hp
                  have h1 := due_mem HRw.out.2 hmem
                  have h2 := due_mem (f := y.1) (i := (i : Int)) HRw.out.2 (by
                    have := List.mem_of_mem_take hy
                    rw [← e]; exact this)
                  rw [h1] at h2
                  injection h2 with h2
                  have := HPs.out.1 y hy
                  omega
                have hlook : ∀ z, (Instr.lookup 53 (.map (some fm)) (.int .i64 (i : Int)) false).run Try.prog (wr.drewN z) = .ok (.int .i64 0) (wr.drewN z) := fun z => (HX.out.drewN z).map.int_no hno hNm
                have zl : decide (max d (s + 1) ≤ to) = false := decide_eq_false hle
                clear hmem hd hab c00 hno
                go_wp2_with fail
                go_quiet (fail)
                go_wp2_with fail
                go_roundw
                case rel => exact ⟨i + 1, by go_num, by omega, Lib.hid (HX.out.drewN _)⟩
                case measure => simp [intOf]; omega
            · have ei2 : N = i := by omega
              subst ei2
              go_wp2_with fail
              go_ret
              exact ⟨rfl, HX.out.tw.fst.below⟩
end Go.Proofs.Ytmmghdnlppjgbaa
