/-
  The walk of the reference's Undata.
-/
import Derived.Test.YtkkpfencnjnddaaTwo
import Derived.Test.YtkkpfencnjnddaaCutX
import Derived.Test.YtkkpfencnjnddaaRefData
namespace Go.Proofs.Ytkkpfencnjnddaa
open Go.RowKit
def trim1 (t : List UInt8) : List UInt8 := Lib.trimPrefix t [46]
/-- What holds in Undata's second loop. -/
structure RU (W0 : World) (fr : List (List UInt8)) (k : Nat) (lg : Bool) (ov : Value) (w : World) : Prop where
  row : w.ownsRow W0.heap.size 9 1 ov k (strsV ((fr.map trim1).take k))
  below : Below W0.heap.size W0 w
  long : lg = (fr.take k).any (fun t => decide ((999 : Int) < t.length))
  plain : (fr.take k).any (fun t => !plainB t) = false
theorem RU.start (W0 : World) (fr : List (List UInt8)) : RU W0 fr 0 false (.slice none 0 0) W0 := ⟨⟨rfl, .inl ⟨rfl, rfl⟩⟩, Below.refl _ _, rfl, rfl⟩
theorem RU.more {W0 w w1 : World} {fr : List (List UInt8)} {k : Nat} {lg : Bool} {ov v1 : Value} {t : List UInt8} (h : RU W0 fr k lg ov w) (ht : fr[k]? = some t) (hp : plainB t = true) (lg' : Bool) (hlg : lg' = (lg || decide ((999 : Int) < t.length))) (o : Obj) (hg : (w.alloc o).grownBy w1 ov.ownBlock)
    (u : ByteArray) (hu : u = mkS (trim1 t)) (ho : w1.ownsRow W0.heap.size 9 1 v1 (k + 1) (strsV ((fr.map trim1).take k) ++ [.string u])) : RU W0 fr (k + 1) lg' v1 w1 := by
  obtain ⟨hk, e⟩ := List.getElem?_eq_some_iff.1 ht
  refine ⟨?_, (h.below.alloc h.below.size o).grown hg (Nat.le_trans h.below.size (by simp)) (fun j hj => (h.row.lt j hj).1), ?_, ?_⟩
  · have e2 : strsV ((fr.map trim1).take (k + 1)) = strsV ((fr.map trim1).take k) ++ [.string u] := by
      rw [← List.map_take, ← List.map_take, List.take_succ_eq_append_getElem hk, e, hu]
      simp [strsV]
    rw [e2]
    exact ho
  · rw [hlg, List.take_succ_eq_append_getElem hk, e, List.any_append, h.long]
    simp
  · rw [List.take_succ_eq_append_getElem hk, e, List.any_append, h.plain]
    simp [hp]
theorem RU.fin {W0 w : World} {fr : List (List UInt8)} {k : Nat} {lg : Bool} {ov : Value} (h : RU W0 fr k lg ov w) (e : k = fr.length) : RU W0 fr fr.length lg ov w := by subst e; exact h
theorem wrong_map (fr : List (List UInt8)) : wrongOf 999 (fr.map mkS) = if fr.any (fun t => !plainB t) then 2 else if fr.any (fun t => decide ((999 : Int) < t.length)) then 3 else 0 := by
  have e1 : (fr.map mkS).any (fun p => !plainB p.data.toList) = fr.any (fun t => !plainB t) := by rw [List.any_map]; rfl
  have e2 : (fr.map mkS).any (fun p => decide (((999 : Nat) : Int) < p.size)) = fr.any (fun t => decide ((999 : Int) < t.length)) := by
    rw [List.any_map]
    congr 1
  rw [wrongOf, e1, e2]
theorem ru_front {s : List UInt8} : undata s = if (frontOf (sc [] s).1).length = (sc [] s).1.length then ([], [], 12) else if wrongOf 999 ((frontOf (sc [] s).1).map mkS) = 0 then ((frontOf (sc [] s).1).map trim1, s.drop (3 + usedOf (frontOf (sc [] s).1)), 0) else ([], [], wrongOf 999 ((frontOf (sc [] s).1).map mkS)) := by
  rw [undata, und_front (s.length + 1) [] s (by omega)]
  by_cases h : (frontOf (sc [] s).1).length = (sc [] s).1.length
  · rw [if_pos h, if_pos h]
  · rw [if_neg h, if_neg h]
    rfl
theorem ru_end {s : List UInt8} {ts : List (List UInt8)} {w w' : World} (hq : (sc [] s).1 = ts) (hb : Below w.heap.size w w') (h : (frontOf ts).length = ts.length) : UndPost s w (.returned (.tuple #[.slice none 0 0, .string ⟨#[]⟩, .int .i64 12])) w' := by
  have e : undata s = ([], [], 12) := by rw [ru_front, hq, if_pos h]
  unfold UndPost
  rw [e]
  exact ⟨_, rfl, ⟨rfl, .inl ⟨rfl, rfl⟩⟩, hb⟩
theorem ru_odd {s t : List UInt8} {ts : List (List UInt8)} {w w' : World} {k : Nat} (hq : (sc [] s).1 = ts) (hb : Below w.heap.size w w') (h : (frontOf ts).length ≠ ts.length) (ht : (frontOf ts)[k]? = some t) (hp : plainB t = false) : UndPost s w (.returned (.tuple #[.slice none 0 0, .string ⟨#[]⟩, .int .i64 2])) w' := by
  have e2 : wrongOf 999 ((frontOf ts).map mkS) = 2 := by rw [wrong_map, if_pos (List.any_eq_true.2 ⟨t, List.mem_of_getElem? ht, by simp [hp]⟩)]
  have e : undata s = ([], [], 2) := by rw [ru_front, hq, if_neg h, e2]; rfl
  unfold UndPost
  rw [e]
  exact ⟨_, rfl, ⟨rfl, .inl ⟨rfl, rfl⟩⟩, hb⟩
theorem ru_long {s : List UInt8} {ts : List (List UInt8)} {w w0 w' : World} {ov : Value} (hq : (sc [] s).1 = ts) (hb : Below w.heap.size w w') (h : (frontOf ts).length ≠ ts.length) (hr : RU w0 (frontOf ts) (frontOf ts).length true ov w') : UndPost s w (.returned (.tuple #[.slice none 0 0, .string ⟨#[]⟩, .int .i64 3])) w' := by
  have h1 := hr.plain
  have h2 := hr.long.symm
  rw [List.take_length] at h1 h2
  have e2 : wrongOf 999 ((frontOf ts).map mkS) = 3 := by rw [wrong_map, h1, h2]; rfl
  have e : undata s = ([], [], 3) := by rw [ru_front, hq, if_neg h, e2]; rfl
  unfold UndPost
  rw [e]
  exact ⟨_, rfl, ⟨rfl, .inl ⟨rfl, rfl⟩⟩, hb⟩
theorem ru_ok {s : List UInt8} {ts : List (List UInt8)} {w w0 w' : World} {ov : Value} {u n : Nat} (hq : (sc [] s).1 = ts) (hb : Below w.heap.size w w0) (h : (frontOf ts).length ≠ ts.length) (hr : RU w0 (frontOf ts) (frontOf ts).length false ov w') (hu : u = 3 + usedOf (frontOf ts)) : UndPost s w (.returned (.tuple #[ov, .string ((mkS s).extract u (mkS s).size), .int .i64 0])) (w'.drewN n) := by
  have h1 := hr.plain
  have h2 := hr.long.symm
  rw [List.take_length] at h1 h2
  have e2 : wrongOf 999 ((frontOf ts).map mkS) = 0 := by rw [wrong_map, h1, h2]; rfl
  have e : undata s = ((frontOf ts).map trim1, s.drop (3 + usedOf (frontOf ts)), 0) := by rw [ru_front, hq, if_neg h, if_pos e2]
  have hro := hr.row
  rw [List.take_of_length_le (by simp)] at hro
  unfold UndPost
  rw [e]
  refine ⟨ov, ?_, ?_, below_drewN (hb.trans (hr.below.mono hb.size)) n⟩
  · rw [mkS_extract, List.take_of_length_le (by rw [mkS, size_mk]; exact Nat.le_refl _), hu]
  · rw [List.length_map]
    exact own_mono hro hb.size
theorem trim_yes {t : List UInt8} (h : t[0]? = some 46) : (mkS t).extract 1 (mkS t).size = mkS (trim1 t) := by
  rw [mkS_extract, List.take_of_length_le (by rw [mkS, size_mk]; exact Nat.le_refl _), trim1, Lib.trimPrefix, if_pos (pre_yes h)]
  rfl
theorem trim_no {t : List UInt8} (h : Lib.hasPrefix t [46] = false) : mkS t = mkS (trim1 t) := by
  rw [trim1, Lib.trimPrefix, if_neg (by rw [h]; decide)]

set_option maxRecDepth 100000 in
set_option maxHeartbeats 1000000 in
theorem rundata_x (s : List UInt8) (w : World) (hs : s.length ≤ 1000000000) : Calls Try.prog 19 #[.string (mkS s)] w (UndPost s w) := by
  obtain ⟨i0, hi, hz0, hz1, hz2⟩ := info_parts Try.info9
  have HC := Lib.hid (cut_x s w hs)
  have hms : (mkS s).size = s.length := size_mk s
  go_enter Try.func19, Try.ntmps19
  go_wp2_with fail
  refine HC.out.mono ?_
  rintro e wc ⟨o, rfl, hrow, hbc⟩
  clear HC
  obtain ⟨h1, h2, h3⟩ := sc_len s []
  have hus := sc_used s []
  simp only [List.length_nil, Nat.zero_add] at h2 h3 hus
  obtain ⟨Ao, co, rfl⟩ := own_slice hrow
  generalize hq : sc [] s = q at h1 h2 h3 hrow hus
  obtain ⟨ts, r⟩ := q
  simp only at h1 h2 h3 hrow hus
  have HQ := Lib.hid (show (sc [] s).1 = ts by rw [hq])
  have hst := own_strs hrow
  have HST := Lib.hid hst
  have HB := Lib.hid hbc
  have H3 := Lib.hid h3
  have HUS := Lib.hid hus
  clear hst hbc h3 hrow hq hus
  go_wp2_with fail
  go_loop [7] (fun i => ∃ k : Nat, k ≤ ts.length ∧ i = .int .i64 k ∧ Hid (k ≤ (frontOf ts).length)) (fun i => ts.length - (intOf i).toNat)
  case atStart => exact ⟨0, Nat.zero_le _, rfl, Nat.zero_le _⟩
  case round =>
    obtain ⟨k, hk, rfl, HK⟩ := hrel
    by_cases hlt : k < ts.length
    · have dk : decide ((k : Int) < (ts.length : Int)) = true := decide_eq_true (by omega)
      have htk : ts[k]? = some (ts[k]'hlt) := List.getElem?_eq_getElem hlt
      generalize ts[k]'hlt = t at htk
      obtain ⟨ad, p, rfl, hpk, hab, hcl⟩ := HST.out.cell hlt
      have hp : p = mkS t := by
        rw [List.getElem?_map, htk] at hpk
        injection hpk with hpk
        exact hpk.symm
      subst hp
      clear hpk
      by_cases ht : t = [46]
      · have htb : ((mkS t).toList == [46]) = true := by rw [mkS_toList, ht]; rfl
        have hkf := front_no HK.out (ht ▸ htk)
        have hfu := front_used (ts := ts) (by rw [← hkf, htk, ht])
        have hne : ((k : Int) == (ts.length : Int)) = false := beq_eq_false_iff_ne.2 (by omega)
        have HNE := Lib.hid (show (frontOf ts).length ≠ ts.length by omega)
        have hsu := HUS.out
        have HKF := Lib.hid hkf
        have HFG := Lib.hid (fun (j : Nat) (u : List UInt8) (h : (frontOf ts)[j]? = some u) => front_get h)
        clear ht htk hkf dk
        have dk : decide ((k : Int) < (ts.length : Int)) = true := decide_eq_true (by omega)
        go_wp2_with fail
        go_loopw [8, 9, 10, 11] (fun ov uv lv i wr => ∃ (j : Nat) (lg : Bool) (U : Nat), j ≤ k ∧ i = .int .i64 j ∧ uv = .int .i64 (U : Int) ∧ lv = .bool lg ∧ U = 3 + usedOf ((frontOf ts).take j) ∧ RU wc (frontOf ts) j lg ov wr) (fun _ _ _ i _ => k - (intOf i).toNat)
        case atStart => exact ⟨0, false, 3, Nat.zero_le _, rfl, rfl, rfl, rfl, RU.start wc _⟩
        case round =>
          obtain ⟨j, lg, U, hj, rfl, rfl, rfl, hU, hru⟩ := hrel
          by_cases hlt2 : j < k
          · have hkf := HKF.out
            have huj : (frontOf ts)[j]? = some ((frontOf ts)[j]'(by omega)) := List.getElem?_eq_getElem (by omega)
            generalize (frontOf ts)[j]'(by omega) = u at huj
            have huts := HFG.out j u huj
            have hul := H3.out u (List.mem_of_getElem? huts)
            obtain ⟨ad', p, ead, hpk, hab2, hcl2⟩ := HST.out.cell (k := j) (by omega)
            injection ead with ead
            subst ead
            have hp : p = mkS u := by
              rw [List.getElem?_map, huts] at hpk
              injection hpk with hpk
              exact hpk.symm
            subst hp
            have hcw : wr.cell? (ad.add j) = some (.string (mkS u)) := (hru.below.cell (by rw [add_block]; exact hab2)).trans hcl2
            have hmu : (mkS u).size = u.length := size_mk u
            have hut := usedOf_take huj
            have hle1 := usedOf_le (frontOf ts) (j + 1)
            have hUle : U + u.length + 2 ≤ 1000000003 := by omega
            have HUT := Lib.hid (show usedOf ((frontOf ts).take (j + 1)) = usedOf ((frontOf ts).take j) + u.length + 2 from hut)
            have HUU := Lib.hid hU
            have HPL := Lib.hid (rplain_x (mkS u) wr (by omega))
            have e1 : (mkS u).data.toList = u := by simp [mkS]
            rw [e1] at HPL
            have HUJ := Lib.hid huj
            have HRU := Lib.hid hru
            obtain ⟨Av, cv, rfl⟩ := own_slice hru.row
            clear hpk hcl2 huts hut hle1 hU e1 huj hru hkf
            cases hpl : plainB u
            · rw [hpl] at HPL
              have HPB := Lib.hid hpl
              clear hpl
              go_wp2_with fail
              refine HPL.out.mono ?_
              rintro e w' ⟨rfl, rfl⟩
              go_wp2_with fail
              go_ret3
              exact ru_odd HQ.out (HB.out.trans (HRU.out.below.mono HB.out.size)) HNE.out HUJ.out HPB.out
            · rw [hpl] at HPL
              have HPB := Lib.hid hpl
              clear hpl
              by_cases h0 : 0 < u.length
              · obtain ⟨x, hx⟩ : ∃ x : UInt8, (mkS u)[0]'(by omega) = x := ⟨_, rfl⟩
                have HX' := Lib.hid (show u[0]? = some x by rw [← hx]; exact Lib.data_getElem? (mkS u) 0 (by omega))
                have dz : decide ((0 : Int) < (u.length : Int)) = true := decide_eq_true (by omega)
                by_cases h4 : x = 46
                · have hb4 : ((x.toNat : Int) == 46) = true := by rw [h4]; rfl
                  have HX := Lib.hid (show u[0]? = some 46 by rw [HX'.out, h4])
                  clear h4
                  cases lg
                  · go_wp2_with fail
                    refine HPL.out.mono ?_
                    rintro e w' ⟨rfl, rfl⟩
                    go_wp2_with (first
                      | (at_builtin
                         refine wpList_append_own_at _ rfl (.tmp 76) (.tmp 82) _ rfl wc.heap.size 9 i0 (.string ⟨#[]⟩) 1 16 Try.underlying22 hi hz0 hz1 hz2 rfl (by decide) (.slice Av j cv) j _ rfl
                           (HRU.out.row.alloc _) ⟨wr.heap.size, 0, none⟩ 1 1 [.string ((mkS u).extract 1 (mkS u).size)] rfl rfl ?c1 ?c2 ?c3 ?c4 ?c5 ?_))
                    case c1 =>
                      intro j' u' hu
                      match j' with
                      | 0 => simp at hu; subst hu; exact World.cell?_alloc_at _ _ _ _ rfl
                      | j' + 1 => simp at hu
                    case c2 => intro u' hu; simp at hu; subst hu; rfl
                    case c3 => unfold maxLen; omega
                    case c4 => omega
                    case c5 => have := HRU.out.below.size; simp; omega
                    intro v1 w2 hown2 hg2 _ _
                    have HR2 := Lib.hid (HRU.out.more HUJ.out HPB.out (decide ((999 : Int) < (u.length : Int))) rfl _ hg2 _ (trim_yes HX.out) hown2)
                    clear hown2 hg2
                    go_wp2_with fail
                    go_roundw
                    case rel => exact ⟨j + 1, (decide ((999 : Int) < (u.length : Int))), U + u.length + 2, by omega, by go_num, by go_num, rfl, by have := HUU.out; have := HUT.out; omega, HR2.out⟩
                    case measure => simp [intOf]; omega
                  · go_wp2_with fail
                    refine HPL.out.mono ?_
                    rintro e w' ⟨rfl, rfl⟩
                    go_wp2_with (first
                      | (at_builtin
                         refine wpList_append_own_at _ rfl (.tmp 76) (.tmp 82) _ rfl wc.heap.size 9 i0 (.string ⟨#[]⟩) 1 16 Try.underlying22 hi hz0 hz1 hz2 rfl (by decide) (.slice Av j cv) j _ rfl
                           (HRU.out.row.alloc _) ⟨wr.heap.size, 0, none⟩ 1 1 [.string ((mkS u).extract 1 (mkS u).size)] rfl rfl ?c1 ?c2 ?c3 ?c4 ?c5 ?_))
                    case c1 =>
                      intro j' u' hu
                      match j' with
                      | 0 => simp at hu; subst hu; exact World.cell?_alloc_at _ _ _ _ rfl
                      | j' + 1 => simp at hu
                    case c2 => intro u' hu; simp at hu; subst hu; rfl
                    case c3 => unfold maxLen; omega
                    case c4 => omega
                    case c5 => have := HRU.out.below.size; simp; omega
                    intro v1 w2 hown2 hg2 _ _
                    have HR2 := Lib.hid (HRU.out.more HUJ.out HPB.out true rfl _ hg2 _ (trim_yes HX.out) hown2)
                    clear hown2 hg2
                    go_wp2_with fail
                    go_roundw
                    case rel => exact ⟨j + 1, true, U + u.length + 2, by omega, by go_num, by go_num, rfl, by have := HUU.out; have := HUT.out; omega, HR2.out⟩
                    case measure => simp [intOf]; omega
                · have hb4 : ((x.toNat : Int) == 46) = false := Bool.eq_false_iff.2 fun e => h4 ((byte_eq (n := 46) (by decide)).1 e)
                  have HPR := Lib.hid (pre_no HX'.out h4)
                  clear h4
                  cases lg
                  · go_wp2_with fail
                    refine HPL.out.mono ?_
                    rintro e w' ⟨rfl, rfl⟩
                    go_wp2_with (first
                      | (at_builtin
                         refine wpList_append_own_at _ rfl (.tmp 84) (.tmp 89) _ rfl wc.heap.size 9 i0 (.string ⟨#[]⟩) 1 16 Try.underlying22 hi hz0 hz1 hz2 rfl (by decide) (.slice Av j cv) j _ rfl
                           (HRU.out.row.alloc _) ⟨wr.heap.size, 0, none⟩ 1 1 [.string (mkS u)] rfl rfl ?c1 ?c2 ?c3 ?c4 ?c5 ?_))
                    case c1 =>
                      intro j' u' hu
                      match j' with
                      | 0 => simp at hu; subst hu; exact World.cell?_alloc_at _ _ _ _ rfl
                      | j' + 1 => simp at hu
                    case c2 => intro u' hu; simp at hu; subst hu; rfl
                    case c3 => unfold maxLen; omega
                    case c4 => omega
                    case c5 => have := HRU.out.below.size; simp; omega
                    intro v1 w2 hown2 hg2 _ _
                    have HR2 := Lib.hid (HRU.out.more HUJ.out HPB.out (decide ((999 : Int) < (u.length : Int))) rfl _ hg2 _ (trim_no HPR.out) hown2)
                    clear hown2 hg2
                    go_wp2_with fail
                    go_roundw
                    case rel => exact ⟨j + 1, (decide ((999 : Int) < (u.length : Int))), U + u.length + 2, by omega, by go_num, by go_num, rfl, by have := HUU.out; have := HUT.out; omega, HR2.out⟩
                    case measure => simp [intOf]; omega
                  · go_wp2_with fail
                    refine HPL.out.mono ?_
                    rintro e w' ⟨rfl, rfl⟩
                    go_wp2_with (first
                      | (at_builtin
                         refine wpList_append_own_at _ rfl (.tmp 84) (.tmp 89) _ rfl wc.heap.size 9 i0 (.string ⟨#[]⟩) 1 16 Try.underlying22 hi hz0 hz1 hz2 rfl (by decide) (.slice Av j cv) j _ rfl
                           (HRU.out.row.alloc _) ⟨wr.heap.size, 0, none⟩ 1 1 [.string (mkS u)] rfl rfl ?c1 ?c2 ?c3 ?c4 ?c5 ?_))
                    case c1 =>
                      intro j' u' hu
                      match j' with
                      | 0 => simp at hu; subst hu; exact World.cell?_alloc_at _ _ _ _ rfl
                      | j' + 1 => simp at hu
                    case c2 => intro u' hu; simp at hu; subst hu; rfl
                    case c3 => unfold maxLen; omega
                    case c4 => omega
                    case c5 => have := HRU.out.below.size; simp; omega
                    intro v1 w2 hown2 hg2 _ _
                    have HR2 := Lib.hid (HRU.out.more HUJ.out HPB.out true rfl _ hg2 _ (trim_no HPR.out) hown2)
                    clear hown2 hg2
                    go_wp2_with fail
                    go_roundw
                    case rel => exact ⟨j + 1, true, U + u.length + 2, by omega, by go_num, by go_num, rfl, by have := HUU.out; have := HUT.out; omega, HR2.out⟩
                    case measure => simp [intOf]; omega
              · have dz : decide ((0 : Int) < (u.length : Int)) = false := decide_eq_false (by omega)
                have HPR := Lib.hid (pre_nil (l := u) (by omega))
                cases lg
                · go_wp2_with fail
                  refine HPL.out.mono ?_
                  rintro e w' ⟨rfl, rfl⟩
                  go_wp2_with (first
                    | (at_builtin
                       refine wpList_append_own_at _ rfl (.tmp 84) (.tmp 89) _ rfl wc.heap.size 9 i0 (.string ⟨#[]⟩) 1 16 Try.underlying22 hi hz0 hz1 hz2 rfl (by decide) (.slice Av j cv) j _ rfl
                         (HRU.out.row.alloc _) ⟨wr.heap.size, 0, none⟩ 1 1 [.string (mkS u)] rfl rfl ?c1 ?c2 ?c3 ?c4 ?c5 ?_))
                  case c1 =>
                    intro j' u' hu
                    match j' with
                    | 0 => simp at hu; subst hu; exact World.cell?_alloc_at _ _ _ _ rfl
                    | j' + 1 => simp at hu
                  case c2 => intro u' hu; simp at hu; subst hu; rfl
                  case c3 => unfold maxLen; omega
                  case c4 => omega
                  case c5 => have := HRU.out.below.size; simp; omega
                  intro v1 w2 hown2 hg2 _ _
                  have HR2 := Lib.hid (HRU.out.more HUJ.out HPB.out (decide ((999 : Int) < (u.length : Int))) rfl _ hg2 _ (trim_no HPR.out) hown2)
                  clear hown2 hg2
                  go_wp2_with fail
                  go_roundw
                  case rel => exact ⟨j + 1, (decide ((999 : Int) < (u.length : Int))), U + u.length + 2, by omega, by go_num, by go_num, rfl, by have := HUU.out; have := HUT.out; omega, HR2.out⟩
                  case measure => simp [intOf]; omega
                · go_wp2_with fail
                  refine HPL.out.mono ?_
                  rintro e w' ⟨rfl, rfl⟩
                  go_wp2_with (first
                    | (at_builtin
                       refine wpList_append_own_at _ rfl (.tmp 84) (.tmp 89) _ rfl wc.heap.size 9 i0 (.string ⟨#[]⟩) 1 16 Try.underlying22 hi hz0 hz1 hz2 rfl (by decide) (.slice Av j cv) j _ rfl
                         (HRU.out.row.alloc _) ⟨wr.heap.size, 0, none⟩ 1 1 [.string (mkS u)] rfl rfl ?c1 ?c2 ?c3 ?c4 ?c5 ?_))
                  case c1 =>
                    intro j' u' hu
                    match j' with
                    | 0 => simp at hu; subst hu; exact World.cell?_alloc_at _ _ _ _ rfl
                    | j' + 1 => simp at hu
                  case c2 => intro u' hu; simp at hu; subst hu; rfl
                  case c3 => unfold maxLen; omega
                  case c4 => omega
                  case c5 => have := HRU.out.below.size; simp; omega
                  intro v1 w2 hown2 hg2 _ _
                  have HR2 := Lib.hid (HRU.out.more HUJ.out HPB.out true rfl _ hg2 _ (trim_no HPR.out) hown2)
                  clear hown2 hg2
                  go_wp2_with fail
                  go_roundw
                  case rel => exact ⟨j + 1, true, U + u.length + 2, by omega, by go_num, by go_num, rfl, by have := HUU.out; have := HUT.out; omega, HR2.out⟩
                  case measure => simp [intOf]; omega
          · have ej : j = (frontOf ts).length := by have := HKF.out; omega
            have hru2 := hru.fin ej
            have hU2 : U = 3 + usedOf (frontOf ts) := by rw [hU, List.take_of_length_le (by omega)]
            have hUs : U ≤ s.length := by omega
            have HRU := Lib.hid hru2
            have HU2 := Lib.hid hU2
            obtain ⟨Av, cv, rfl⟩ := own_slice hru.row
            clear hru hru2 hU hU2 ej
            cases lg
            · go_wp2_with fail
              go_quiet (fail)
              go_wp2_with fail
              go_ret3
              exact ru_ok HQ.out HB.out HNE.out HRU.out HU2.out
            · go_wp2_with fail
              go_ret3
              exact ru_long HQ.out (HB.out.trans (HRU.out.below.mono HB.out.size)) HNE.out HRU.out
      · have htb : ((mkS t).toList == [46]) = false := by rw [mkS_toList]; exact beq_eq_false_iff_ne.2 ht
        have hky := front_yes HK.out htk ht
        have HKY := Lib.hid hky
        clear ht htk hky
        go_wp2_with fail
        go_round
        case rel => exact ⟨k + 1, by omega, by go_num, HKY.out⟩
        case measure => simp [intOf]; omega
    · have dk : decide ((k : Int) < (ts.length : Int)) = false := decide_eq_false (by omega)
      have hfl := front_le ts
      have HE := Lib.hid (show (frontOf ts).length = ts.length by have := HK.out; omega)
      have hne : ((k : Int) == (ts.length : Int)) = true := beq_iff_eq.2 (by omega)
      clear hfl
      go_wp2_with fail
      go_ret3
      exact ru_end HQ.out HB.out HE.out
end Go.Proofs.Ytkkpfencnjnddaa
