/-
  CmSmall · CmPath · CmRead · CmBox, in one text.
-/
import Derived.Test.YtbecdncnidcmdaaGreatDoorCmMath
import Derived.Test.YtbecdncnidcmdaaGreatDoorPaRcpt
import Derived.Test.YtbecdncnidcmdaaGreatDoorMaPt
import Derived.Test.YtbecdncnidcmdaaGreatDoorMaPtC
import Derived.Test.YtbecdncnidcmdaaGreatDoorPaPM
import Derived.Test.YtbecdncnidcmdaaGreatDoorPaPR
import Derived.Test.YtbecdncnidcmdaaGreatDoorMaBuild
import Derived.Deep.MidRow
import Derived.Laws.ResultCell
/-
  The walks of command's small functions: capitals, Verb, hostless, isText, readPath's closure, the two maps.
-/
namespace Go.Proofs.YtbecdncnidcmdaaGreatDoor
set_option maxRecDepth 100000
open Go.RowKit Go.Shelf
theorem up_of {x : UInt8} (h1 : 97 ≤ x.toNat) (h2 : x.toNat ≤ 122) : smlB x = true := by simp [smlB, h1, h2]
theorem not_put {W w : World} {l : List UInt8} {j : Nat} {x : UInt8} (hX : l[j]? = some x) (h : smlB x = false) (hI : SI W w l (upUp l j)) : SI W w l (upUp l (j + 1)) := by
  rw [(upUp_succ hX).2, up_not h]
  have : (upUp l j).set j x = upUp l j := by
    apply List.ext_getElem?
    intro i
    rw [List.getElem?_set]
    split
    · rename_i e; subst e
      split
      · exact (upUp_succ hX).1.symm
      · rename_i h; rw [upUp_length] at h
        exact absurd (List.getElem?_eq_some_iff.1 hX).1 h
    · rfl
  rw [this]; exact hI
set_option maxHeartbeats 1000000 in
theorem ccap_x (l : List UInt8) (w : World) (hl : l.length ≤ 1000000000000) :
    Calls Tryz.prog 211 #[.string (mkS l)] w fun e w' => e = .returned (.string (mkS (upL l))) ∧ Below w.heap.size w w' := by
  have hms := mkS_size l
  have hcv := Lib.run_convert_string_bytes (P := Tryz.prog) w 9 117 5 (mkS l) Tryz.underlying9 Tryz.underlying117 Tryz.underlying5
  have HS := Lib.hid (SI.new w l)
  rw [hms] at hcv
  generalize Lib.bytesWorld w 5 (mkS l) = w1 at hcv HS
  generalize grownCap w l.length 0 5 = cap at hcv
  go_enter Tryz.func211, Tryz.ntmps211
  go_wp2_with fail
  clear hcv
  go_loopw [10, 4, 5] (fun i _ _ wr => ∃ j : Nat, j ≤ l.length ∧ i = .int .i64 j ∧ SI w wr l (upUp l j)) (fun i _ _ _ => l.length - (intOf i).toNat)
  case atStart => exact ⟨0, Nat.zero_le _, rfl, by rw [upUp_zero]; exact HS.out⟩
  case round =>
    obtain ⟨j, hj, rfl, hI⟩ := hrel
    by_cases hlt : j < l.length
    · obtain ⟨x, hX⟩ : ∃ x : UInt8, l[j]? = some x := ⟨_, List.getElem?_eq_getElem hlt⟩
      have hc := hI.cell (upUp_succ hX).1
      have hf := hI.free hlt
      by_cases h1 : 97 ≤ x.toNat
      · have h1i : (97 : Int) ≤ (x.toNat : Int) := by omega
        by_cases h2 : x.toNat ≤ 122
        · have h2i : (x.toNat : Int) ≤ 122 := by omega
          have hs := up_sum x (up_of h1 h2)
          have HN := Lib.hid (show SI w (wr.setCell ⟨w.heap.size, j, none⟩ (.int .u8 ((upB x).toNat : Int))) l (upUp l (j + 1)) by
            rw [(upUp_succ hX).2]; exact hI.set _)
          clear h1 h2 hX hI
          go_wp2_with fail
          go_roundw
          case rel => exact ⟨j + 1, by omega, by go_num, HN.out⟩
          case measure => simp [intOf]; omega
        · have h2i : ¬ (x.toNat : Int) ≤ 122 := by omega
          have HN := Lib.hid (not_put hX (by simp [smlB, h2]) hI)
          clear h1 h2 hX hI
          go_wp2_with fail
          go_roundw
          case rel => exact ⟨j + 1, by omega, by go_num, HN.out⟩
          case measure => simp [intOf]; omega
      · have h1i : ¬ (97 : Int) ≤ (x.toNat : Int) := by omega
        have HN := Lib.hid (not_put hX (by simp [smlB, h1]) hI)
        clear h1 hX hI
        go_wp2_with fail
        go_roundw
        case rel => exact ⟨j + 1, by omega, by go_num, HN.out⟩
        case measure => simp [intOf]; omega
    · obtain rfl : j = l.length := by omega
      rw [upUp_all] at hI
      have hcv := hI.text l.length cap (upL_length l)
      have HB := Lib.hid hI.below
      clear hI
      go_wp2_with fail
      go_ret
      exact ⟨rfl, HB.out⟩
theorem cut32_x (l : List UInt8) (w : World) (hl : l.length ≤ 1000000000000000) :
    Calls Tryz.prog 96 #[.string (mkS l), .string { data := #[32] }] w fun e w' => e = .returned (.tuple #[.string (mkS (preC 32 l)), .string (mkS (postC 32 l)), .bool (hasC 32 l)]) ∧ ∃ n, w' = w.drewN n :=
  P.cut_x 32 l w hl
theorem cutp32_x (l : List UInt8) (w : World) :
    Calls Tryz.prog 235 #[.string (mkS l), .string { data := #[32] }] w fun e w' => e = .returned (.tuple #[.string (mkS (cutP 32 l).1), .bool (cutP 32 l).2]) ∧ w = w' :=
  P.cutp_x 32 l w
theorem verb_x (l : Txt) (w : World) (hl : l.length ≤ 1000000000000) :
    Calls Tryz.prog 164 #[.string (mkS l)] w fun e w' => e = .returned (.string (mkS (vbV l))) ∧ Below w.heap.size w w' := by
  have HI := Lib.hid (fun w => cut32_x l w (by omega))
  have hp := pre_le 32 l
  have HC := Lib.hid (fun w => ccap_x (preC 32 l) w (by omega))
  unfold vbV
  generalize preC 32 l = a at HI HC ⊢
  generalize postC 32 l = b at HI
  generalize hasC 32 l = q at HI
  clear hp hl
  go_enter Tryz.func164, Tryz.ntmps164
  go_wp2_with fail
  refine (HI.out _).mono ?_
  rintro e w1 ⟨rfl, n, rfl⟩
  go_wp2_with fail
  refine (HC.out _).mono ?_
  rintro e w2 ⟨rfl, hb⟩
  go_wp2_with fail
  go_ret
  exact ⟨rfl, below_next (drew_below w n) hb⟩
theorem host_x (p : P.Pth) (w : World) : Calls Tryz.prog 239 #[.agg #[.string (mkS p.1), .string (mkS p.2)]] w fun e w' => e = .returned (.bool (hostlB p)) ∧ Below w.heap.size w w' := by
  have e1 : (mkS p.1).toList.isEmpty = (p.1 == []) := by rw [mkS_toList]; cases p.1 <;> rfl
  have e2 : (mkS p.2).toList.isEmpty = (p.2 == []) := by rw [mkS_toList]; cases p.2 <;> rfl
  have HV := Lib.hid (show hostlB p = (!(p.1 == []) && p.2 == []) from rfl)
  rw [mkS_toList] at e1 e2
  have hT1 := mkS_toList p.1
  have hT2 := mkS_toList p.2
  generalize hostlB p = r at HV ⊢
  cases h1 : p.1 == []
  · rw [h1] at e1 HV
    cases h2 : p.2 == []
    · rw [h2] at e2 HV
      obtain rfl := HV.out
      clear h1 h2 HV
      go_enter Tryz.func239, Tryz.ntmps239
      go_wp2_with fail
      go_ret
      exact ⟨rfl, P.below_box _ _⟩
    · rw [h2] at e2 HV
      obtain rfl := HV.out
      clear h1 h2 HV
      go_enter Tryz.func239, Tryz.ntmps239
      go_wp2_with fail
      go_ret
      exact ⟨rfl, P.below_box _ _⟩
  · rw [h1] at e1 HV
    obtain rfl := HV.out
    clear h1 HV
    go_enter Tryz.func239, Tryz.ntmps239
    go_wp2_with fail
    go_ret
    exact ⟨rfl, P.below_box _ _⟩
theorem nonec_x (n : Int) (w : World) : Calls Tryz.prog 274 #[.int .i64 n] w fun e w' => e = .returned (.tuple #[.agg #[.string { data := #[] }, .string { data := #[] }], .string { data := #[] }, .int .i64 n]) ∧ Below w.heap.size w w' := by
  go_enter Tryz.func274, Tryz.ntmps274
  go_wp2_with fail
  refine bodyPost_ret (v := .tuple #[.agg #[.string { data := #[] }, .string { data := #[] }], .string { data := #[] }, .int .i64 n]) (by simp [results, Tryz.results274, go_sem]) rfl ⟨rfl, ?_⟩
  first | exact P.below_box _ _ | exact (P.below_box _ _).setCell (Nat.le_refl _) _ | exact ((P.below_box _ _).setCell (Nat.le_refl _) _).setCell (Nat.le_refl _) _
set_option maxHeartbeats 1000000 in
theorem isText_x (l : List UInt8) (w : World) (hl : l.length ≤ 1000000000000) :
    Calls Tryz.prog 244 #[.string (mkS l)] w fun e w' => e = .returned (.bool (txtB l)) ∧ ∃ n, w' = w.drewN n := by
  have hms := mkS_size l
  have hT0 := (fun w => Tryz.strings_Trim_one (mkS l) 32 (by decide) w (by omega))
  rw [mkS_data] at hT0
  have HT := Lib.hid (show ∀ w, Calls Tryz.prog 269 #[.string (mkS l), .string { data := #[32] }] w fun e w' => e = .returned (.string (mkS (Lib.trimB l 32))) ∧ (w' = w ∨ w' = w.drew) from hT0)
  clear hT0
  have HV := Lib.hid (show txtB l = (l.all P.printB && Lib.trimB l 32 == l) from rfl)
  have HE := Lib.hid (mkS_eqb (Lib.trimB l 32) l)
  generalize Lib.trimB l 32 = t at HT HV HE
  generalize txtB l = r at HV ⊢
  go_enter Tryz.func244, Tryz.ntmps244
  go_wp2_with fail
  go_loop [6, 3] (fun i _ => ∃ j : Nat, j ≤ l.length ∧ i = .int .i64 j ∧ Hid ((l.take j).all P.printB = true)) (fun i _ => l.length - (intOf i).toNat)
  case atStart => exact ⟨0, Nat.zero_le _, rfl, by simp [Hid]⟩
  case round =>
    obtain ⟨j, hj, rfl, HC⟩ := hrel
    by_cases hlt : j < l.length
    · obtain ⟨x, hx⟩ : ∃ x : UInt8, (mkS l)[j]'(by omega) = x := ⟨_, rfl⟩
      have hX : l[j]? = some x := by rw [← hx]; have := Lib.data_getElem? (mkS l) j (by omega); rwa [mkS_data] at this
      by_cases h1 : x.toNat < 32
      · have h1i : (x.toNat : Int) < 32 := by omega
        have HN := Lib.hid (all_not (p := P.printB) hX (by simp [P.printB]; omega))
        clear h1 hX
        go_wp2_with fail
        go_ret
        exact ⟨ret_bool (by rw [HV.out, HN.out]; rfl), 0, rfl⟩
      · have h1i : ¬ (x.toNat : Int) < 32 := by omega
        by_cases h2 : 126 < x.toNat
        · have h2i : (126 : Int) < (x.toNat : Int) := by omega
          have HN := Lib.hid (all_not (p := P.printB) hX (by simp [P.printB]; omega))
          clear h1 h2 hX
          go_wp2_with fail
          go_ret
          exact ⟨ret_bool (by rw [HV.out, HN.out]; rfl), 0, rfl⟩
        · have h2i : ¬ (126 : Int) < (x.toNat : Int) := by omega
          have HN := Lib.hid (all_take (p := P.printB) hX HC.out (by simp [P.printB]; omega))
          clear h1 h2 hX
          go_wp2_with fail
          go_round
          case rel => exact ⟨j + 1, by omega, by go_num, HN⟩
          case measure => simp [intOf]; omega
    · have hc := HC.out
      rw [List.take_of_length_le (by omega)] at hc
      have HE2 := Lib.hid (show r = (t == l) by rw [HV.out, hc]; rfl)
      clear hc
      go_wp2_with fail
      refine (HT.out _).mono ?_
      rintro e w1 ⟨rfl, hw⟩
      have HW := Lib.hid (show ∃ n, w1 = w.drewN n from hw.elim (fun h => ⟨0, h⟩) (fun h => ⟨1, h⟩))
      clear hw
      have he := HE.out
      go_wp2_with fail
      go_ret
      exact ⟨ret_bool (by rw [HE2.out]), HW.out⟩

/- The maps. -/
def rdN (k : Nat) : Nat := if k = 1 then 212 else if k = 2 then 213 else if k = 3 then 214 else if k = 4 then 215 else if k = 5 then 216 else 217
def prN (k : Nat) : Nat := if k = 1 then 198 else if k = 2 then 199 else if k = 3 then 200 else if k = 4 then 201 else if k = 5 then 202 else 203
def mapF (N : Nat → Nat) (v : Txt) : Option Value := if kindV v = 0 then none else some (.func (.func (N (kindV v))) #[] #[])
def verbsV : List Txt := [vHELO, vEHLO, vMAIL, vRCPT, vDATA, vRSET, vQUIT, vNOOP, vVRFY, vHELP]
theorem map_all (g : Txt → Option Value) (N : Nat → Nat) (h1 : ∀ v, v ∉ verbsV → g v = none) (h2 : ∀ v ∈ verbsV, g v = some (.func (.func (N (kindV v))) #[] #[])) (v : Txt) : g v = mapF N v := by
  unfold mapF
  by_cases hv : v ∈ verbsV
  · rw [h2 v hv, if_neg]
    unfold verbsV at hv
    simp only [List.mem_cons, List.not_mem_nil, or_false] at hv
    rcases hv with rfl | rfl | rfl | rfl | rfl | rfl | rfl | rfl | rfl | rfl <;> decide
  · rw [h1 v hv, if_pos]
    exact Classical.byContradiction fun hk => hv (kind_cases hk)
theorem upd_no {f : Txt → Option Value} {k v : Txt} {x : Value} (h : v ≠ k) : updF f k x v = f v := if_neg h
theorem upd_yes {f : Txt → Option Value} {k : Txt} {x : Value} : updF f k x k = some x := if_pos rfl
set_option maxHeartbeats 4000000 in
theorem readers_x (w : World) : Calls Tryz.prog 165 #[] w fun e w' => ∃ M, e = .returned (.map (some M)) ∧ Below w.heap.size w w' ∧ MapIs w' M 10 (mapF rdN) := by
  have hmm := @run_makeMap Tryz.prog
  have h0 := MapIs.made w
  have hb0 : Below w.heap.size w (w.alloc (.map #[] 0)) := P.below_box w _
  obtain ⟨w1, r1, m1, g1⟩ := h0.put Tryz.underlying212 (by omega) (k := vHELO) (by decide) (.func (.func 212) #[] #[])
  obtain ⟨w2, r2, m2, g2⟩ := m1.put Tryz.underlying212 (by omega) (k := vEHLO) (by decide) (.func (.func 212) #[] #[])
  obtain ⟨w3, r3, m3, g3⟩ := m2.put Tryz.underlying212 (by omega) (k := vMAIL) (by decide) (.func (.func 213) #[] #[])
  obtain ⟨w4, r4, m4, g4⟩ := m3.put Tryz.underlying212 (by omega) (k := vRCPT) (by decide) (.func (.func 214) #[] #[])
  obtain ⟨w5, r5, m5, g5⟩ := m4.put Tryz.underlying212 (by omega) (k := vDATA) (by decide) (.func (.func 215) #[] #[])
  obtain ⟨w6, r6, m6, g6⟩ := m5.put Tryz.underlying212 (by omega) (k := vRSET) (by decide) (.func (.func 215) #[] #[])
  obtain ⟨w7, r7, m7, g7⟩ := m6.put Tryz.underlying212 (by omega) (k := vQUIT) (by decide) (.func (.func 215) #[] #[])
  obtain ⟨w8, r8, m8, g8⟩ := m7.put Tryz.underlying212 (by omega) (k := vNOOP) (by decide) (.func (.func 216) #[] #[])
  obtain ⟨w9, r9, m9, g9⟩ := m8.put Tryz.underlying212 (by omega) (k := vVRFY) (by decide) (.func (.func 217) #[] #[])
  obtain ⟨wx, rx, mx, gx⟩ := m9.put Tryz.underlying212 (by omega) (k := vHELP) (by decide) (.func (.func 216) #[] #[])
  rw [show mkS vHELO = { data := #[72, 69, 76, 79] } from rfl] at r1
  rw [show mkS vEHLO = { data := #[69, 72, 76, 79] } from rfl] at r2
  rw [show mkS vMAIL = { data := #[77, 65, 73, 76] } from rfl] at r3
  rw [show mkS vRCPT = { data := #[82, 67, 80, 84] } from rfl] at r4
  rw [show mkS vDATA = { data := #[68, 65, 84, 65] } from rfl] at r5
  rw [show mkS vRSET = { data := #[82, 83, 69, 84] } from rfl] at r6
  rw [show mkS vQUIT = { data := #[81, 85, 73, 84] } from rfl] at r7
  rw [show mkS vNOOP = { data := #[78, 79, 79, 80] } from rfl] at r8
  rw [show mkS vVRFY = { data := #[86, 82, 70, 89] } from rfl] at r9
  rw [show mkS vHELP = { data := #[72, 69, 76, 80] } from rfl] at rx
  have hB : Below w.heap.size w wx := by
    have s0 : w.heap.size ≤ (w.alloc (.map #[] 0)).heap.size := by simp
    have s1 := g1.size; have s2 := g2.size; have s3 := g3.size; have s4 := g4.size; have s5 := g5.size; have s6 := g6.size; have s7 := g7.size; have s8 := g8.size; have s9 := g9.size
    exact (((((((((hb0.grown g1 (by omega) (fun k e => by cases e; omega)).grown g2 (by omega) (fun k e => by cases e; omega)).grown g3 (by omega) (fun k e => by cases e; omega)).grown g4 (by omega) (fun k e => by cases e; omega)).grown g5 (by omega) (fun k e => by cases e; omega)).grown g6 (by omega) (fun k e => by cases e; omega)).grown g7 (by omega) (fun k e => by cases e; omega)).grown g8 (by omega) (fun k e => by cases e; omega)).grown g9 (by omega) (fun k e => by cases e; omega)).grown gx (by omega) (fun k e => by cases e; omega)
  have HB := Lib.hid hB
  have HM := Lib.hid (mx.congr (map_all _ rdN (fun v hv => by
      simp only [verbsV, List.mem_cons, List.not_mem_nil, or_false, not_or] at hv
      obtain ⟨h1, h2, h3, h4, h5, h6, h7, h8, h9, h10⟩ := hv
      rw [upd_no h10, upd_no h9, upd_no h8, upd_no h7, upd_no h6, upd_no h5, upd_no h4, upd_no h3, upd_no h2, upd_no h1]) (fun v hv => by
      simp only [verbsV, List.mem_cons, List.not_mem_nil, or_false] at hv
      rcases hv with rfl | rfl | rfl | rfl | rfl | rfl | rfl | rfl | rfl | rfl <;> rfl)))
  clear m1 m2 m3 m4 m5 m6 m7 m8 m9 mx g1 g2 g3 g4 g5 g6 g7 g8 g9 gx hb0 h0 hB
  go_enter Tryz.func165, Tryz.ntmps165
  go_wp2_with fail
  go_ret
  exact ⟨w.heap.size, rfl, HB.out, HM.out⟩
set_option maxHeartbeats 4000000 in
theorem printers_x (w : World) : Calls Tryz.prog 156 #[] w fun e w' => ∃ M, e = .returned (.map (some M)) ∧ Below w.heap.size w w' ∧ MapIs w' M 10 (mapF prN) := by
  have hmm := @run_makeMap Tryz.prog
  have h0 := MapIs.made w
  have hb0 : Below w.heap.size w (w.alloc (.map #[] 0)) := P.below_box w _
  obtain ⟨w1, r1, m1, g1⟩ := h0.put Tryz.underlying204 (by omega) (k := vHELO) (by decide) (.func (.func 198) #[] #[])
  obtain ⟨w2, r2, m2, g2⟩ := m1.put Tryz.underlying204 (by omega) (k := vEHLO) (by decide) (.func (.func 198) #[] #[])
  obtain ⟨w3, r3, m3, g3⟩ := m2.put Tryz.underlying204 (by omega) (k := vMAIL) (by decide) (.func (.func 199) #[] #[])
  obtain ⟨w4, r4, m4, g4⟩ := m3.put Tryz.underlying204 (by omega) (k := vRCPT) (by decide) (.func (.func 200) #[] #[])
  obtain ⟨w5, r5, m5, g5⟩ := m4.put Tryz.underlying204 (by omega) (k := vDATA) (by decide) (.func (.func 201) #[] #[])
  obtain ⟨w6, r6, m6, g6⟩ := m5.put Tryz.underlying204 (by omega) (k := vRSET) (by decide) (.func (.func 201) #[] #[])
  obtain ⟨w7, r7, m7, g7⟩ := m6.put Tryz.underlying204 (by omega) (k := vQUIT) (by decide) (.func (.func 201) #[] #[])
  obtain ⟨w8, r8, m8, g8⟩ := m7.put Tryz.underlying204 (by omega) (k := vNOOP) (by decide) (.func (.func 202) #[] #[])
  obtain ⟨w9, r9, m9, g9⟩ := m8.put Tryz.underlying204 (by omega) (k := vVRFY) (by decide) (.func (.func 203) #[] #[])
  obtain ⟨wx, rx, mx, gx⟩ := m9.put Tryz.underlying204 (by omega) (k := vHELP) (by decide) (.func (.func 202) #[] #[])
  rw [show mkS vHELO = { data := #[72, 69, 76, 79] } from rfl] at r1
  rw [show mkS vEHLO = { data := #[69, 72, 76, 79] } from rfl] at r2
  rw [show mkS vMAIL = { data := #[77, 65, 73, 76] } from rfl] at r3
  rw [show mkS vRCPT = { data := #[82, 67, 80, 84] } from rfl] at r4
  rw [show mkS vDATA = { data := #[68, 65, 84, 65] } from rfl] at r5
  rw [show mkS vRSET = { data := #[82, 83, 69, 84] } from rfl] at r6
  rw [show mkS vQUIT = { data := #[81, 85, 73, 84] } from rfl] at r7
  rw [show mkS vNOOP = { data := #[78, 79, 79, 80] } from rfl] at r8
  rw [show mkS vVRFY = { data := #[86, 82, 70, 89] } from rfl] at r9
  rw [show mkS vHELP = { data := #[72, 69, 76, 80] } from rfl] at rx
  have hB : Below w.heap.size w wx := by
    have s0 : w.heap.size ≤ (w.alloc (.map #[] 0)).heap.size := by simp
    have s1 := g1.size; have s2 := g2.size; have s3 := g3.size; have s4 := g4.size; have s5 := g5.size; have s6 := g6.size; have s7 := g7.size; have s8 := g8.size; have s9 := g9.size
    exact (((((((((hb0.grown g1 (by omega) (fun k e => by cases e; omega)).grown g2 (by omega) (fun k e => by cases e; omega)).grown g3 (by omega) (fun k e => by cases e; omega)).grown g4 (by omega) (fun k e => by cases e; omega)).grown g5 (by omega) (fun k e => by cases e; omega)).grown g6 (by omega) (fun k e => by cases e; omega)).grown g7 (by omega) (fun k e => by cases e; omega)).grown g8 (by omega) (fun k e => by cases e; omega)).grown g9 (by omega) (fun k e => by cases e; omega)).grown gx (by omega) (fun k e => by cases e; omega)
  have HB := Lib.hid hB
  have HM := Lib.hid (mx.congr (map_all _ prN (fun v hv => by
      simp only [verbsV, List.mem_cons, List.not_mem_nil, or_false, not_or] at hv
      obtain ⟨h1, h2, h3, h4, h5, h6, h7, h8, h9, h10⟩ := hv
      rw [upd_no h10, upd_no h9, upd_no h8, upd_no h7, upd_no h6, upd_no h5, upd_no h4, upd_no h3, upd_no h2, upd_no h1]) (fun v hv => by
      simp only [verbsV, List.mem_cons, List.not_mem_nil, or_false] at hv
      rcases hv with rfl | rfl | rfl | rfl | rfl | rfl | rfl | rfl | rfl | rfl <;> rfl)))
  clear m1 m2 m3 m4 m5 m6 m7 m8 m9 mx g1 g2 g3 g4 g5 g6 g7 g8 g9 gx hb0 h0 hB
  go_enter Tryz.func156, Tryz.ntmps156
  go_wp2_with fail
  go_ret
  exact ⟨w.heap.size, rfl, HB.out, HM.out⟩
end Go.Proofs.YtbecdncnidcmdaaGreatDoor
/-
  The walk of command's readPath.
-/
namespace Go.Proofs.YtbecdncnidcmdaaGreatDoor
set_option maxRecDepth 100000
open Go.RowKit Go.Shelf
/-- The box of the path that is answered. -/
structure QB (W : World) (p : P.Pth) (w : World) : Prop where
  res : w.heap[W.heap.size]? = some (.cells #[.string (mkS p.1), .string (mkS p.2)] 45 (0, 0))
  below : Below W.heap.size W w
theorem QB.next {W w w' : World} {p : P.Pth} (h : QB W p w) (hb : Below w.heap.size w w') : QB W p w' := ⟨(hb.block _ (ltOf h.res)).trans h.res, below_next h.below hb⟩
theorem QB.new (w : World) : QB w ([], []) (w.alloc (.cells #[.string { data := #[] }, .string { data := #[] }] 45)) := ⟨newOf w _, P.below_box w _⟩
theorem QB.set {W w : World} {p : P.Pth} (h : QB W p w) (q : P.Pth) : QB W q ((w.setCell ⟨W.heap.size, 0, none⟩ (.string (mkS q.1))).setCell ⟨W.heap.size, 1, none⟩ (.string (mkS q.2))) :=
  ⟨setOf (setOf h.res 0 _) 1 _, (h.below.setCell (p := ⟨W.heap.size, 0, none⟩) (Nat.le_refl _) _).setCell (p := ⟨W.heap.size, 1, none⟩) (Nat.le_refl _) _⟩
def RpPost (b hd : Txt) (w : World) (e : Ending) (w' : World) : Prop :=
  e = .returned (.tuple #[.agg #[.string (mkS (rpV b hd).1.1), .string (mkS (rpV b hd).1.2)], .string (mkS (rpV b hd).2.1), .int .i64 (rpV b hd).2.2]) ∧ Below w.heap.size w w'
theorem rp_no {b hd : Txt} {w w' : World} {n : Int} (h : rpV b hd = (([], []), [], n)) (hb : Below w.heap.size w w') :
    RpPost b hd w (.returned (.tuple #[.agg #[.string { data := #[] }, .string { data := #[] }], .string { data := #[] }, .int .i64 n])) w' := by unfold RpPost; rw [h]; exact ⟨rfl, hb⟩
theorem rp_yes {b hd : Txt} {w w' : World} {p : P.Pth} {r : Txt} (h : rpV b hd = (p, r, 0)) (hb : Below w.heap.size w w') :
    RpPost b hd w (.returned (.tuple #[.agg #[.string (mkS p.1), .string (mkS p.2)], .string (mkS r), .int .i64 0])) w' := by unfold RpPost; rw [h]; exact ⟨rfl, hb⟩
set_option maxHeartbeats 8000000 in
theorem readPath_x (b sg hd : Txt) (w : World) (hl : b.length ≤ 10000000) (hs : sg.length ≤ 100) (hh : hd = 32 :: sg) : Calls Tryz.prog 249 #[.string (mkS b), .string (mkS sg)] w (RpPost b hd w) := by
  have z1 := mkS_size b
  have z2 := mkS_size sg
  have z3 := mkS_size hd
  have hcat : ({ data := #[32] } : ByteArray) ++ mkS sg = mkS hd := by rw [hh]; exact mkS_cat [32] sg
  have hlen : hd.length = sg.length + 1 := by rw [hh]; rfl
  have y1 : ¬ 9223372036854775807 < 1 + (mkS sg).size := by omega
  have y2 : ¬ 9223372036854775807 < 1 + sg.length := by omega
  have HN := Lib.hid (fun n w => nonec_x n w)
  have HR := Lib.hid (QB.new w)
  by_cases hlt : b.length < hd.length
  · have d1 : (b.length : Int) < (hd.length : Int) := by omega
    have HV := Lib.hid (show rpV b hd = (([], []), [], 2) by rw [rpV, if_neg]; simp [rpH]; omega)
    clear hlt hh
    go_enter Tryz.func249, Tryz.ntmps249
    go_wp2_with fail
    refine (HN.out _ _).mono ?_
    rintro e w2 ⟨rfl, hb⟩
    have HR2 := Lib.hid (HR.out.next hb)
    clear hb
    have c0 := cellOf HR2.out.res 0
    have c1 := cellOf HR2.out.res 1
    have f0 := freeOf HR2.out.res 0
    have f1 := freeOf HR2.out.res 1
    go_wp2_with fail
    refine bodyPost_ret (v := .tuple #[.agg #[.string { data := #[] }, .string { data := #[] }], .string { data := #[] }, .int .i64 2]) (by simp [results, Tryz.results249, go_sem, c0, c1]) rfl ?_
    exact rp_no HV.out (HR2.out.set ([], [])).below
  · have d1 : ¬ (b.length : Int) < (hd.length : Int) := by omega
    have hx0 : (mkS b).extract 0 hd.length = mkS (b.take hd.length) := by rw [mkS_extract]; rfl
    have hx1 : (mkS b).extract hd.length b.length = mkS (b.drop hd.length) := by rw [mkS_extract, List.take_length]
    have hlt2 : (b.take hd.length).length ≤ 10000000 := by rw [List.length_take]; omega
    have hld : (b.drop hd.length).length ≤ 10000000 := by rw [List.length_drop]; omega
    have HC := Lib.hid (fun w => ccap_x (b.take hd.length) w (by omega))
    have HP := Lib.hid (fun w => P.parse_x (b.drop hd.length) w (by omega))
    unfold P.PaPost at HP
    have HV := Lib.hid (show rpV b hd = if (upL (b.take hd.length) == hd) = true then (if (P.parseV (b.drop hd.length)).2.2 = 0 then (if rpW (P.parseV (b.drop hd.length)).2.1 = true then ((P.parseV (b.drop hd.length)).1, (cutP 32 (P.parseV (b.drop hd.length)).2.1).1, 0) else (([], []), [], 2)) else (([], []), [], (P.parseV (b.drop hd.length)).2.2)) else (([], []), [], 2) by
      rw [rpV, show rpH b hd = (upL (b.take hd.length) == hd) by unfold rpH; rw [decide_eq_true (by omega)]; rfl])
    have hk1 := mkS_eqb (upL (b.take hd.length)) hd
    have q1 : (0 : Int) ≤ (hd.length : Int) := by omega
    have q2 : hd.length ≤ b.length := by omega
    generalize b.take hd.length = bt at HC HV hx0 hk1
    generalize b.drop hd.length = bd at HP HV hx1
    generalize upL bt = ub at HC HV hk1
    clear hh hlt2 hld hlen
    cases hq : ub == hd
    · rw [hq] at HV hk1
      rw [if_neg (by decide)] at HV
      go_enter Tryz.func249, Tryz.ntmps249
      go_wp2_with fail
      refine (HC.out _).mono ?_
      rintro e w1 ⟨rfl, hb⟩
      have HR1 := Lib.hid (HR.out.next hb)
      clear hb
      go_wp2_with fail
      refine (HN.out _ _).mono ?_
      rintro e w2 ⟨rfl, hb⟩
      have HR2 := Lib.hid (HR1.out.next hb)
      clear hb
      have c0 := cellOf HR2.out.res 0
      have c1 := cellOf HR2.out.res 1
      have f0 := freeOf HR2.out.res 0
      have f1 := freeOf HR2.out.res 1
      go_wp2_with fail
      refine bodyPost_ret (v := .tuple #[.agg #[.string { data := #[] }, .string { data := #[] }], .string { data := #[] }, .int .i64 2]) (by simp [results, Tryz.results249, go_sem, c0, c1]) rfl ?_
      exact rp_no HV.out (HR2.out.set ([], [])).below
    · rw [hq] at HV hk1
      rw [if_pos rfl] at HV
      have HCP := Lib.hid (fun w => cutp32_x (P.parseV bd).2.1 w)
      unfold rpW at HV
      generalize cutP 32 (P.parseV bd).2.1 = ct at HCP HV
      obtain ⟨ws, pt⟩ := ct
      generalize (P.parseV bd).1 = p at HP HV
      generalize (P.parseV bd).2.1 = rs at HP HV HCP
      generalize (P.parseV bd).2.2 = E at HP HV
      clear hq
      go_enter Tryz.func249, Tryz.ntmps249
      go_wp2_with fail
      refine (HC.out _).mono ?_
      rintro e w1 ⟨rfl, hb⟩
      have HR1 := Lib.hid (HR.out.next hb)
      clear hb HC
      go_wp2_with fail
      refine (HP.out _).mono ?_
      rintro e w2 ⟨rfl, hb⟩
      have HR2 := Lib.hid (HR1.out.next hb)
      clear hb HP
      have c0 := cellOf HR2.out.res 0
      have c1 := cellOf HR2.out.res 1
      have f0 := freeOf HR2.out.res 0
      have f1 := freeOf HR2.out.res 1
      by_cases hE : E = 0
      · subst hE
        rw [if_pos rfl] at HV
        go_wp2_with fail
        clear c0 c1 f0 f1
        have HR3 := Lib.hid (HR2.out.set p)
        generalize (w2.setCell ⟨w.heap.size, 0, none⟩ (.string (mkS p.1))).setCell ⟨w.heap.size, 1, none⟩ (.string (mkS p.2)) = w3 at HR3 ⊢
        refine (HCP.out _).mono ?_
        rintro e w4 ⟨rfl, rfl⟩
        have e1 : ws.isEmpty = (ws == []) := by cases ws <;> rfl
        have hT3 := mkS_toList ws
        have hVV := HV.out
        clear HV
        have c0 := cellOf HR3.out.res 0
        have c1 := cellOf HR3.out.res 1
        have f0 := freeOf HR3.out.res 0
        have f1 := freeOf HR3.out.res 1
        cases hw : pt == (ws != [])
        · rw [hw, if_neg (by decide)] at hVV
          have HV := Lib.hid hVV
          have hw2 : (pt != (!(ws == []))) = true := by rw [bne, show (!(ws == [])) = (ws != []) from rfl, hw]; rfl
          generalize (ws == []) = ne at e1 hw2
          clear hw hVV
          cases pt <;> cases ne <;> first | exact absurd hw2 (by decide) | skip
          all_goals
            clear hw2
            go_wp2_with fail
            clear c0 c1 f0 f1
            refine (HN.out _ _).mono ?_
            rintro e w5 ⟨rfl, hb⟩
            have HR5 := Lib.hid (HR3.out.next hb)
            clear hb
            have c0 := cellOf HR5.out.res 0
            have c1 := cellOf HR5.out.res 1
            have f0 := freeOf HR5.out.res 0
            have f1 := freeOf HR5.out.res 1
            go_wp2_with fail
            refine bodyPost_ret (v := .tuple #[.agg #[.string { data := #[] }, .string { data := #[] }], .string { data := #[] }, .int .i64 2]) (by simp [results, Tryz.results249, go_sem, c0, c1]) rfl ?_
            exact rp_no HV.out (HR5.out.set ([], [])).below
        · rw [hw, if_pos rfl] at hVV
          have HV := Lib.hid hVV
          have hw2 : (pt != (!(ws == []))) = false := by rw [bne, show (!(ws == [])) = (ws != []) from rfl, hw]; rfl
          generalize (ws == []) = ne at e1 hw2
          clear hw hVV
          cases pt <;> cases ne <;> first | exact absurd hw2 (by decide) | skip
          all_goals
            clear hw2
            go_wp2_with fail
            refine bodyPost_ret (v := .tuple #[.agg #[.string (mkS p.1), .string (mkS p.2)], .string (mkS ws), .int .i64 0]) (by simp [results, Tryz.results249, go_sem, c0, c1]) rfl ?_
            exact rp_yes HV.out (HR3.out.set p).below
      · have d9 : (E != 0) = true := bne_iff_ne.2 hE
        rw [if_neg hE] at HV
        clear hE
        go_wp2_with fail
        clear c0 c1 f0 f1
        have HR3 := Lib.hid (HR2.out.set p)
        generalize (w2.setCell ⟨w.heap.size, 0, none⟩ (.string (mkS p.1))).setCell ⟨w.heap.size, 1, none⟩ (.string (mkS p.2)) = w3 at HR3 ⊢
        refine (HN.out _ _).mono ?_
        rintro e w5 ⟨rfl, hb⟩
        have HR5 := Lib.hid (HR3.out.next hb)
        clear hb
        have c0 := cellOf HR5.out.res 0
        have c1 := cellOf HR5.out.res 1
        have f0 := freeOf HR5.out.res 0
        have f1 := freeOf HR5.out.res 1
        go_wp2_with fail
        refine bodyPost_ret (v := .tuple #[.agg #[.string { data := #[] }, .string { data := #[] }], .string { data := #[] }, .int .i64 E]) (by simp [results, Tryz.results249, go_sem, c0, c1]) rfl ?_
        exact rp_no HV.out (HR5.out.set ([], [])).below
end Go.Proofs.YtbecdncnidcmdaaGreatDoor
/-
  The walks of command's read functions: what each verb's function tells block mb of what stands behind the verb.
-/
namespace Go.Proofs.YtbecdncnidcmdaaGreatDoor
set_option maxRecDepth 100000
open Go.RowKit Go.Shelf
/-- A command's cells. -/
def CC (c : CL) : Array Value := #[.string (mkS c.verb), .string (mkS c.arg), .string (mkS c.p.1), .string (mkS c.p.2), .bool c.m.hs, .bool c.m.hf, .bool c.m.hu, .bool c.m.hb, .bool c.m.hp, .int .i64 c.m.sz, .int .i64 c.m.fo, .int .i64 c.m.un, .int .i64 c.m.by_, .int .i64 c.m.pr, .string (mkS c.m.body), .string (mkS c.m.ret), .string (mkS c.m.env), .string (mkS c.m.mode), .string (mkS c.r.no), .string (mkS c.r.kind), .string (mkS c.r.oc)]
/-- What a verb's function does. -/
def DoesC (g : FuncId) (err : Txt → Int) (set : Txt → CL → CL) : Prop := ∀ (w : World) (mb : Nat) (c : CL) (x : Txt), x.length ≤ 100000 → (∀ w', Apart mb w.heap.size w w' → Ready w' ∧ NotR w') → w.heap[mb]? = some (.cells (CC c) 164 (0, 0)) →
  Calls Tryz.prog g #[.pointer (some ⟨mb, 0, none⟩), .string (mkS x)] w fun e w' => e = .returned (.int .i64 (err x)) ∧ Apart mb w.heap.size w w' ∧ (err x = 0 → w'.heap[mb]? = some (.cells (CC (set x c)) 164 (0, 0)))
theorem told_c {mb : Nat} {w w' : World} {Q : Prop} {cs : Array Value} {c : CL} (h : Told mb cs 164 w w') (hc : Q → cs = CC c) : Apart mb w.heap.size w w' ∧ (Q → w'.heap[mb]? = some (.cells (CC c) 164 (0, 0))) := ⟨h.1, fun he => by rw [← hc he]; exact h.2⟩
theorem Told.next {mb : Nat} {cs : Array Value} {t : TypeId} {w w1 w' : World} (h : Told mb cs t w w1) (hb : Below w1.heap.size w1 w') : Told mb cs t w w' := ⟨h.1.next (.of hb), (hb.block mb (ltOf h.2)).trans h.2⟩
theorem told_new {mb : Nat} {cs : Array Value} {t : TypeId} {w : World} (h : w.heap[mb]? = some (.cells cs t (0, 0))) : Told mb cs t w w := ⟨Apart.refl _ _ _, h⟩
theorem readNothing_x : DoesC 215 rdNE fun _ c => c := by
  intro w mb c x hx hR hb
  have hT := mkS_toList x
  have HV := Lib.hid (show rdNE x = if x = [] then 0 else 2 from rfl)
  have HT := Lib.hid (told_new hb)
  have e1 : x.isEmpty = (x == []) := by cases x <;> rfl
  generalize rdNE x = E at HV ⊢
  clear hb hR
  cases hq : x == []
  · have hr := HV.out
    rw [if_neg (by simpa using hq)] at hr
    subst hr
    rw [hq] at e1
    clear hq
    go_enter Tryz.func215, Tryz.ntmps215
    go_wp2_with fail
    go_ret
    exact ⟨rfl, told_c HT.out (fun h => by cases h)⟩
  · have hr := HV.out
    rw [if_pos (by simpa using hq)] at hr
    subst hr
    rw [hq] at e1
    clear hq
    go_enter Tryz.func215, Tryz.ntmps215
    go_wp2_with fail
    go_ret
    exact ⟨rfl, told_c HT.out (fun _ => rfl)⟩
set_option maxHeartbeats 2000000 in
theorem readDomain_x : DoesC 212 rdDE rdDS := by
  intro w mb c x hx hR hb
  have HCP := Lib.hid (fun w => cutp32_x x w)
  have HV := Lib.hid (show rdDE x = if ((cutP 32 x).2 && P.domainE (cutP 32 x).1 == 0) = true then 0 else 2 from rfl)
  have HS := Lib.hid (show CC (rdDS x c) = (CC c).setIfInBounds 1 (.string (mkS (P.domainV (cutP 32 x).1))) from rfl)
  have HT := Lib.hid (told_new hb)
  generalize rdDE x = E at HV ⊢
  generalize rdDS x c = c' at HS ⊢
  generalize cutP 32 x = ct at HCP HV HS
  obtain ⟨t, pt⟩ := ct
  have HD := Lib.hid (fun w => P.domain_x t w)
  unfold P.DomPost at HD
  generalize P.domainE t = D at HD HV
  generalize P.domainV t = dv at HD HS
  clear hb hR
  cases pt
  · have hr := HV.out
    rw [Bool.false_and, if_neg (by decide)] at hr
    subst hr
    go_enter Tryz.func212, Tryz.ntmps212
    go_wp2_with fail
    refine (HCP.out _).mono ?_
    rintro e w1 ⟨rfl, rfl⟩
    go_wp2_with fail
    refine (HD.out _).mono ?_
    rintro e w2 ⟨rfl, hb⟩
    have HT2 := Lib.hid (HT.out.next hb)
    clear hb
    go_wp2_with fail
    go_ret
    exact ⟨rfl, told_c HT2.out (fun h => by cases h)⟩
  · by_cases hD : D = 0
    · subst hD
      have hr := HV.out
      rw [if_pos (by rfl)] at hr
      subst hr
      go_enter Tryz.func212, Tryz.ntmps212
      go_wp2_with fail
      refine (HCP.out _).mono ?_
      rintro e w1 ⟨rfl, rfl⟩
      go_wp2_with fail
      refine (HD.out _).mono ?_
      rintro e w2 ⟨rfl, hb⟩
      have HT2 := Lib.hid (HT.out.next hb)
      clear hb
      have c1 : w2.cell? ⟨mb, 1, none⟩ = some (.string (mkS c.arg)) := cellOf HT2.out.2 1
      have f1 := freeOf HT2.out.2 1
      go_wp2_with fail
      go_ret
      exact ⟨rfl, told_c (HT2.out.set 1 _) (fun _ => HS.out.symm)⟩
    · have hr := HV.out
      rw [if_neg (by simp [hD])] at hr
      subst hr
      have d9 : (D != 0) = true := bne_iff_ne.2 hD
      clear hD
      go_enter Tryz.func212, Tryz.ntmps212
      go_wp2_with fail
      refine (HCP.out _).mono ?_
      rintro e w1 ⟨rfl, rfl⟩
      go_wp2_with fail
      refine (HD.out _).mono ?_
      rintro e w2 ⟨rfl, hb⟩
      have HT2 := Lib.hid (HT.out.next hb)
      clear hb
      go_wp2_with fail
      go_ret
      exact ⟨rfl, told_c HT2.out (fun h => by cases h)⟩
theorem cutP_le (l : Txt) : (cutP 32 l).1.length ≤ l.length := by
  unfold cutP
  split
  · simp
  · exact Nat.le_refl _
set_option maxHeartbeats 2000000 in
theorem readText_x : DoesC 216 rdTE rdTS := by
  intro w mb c x hx hR hb
  have HCP := Lib.hid (fun w => cutp32_x x w)
  have HV := Lib.hid (show rdTE x = if txtB (cutP 32 x).1 = true then 0 else 2 from rfl)
  have HS := Lib.hid (show CC (rdTS x c) = (CC c).setIfInBounds 1 (.string (mkS (cutP 32 x).1)) from rfl)
  have HT := Lib.hid (told_new hb)
  have hle := cutP_le x
  generalize rdTE x = E at HV ⊢
  generalize rdTS x c = c' at HS ⊢
  generalize cutP 32 x = ct at HCP HV HS hle
  obtain ⟨t, pt⟩ := ct
  have HD := Lib.hid (fun w => isText_x t w (by simp only at hle; omega))
  have HL := Lib.hid (fun w => P.clone_x t w (by simp only at hle; omega))
  simp only at HV
  generalize txtB t = D at HD HV
  clear hb hR hle
  cases D
  · have hr := HV.out
    rw [if_neg (by decide)] at hr
    subst hr
    go_enter Tryz.func216, Tryz.ntmps216
    go_wp2_with fail
    refine (HCP.out _).mono ?_
    rintro e w1 ⟨rfl, rfl⟩
    go_wp2_with fail
    refine (HD.out _).mono ?_
    rintro e w2 ⟨rfl, n, rfl⟩
    have HT2 := Lib.hid (HT.out.drewN n)
    go_wp2_with fail
    go_ret
    exact ⟨rfl, told_c HT2.out (fun h => by cases h)⟩
  · have hr := HV.out
    rw [if_pos rfl] at hr
    subst hr
    go_enter Tryz.func216, Tryz.ntmps216
    go_wp2_with fail
    refine (HCP.out _).mono ?_
    rintro e w1 ⟨rfl, rfl⟩
    go_wp2_with fail
    refine (HD.out _).mono ?_
    rintro e w2 ⟨rfl, n, rfl⟩
    have HT2 := Lib.hid (HT.out.drewN n)
    go_wp2_with fail
    refine (HL.out _).mono ?_
    rintro e w3 ⟨rfl, hb⟩
    have HT3 := Lib.hid (HT2.out.next hb)
    clear hb
    have c1 : w3.cell? ⟨mb, 1, none⟩ = some (.string (mkS c.arg)) := cellOf HT3.out.2 1
    have f1 := freeOf HT3.out.2 1
    go_wp2_with fail
    go_ret
    exact ⟨rfl, told_c (HT3.out.set 1 _) (fun _ => HS.out.symm)⟩
theorem readSome_x : DoesC 217 rdUE rdTS := by
  intro w mb c x hx hR hb
  have hT := mkS_toList x
  have HX := Lib.hid (readText_x w mb c x hx hR hb)
  have HV := Lib.hid (show rdUE x = if x = [] then 2 else rdTE x from rfl)
  have HT := Lib.hid (told_new hb)
  have e1 : x.isEmpty = (x == []) := by cases x <;> rfl
  generalize rdUE x = E at HV ⊢
  generalize rdTE x = D at HX HV
  clear hb hR
  cases hq : x == []
  · have hr := HV.out
    rw [if_neg (by simpa using hq)] at hr
    subst hr
    rw [hq] at e1
    clear hq
    go_enter Tryz.func217, Tryz.ntmps217
    go_wp2_with fail
    refine HX.out.mono ?_
    rintro e w2 ⟨rfl, h1, h2⟩
    have HT2 := Lib.hid (And.intro h1 h2)
    clear h1 h2
    go_wp2_with fail
    go_ret
    exact ⟨rfl, HT2.out⟩
  · have hr := HV.out
    rw [if_pos (by simpa using hq)] at hr
    subst hr
    rw [hq] at e1
    clear hq
    go_enter Tryz.func217, Tryz.ntmps217
    go_wp2_with fail
    go_ret
    exact ⟨rfl, told_c HT.out (fun h => by cases h)⟩
theorem rp_len (b hd : Txt) : (rpV b hd).2.1.length ≤ b.length := by
  unfold rpV
  split
  · split
    · rename_i h0
      split
      · obtain ⟨_, k, hk, _⟩ := P.parse_right (s := b.drop hd.length) (x := (P.parseV (b.drop hd.length)).1) (rest := (P.parseV (b.drop hd.length)).2.1) (Prod.ext rfl (Prod.ext rfl h0))
        have h1 := cutP_le (P.parseV (b.drop hd.length)).2.1
        have h2 := congrArg List.length hk
        rw [List.length_append, List.length_drop] at h2
        show (cutP 32 (P.parseV (b.drop hd.length)).2.1).1.length ≤ b.length
        omega
      · exact Nat.zero_le _
    · exact Nat.zero_le _
  · exact Nat.zero_le _
/-- A path in a box of its own, beside block mb. -/
structure TQ (mb : Nat) (cs : Array Value) (t : TypeId) (w : World) (g : Nat) (p : P.Pth) (w' : World) : Prop where
  told : Told mb cs t w w'
  box : w'.heap[g]? = some (.cells #[.string (mkS p.1), .string (mkS p.2)] 45 (0, 0))
  ne : g ≠ mb
theorem TQ.next {mb : Nat} {cs : Array Value} {t : TypeId} {w w1 w' : World} {g : Nat} {p : P.Pth} (h : TQ mb cs t w g p w1) (hb : Below w1.heap.size w1 w') : TQ mb cs t w g p w' := ⟨h.told.next hb, (hb.block _ (ltOf h.box)).trans h.box, h.ne⟩
theorem TQ.new {mb : Nat} {cs : Array Value} {t : TypeId} {w w1 : World} (h : Told mb cs t w w1) (p : P.Pth) : TQ mb cs t w w1.heap.size p (w1.alloc (.cells #[.string (mkS p.1), .string (mkS p.2)] 45)) :=
  ⟨h.next (P.below_box w1 _), newOf w1 _, by have := ltOf h.2; omega⟩
set_option maxHeartbeats 8000000 in
theorem readMail_x : DoesC 213 rdME rdMS := by
  intro w mb c x hx hR hb
  have HR := Lib.hid hR
  have HT := Lib.hid (told_new hb)
  have HP := Lib.hid (fun w => readPath_x x [70, 82, 79, 77, 58] hFROM w (by omega) (by decide) rfl)
  unfold RpPost at HP
  have HV := Lib.hid (show rdME x = if (rpV x hFROM).2.2 = 0 then (if hostlB (rpV x hFROM).1 = true then 2 else peM (rpV x hFROM).2.1) else (rpV x hFROM).2.2 from rfl)
  have HS := Lib.hid (show CC (rdMS x c) = (((((((((((((((CC { c with p := (rpV x hFROM).1 }).setIfInBounds 4 (.bool (pvM (rpV x hFROM).2.1).hs)).setIfInBounds 5 (.bool (pvM (rpV x hFROM).2.1).hf)).setIfInBounds 6 (.bool (pvM (rpV x hFROM).2.1).hu)).setIfInBounds 7 (.bool (pvM (rpV x hFROM).2.1).hb)).setIfInBounds 8 (.bool (pvM (rpV x hFROM).2.1).hp)).setIfInBounds 9 (.int .i64 (pvM (rpV x hFROM).2.1).sz)).setIfInBounds 10 (.int .i64 (pvM (rpV x hFROM).2.1).fo)).setIfInBounds 11 (.int .i64 (pvM (rpV x hFROM).2.1).un)).setIfInBounds 12 (.int .i64 (pvM (rpV x hFROM).2.1).by_)).setIfInBounds 13 (.int .i64 (pvM (rpV x hFROM).2.1).pr)).setIfInBounds 14 (.string (mkS (pvM (rpV x hFROM).2.1).body))).setIfInBounds 15 (.string (mkS (pvM (rpV x hFROM).2.1).ret))).setIfInBounds 16 (.string (mkS (pvM (rpV x hFROM).2.1).env))).setIfInBounds 17 (.string (mkS (pvM (rpV x hFROM).2.1).mode))) by kernel_rfl)
  have HS1 := Lib.hid (show CC { c with p := (rpV x hFROM).1 } = ((CC c).setIfInBounds 2 (.string (mkS (rpV x hFROM).1.1))).setIfInBounds 3 (.string (mkS (rpV x hFROM).1.2)) from rfl)
  have hle := rp_len x hFROM
  generalize rdME x = E at HV ⊢
  generalize rdMS x c = c' at HS ⊢
  generalize rpV x hFROM = q at HP HV HS HS1 hle
  obtain ⟨p, ws, e0⟩ := q
  simp only at HP HV HS HS1 hle
  have HM := Lib.hid (fun w hr => parseM_x ws w (by omega) hr)
  unfold MailPost mCells at HM
  have HG := Lib.hid (fun w => host_x p w)
  generalize hostlB p = gd at HG HV
  generalize peM ws = D at HM HV
  generalize pvM ws = X at HM HS
  clear hb hR hle
  have ESG : ({ data := #[70, 82, 79, 77, 58] } : ByteArray) = mkS [70, 82, 79, 77, 58] := rfl
  rw [← ESG] at HP
  clear ESG
  go_enter Tryz.func213, Tryz.ntmps213
  go_wp2_with fail
  refine (HP.out _).mono ?_
  rintro e w1 ⟨rfl, hb⟩
  have HT1 := Lib.hid (TQ.new (HT.out.next hb) p)
  clear hb HP HT
  by_cases h0 : e0 = 0
  · subst h0
    rw [if_pos rfl] at HV
    go_wp2_with fail
    generalize w1.alloc (.cells #[.string (mkS p.1), .string (mkS p.2)] 45) = w2 at HT1 ⊢
    generalize w1.heap.size = g at HT1 ⊢
    refine (HG.out _).mono ?_
    rintro e w3 ⟨rfl, hb⟩
    have HT3 := Lib.hid (HT1.out.next hb)
    clear hb HT1 HG
    cases gd
    · rw [if_neg (by decide)] at HV
      obtain rfl := HV.out
      clear HV
      have b0 : w3.cell? ⟨g, 0, none⟩ = some (.string (mkS p.1)) := cellOf HT3.out.box 0
      have b1 : w3.cell? ⟨g, 1, none⟩ = some (.string (mkS p.2)) := cellOf HT3.out.box 1
      have c2 : w3.cell? ⟨mb, 2, none⟩ = some (.string (mkS c.p.1)) := cellOf HT3.out.told.2 2
      have c3 : w3.cell? ⟨mb, 3, none⟩ = some (.string (mkS c.p.2)) := cellOf HT3.out.told.2 3
      have f2 := freeOf HT3.out.told.2 2
      have f3 := freeOf HT3.out.told.2 3
      have hne := HT3.out.ne
      have HT4 := Lib.hid ((HT3.out.told.set 2 (.string (mkS p.1))).set 3 (.string (mkS p.2)))
      go_wp2_with fail
      clear b0 b1 c2 c3 f2 f3 hne
      rw [← HS1.out] at HT4
      generalize (w3.setCell ⟨mb, 2, none⟩ (.string (mkS p.1))).setCell ⟨mb, 3, none⟩ (.string (mkS p.2)) = w4 at HT4 ⊢
      refine (HM.out _ (HR.out _ HT4.out.1).1).mono ?_
      rintro e w5 ⟨rfl, hb⟩
      have HT5 := Lib.hid (HT4.out.next hb)
      clear hb HT4 HT3 HM
      have c4 : w5.cell? ⟨mb, 4, none⟩ = some (.bool c.m.hs) := cellOf HT5.out.2 4
      have f4 := freeOf HT5.out.2 4
      have c5 : w5.cell? ⟨mb, 5, none⟩ = some (.bool c.m.hf) := cellOf HT5.out.2 5
      have f5 := freeOf HT5.out.2 5
      have c6 : w5.cell? ⟨mb, 6, none⟩ = some (.bool c.m.hu) := cellOf HT5.out.2 6
      have f6 := freeOf HT5.out.2 6
      have c7 : w5.cell? ⟨mb, 7, none⟩ = some (.bool c.m.hb) := cellOf HT5.out.2 7
      have f7 := freeOf HT5.out.2 7
      have c8 : w5.cell? ⟨mb, 8, none⟩ = some (.bool c.m.hp) := cellOf HT5.out.2 8
      have f8 := freeOf HT5.out.2 8
      have c9 : w5.cell? ⟨mb, 9, none⟩ = some (.int .i64 c.m.sz) := cellOf HT5.out.2 9
      have f9 := freeOf HT5.out.2 9
      have c10 : w5.cell? ⟨mb, 10, none⟩ = some (.int .i64 c.m.fo) := cellOf HT5.out.2 10
      have f10 := freeOf HT5.out.2 10
      have c11 : w5.cell? ⟨mb, 11, none⟩ = some (.int .i64 c.m.un) := cellOf HT5.out.2 11
      have f11 := freeOf HT5.out.2 11
      have c12 : w5.cell? ⟨mb, 12, none⟩ = some (.int .i64 c.m.by_) := cellOf HT5.out.2 12
      have f12 := freeOf HT5.out.2 12
      have c13 : w5.cell? ⟨mb, 13, none⟩ = some (.int .i64 c.m.pr) := cellOf HT5.out.2 13
      have f13 := freeOf HT5.out.2 13
      have c14 : w5.cell? ⟨mb, 14, none⟩ = some (.string (mkS c.m.body)) := cellOf HT5.out.2 14
      have f14 := freeOf HT5.out.2 14
      have c15 : w5.cell? ⟨mb, 15, none⟩ = some (.string (mkS c.m.ret)) := cellOf HT5.out.2 15
      have f15 := freeOf HT5.out.2 15
      have c16 : w5.cell? ⟨mb, 16, none⟩ = some (.string (mkS c.m.env)) := cellOf HT5.out.2 16
      have f16 := freeOf HT5.out.2 16
      have c17 : w5.cell? ⟨mb, 17, none⟩ = some (.string (mkS c.m.mode)) := cellOf HT5.out.2 17
      have f17 := freeOf HT5.out.2 17
      go_wp2_with fail
      have HF := told_c (Q := E = 0) ((((((((((((((HT5.out.set 4 (.bool X.hs)).set 5 (.bool X.hf)).set 6 (.bool X.hu)).set 7 (.bool X.hb)).set 8 (.bool X.hp)).set 9 (.int .i64 X.sz)).set 10 (.int .i64 X.fo)).set 11 (.int .i64 X.un)).set 12 (.int .i64 X.by_)).set 13 (.int .i64 X.pr)).set 14 (.string (mkS X.body))).set 15 (.string (mkS X.ret))).set 16 (.string (mkS X.env))).set 17 (.string (mkS X.mode))) (fun _ => HS.out.symm)
      refine bodyPost_ret (v := .int .i64 E) (by simp [results, Tryz.results213, go_sem]) rfl ⟨rfl, ?_⟩
      exact HF
    · rw [if_pos rfl] at HV
      have hr := HV.out
      subst hr
      go_wp2_with fail
      go_ret
      exact ⟨rfl, told_c HT3.out.told (fun h => by cases h)⟩
  · have d9 : (e0 != 0) = true := bne_iff_ne.2 h0
    rw [if_neg h0] at HV
    obtain rfl := HV.out
    have H0 := Lib.hid h0
    clear h0 HV
    go_wp2_with fail
    go_ret
    exact ⟨rfl, told_c HT1.out.told (fun h => absurd h H0.out)⟩
set_option maxHeartbeats 8000000 in
theorem readRcpt_x : DoesC 214 rdRE rdRS := by
  intro w mb c x hx hR hb
  have HR := Lib.hid hR
  have HT := Lib.hid (told_new hb)
  have HP := Lib.hid (fun w => readPath_x x [84, 79, 58] hTO w (by omega) (by decide) rfl)
  unfold RpPost at HP
  have HV := Lib.hid (show rdRE x = if (rpV x hTO).2.2 = 0 then (if P.nullB (rpV x hTO).1 = true then 2 else peR (rpV x hTO).2.1) else (rpV x hTO).2.2 from rfl)
  have HS := Lib.hid (show CC (rdRS x c) = ((((CC { c with p := (rpV x hTO).1 }).setIfInBounds 18 (.string (mkS (pvR (rpV x hTO).2.1).no))).setIfInBounds 19 (.string (mkS (pvR (rpV x hTO).2.1).kind))).setIfInBounds 20 (.string (mkS (pvR (rpV x hTO).2.1).oc))) by kernel_rfl)
  have HS1 := Lib.hid (show CC { c with p := (rpV x hTO).1 } = ((CC c).setIfInBounds 2 (.string (mkS (rpV x hTO).1.1))).setIfInBounds 3 (.string (mkS (rpV x hTO).1.2)) from rfl)
  have hle := rp_len x hTO
  generalize rdRE x = E at HV ⊢
  generalize rdRS x c = c' at HS ⊢
  generalize rpV x hTO = q at HP HV HS HS1 hle
  obtain ⟨p, ws, e0⟩ := q
  simp only at HP HV HS HS1 hle
  have HM := Lib.hid (fun w hr => parseR_x ws w (by omega) hr)
  unfold RcptPost at HM
  have HG := Lib.hid (fun w => P.null_x p w)
  generalize P.nullB p = gd at HG HV
  generalize peR ws = D at HM HV
  generalize pvR ws = X at HM HS
  clear hb hR hle
  have ESG : ({ data := #[84, 79, 58] } : ByteArray) = mkS [84, 79, 58] := rfl
  rw [← ESG] at HP
  clear ESG
  go_enter Tryz.func214, Tryz.ntmps214
  go_wp2_with fail
  refine (HP.out _).mono ?_
  rintro e w1 ⟨rfl, hb⟩
  have HT1 := Lib.hid (TQ.new (HT.out.next hb) p)
  clear hb HP HT
  by_cases h0 : e0 = 0
  · subst h0
    rw [if_pos rfl] at HV
    go_wp2_with fail
    generalize w1.alloc (.cells #[.string (mkS p.1), .string (mkS p.2)] 45) = w2 at HT1 ⊢
    generalize w1.heap.size = g at HT1 ⊢
    refine (HG.out _).mono ?_
    rintro e w3 ⟨rfl, hb⟩
    have HT3 := Lib.hid (HT1.out.next hb)
    clear hb HT1 HG
    cases gd
    · rw [if_neg (by decide)] at HV
      obtain rfl := HV.out
      clear HV
      have b0 : w3.cell? ⟨g, 0, none⟩ = some (.string (mkS p.1)) := cellOf HT3.out.box 0
      have b1 : w3.cell? ⟨g, 1, none⟩ = some (.string (mkS p.2)) := cellOf HT3.out.box 1
      have c2 : w3.cell? ⟨mb, 2, none⟩ = some (.string (mkS c.p.1)) := cellOf HT3.out.told.2 2
      have c3 : w3.cell? ⟨mb, 3, none⟩ = some (.string (mkS c.p.2)) := cellOf HT3.out.told.2 3
      have f2 := freeOf HT3.out.told.2 2
      have f3 := freeOf HT3.out.told.2 3
      have hne := HT3.out.ne
      have HT4 := Lib.hid ((HT3.out.told.set 2 (.string (mkS p.1))).set 3 (.string (mkS p.2)))
      go_wp2_with fail
      clear b0 b1 c2 c3 f2 f3 hne
      rw [← HS1.out] at HT4
      generalize (w3.setCell ⟨mb, 2, none⟩ (.string (mkS p.1))).setCell ⟨mb, 3, none⟩ (.string (mkS p.2)) = w4 at HT4 ⊢
      refine (HM.out _ (HR.out _ HT4.out.1).2).mono ?_
      rintro e w5 ⟨rfl, hb⟩
      have HT5 := Lib.hid (HT4.out.next hb)
      clear hb HT4 HT3 HM
      have c18 : w5.cell? ⟨mb, 18, none⟩ = some (.string (mkS c.r.no)) := cellOf HT5.out.2 18
      have f18 := freeOf HT5.out.2 18
      have c19 : w5.cell? ⟨mb, 19, none⟩ = some (.string (mkS c.r.kind)) := cellOf HT5.out.2 19
      have f19 := freeOf HT5.out.2 19
      have c20 : w5.cell? ⟨mb, 20, none⟩ = some (.string (mkS c.r.oc)) := cellOf HT5.out.2 20
      have f20 := freeOf HT5.out.2 20
      go_wp2_with fail
      have HF := told_c (Q := E = 0) (((HT5.out.set 18 (.string (mkS X.no))).set 19 (.string (mkS X.kind))).set 20 (.string (mkS X.oc))) (fun _ => HS.out.symm)
      refine bodyPost_ret (v := .int .i64 E) (by simp [results, Tryz.results214, go_sem]) rfl ⟨rfl, ?_⟩
      exact HF
    · rw [if_pos rfl] at HV
      have hr := HV.out
      subst hr
      go_wp2_with fail
      go_ret
      exact ⟨rfl, told_c HT3.out.told (fun h => by cases h)⟩
  · have d9 : (e0 != 0) = true := bne_iff_ne.2 h0
    rw [if_neg h0] at HV
    obtain rfl := HV.out
    have H0 := Lib.hid h0
    clear h0 HV
    go_wp2_with fail
    go_ret
    exact ⟨rfl, told_c HT1.out.told (fun h => absurd h H0.out)⟩
theorem does_C (k : Nat) (hk : k ≠ 0) (h6 : k ≤ 6) : DoesC (rdN k) (rE k) (rS k) := by
  have : k = 1 ∨ k = 2 ∨ k = 3 ∨ k = 4 ∨ k = 5 ∨ k = 6 := by omega
  rcases this with rfl | rfl | rfl | rfl | rfl | rfl
  · exact readDomain_x
  · exact readMail_x
  · exact readRcpt_x
  · exact readNothing_x
  · exact readText_x
  · exact readSome_x
end Go.Proofs.YtbecdncnidcmdaaGreatDoor
/-
  What command's Parse and Print stand on: a command in its box beside the box of what is answered.
-/
namespace Go.Proofs.YtbecdncnidcmdaaGreatDoor
set_option maxRecDepth 100000
open Go.RowKit Go.Shelf
/-- The box of what is answered. -/
structure RW (W w : World) : Prop where
  res : w.heap[W.heap.size]? = some (.cells (CC zeroC) 164 (0, 0))
  below : Below W.heap.size W w
theorem RW.next {W w w' : World} (h : RW W w) (hb : Below w.heap.size w w') : RW W w' := ⟨(hb.block _ (ltOf h.res)).trans h.res, below_next h.below hb⟩
theorem RW.new (w : World) : RW w (w.alloc (.cells #[.string { data := #[] }, .string { data := #[] }, .string { data := #[] }, .string { data := #[] }, .bool false, .bool false, .bool false, .bool false, .bool false, .int .i64 0, .int .i64 0, .int .i64 0, .int .i64 0, .int .i64 0, .string { data := #[] }, .string { data := #[] }, .string { data := #[] }, .string { data := #[] }, .string { data := #[] }, .string { data := #[] }, .string { data := #[] }] 164)) := ⟨newOf w _, P.below_box w _⟩
/-- A command in its box, block B, and the box of what is answered. -/
structure CW (W : World) (B : Nat) (c : CL) (w : World) : Prop where
  rw : RW W w
  box : w.heap[B]? = some (.cells (CC c) 164 (0, 0))
  lt : W.heap.size < B
theorem CW.next {W w w' : World} {B : Nat} {c : CL} (h : CW W B c w) (hb : Below w.heap.size w w') : CW W B c w' := ⟨h.rw.next hb, (hb.block _ (ltOf h.box)).trans h.box, h.lt⟩
theorem CW.drew {W w : World} {B : Nat} {c : CL} (h : CW W B c w) : CW W B c w.drew := ⟨⟨h.rw.res, below_drewN h.rw.below 1⟩, h.box, h.lt⟩
theorem RW.apart {W w w' : World} {B : Nat} (h : RW W w) (hl : W.heap.size < B) (ha : Apart B w.heap.size w w') : RW W w' :=
  ⟨(ha.block _ (ltOf h.res) (by omega)).trans h.res, h.below.trans (ha.below h.below.size (Nat.le_of_lt hl))⟩
theorem CW.new {W w w' : World} {o : Obj} {c : CL} (h : RW W w) (hb : w'.heap[w.heap.size]? = some (.cells (CC c) 164 (0, 0))) (ha : Apart w.heap.size (w.alloc o).heap.size (w.alloc o) w') : CW W w.heap.size c w' :=
  ⟨(h.next (P.below_box w o)).apart (ltOf h.res) ha, hb, ltOf h.res⟩
theorem size_cmd : (Tryz.prog.info? 164).map (·.size) = some 21 := by kernel_rfl
theorem one_CC (c : CL) : (CC c).all (·.oneCell') = true := by kernel_rfl
theorem whole_CC (c d : CL) : CC d = ((CC c).toList.take 0 ++ (CC d).toList ++ (CC c).toList.drop (0 + (CC d).size)).toArray := by kernel_rfl
/-- What is answered, read off its box. -/
theorem answer_x {fn : Func} {p u : Tmp} (hf : fn.results = #[.cell p 164, .tmp u]) {tmps : Array Value} {w : World} {b : Nat} {c : CL} {n : Int} (hp : tmps.getD p undef = .pointer (some ⟨b, 0, none⟩)) (hu : tmps.getD u undef = .int .i64 n)
    (hb : w.heap[b]? = some (.cells (CC c) 164 (0, 0))) : (results fn tmps).run Tryz.prog w = .ok (.tuple #[.agg (CC c), .int .i64 n]) w := by
  rw [results_cell_tmp hf, hp, hu]
  have hl := loadVar_blk (P := Tryz.prog) (ty := 164) (o := 0) (vs := CC c) hb Tryz.underlying164 rfl size_cmd (fun j _ => by rw [Nat.zero_add])
  simp [asAddr, Result.andThen, hl]
theorem CW.apart {W w w' : World} {B : Nat} {c : CL} (h : CW W B c w) (ha : Apart B w.heap.size w w') : RW W w' :=
  ⟨(ha.block _ (ltOf h.rw.res) (by have := h.lt; omega)).trans h.rw.res, h.rw.below.trans (ha.below h.rw.below.size (Nat.le_of_lt h.lt))⟩
theorem CW.res {W w w' : World} (h : RW W w) (ha : Apart W.heap.size w.heap.size w w') : Below W.heap.size W w' := h.below.trans (ha.below h.below.size (Nat.le_refl _))
theorem CW.told {W w w' : World} {B : Nat} {c c' : CL} (h : CW W B c w) (ha : Apart B w.heap.size w w') (hb : w'.heap[B]? = some (.cells (CC c') 164 (0, 0))) : CW W B c' w' := ⟨h.apart ha, hb, h.lt⟩
theorem ctrim_x (l : Txt) (w : World) (hl : l.length ≤ 1000000000000) :
    Calls Tryz.prog 163 #[.string (mkS l), .string { data := #[32] }] w fun e w' => e = .returned (.string (mkS (trR l))) ∧ w = w' := by
  have h := Tryz.strings_TrimRight_one (mkS l) 32 (by decide) w (by rw [mkS_size]; omega)
  rw [mkS_data] at h
  exact h.mono fun e w' ⟨he, hw⟩ => ⟨he, hw.symm⟩
theorem vb_le (l : Txt) : (vbV l).length ≤ l.length := by
  have := pre_le 32 l
  simpa [vbV, upL] using this
theorem enters_C (k : Nat) (hk : k ≠ 0) (h6 : k ≤ 6) : ∀ args w, (callFunc (rdN k) args).run Tryz.prog w = .ok (.enter (rdN k) args) w := by
  have : k = 1 ∨ k = 2 ∨ k = 3 ∨ k = 4 ∨ k = 5 ∨ k = 6 := by omega
  rcases this with rfl | rfl | rfl | rfl | rfl | rfl
  · exact enters_of Tryz.func212 (by kernel_rfl) rfl
  · exact enters_of Tryz.func213 (by kernel_rfl) rfl
  · exact enters_of Tryz.func214 (by kernel_rfl) rfl
  · exact enters_of Tryz.func215 (by kernel_rfl) rfl
  · exact enters_of Tryz.func216 (by kernel_rfl) rfl
  · exact enters_of Tryz.func217 (by kernel_rfl) rfl
theorem zeroFR (w : World) : (zeroValue 210).run Tryz.prog w = .ok .nilFunc w := by
  have h : Tryz.t210.zero = some .nilFunc := by kernel_rfl
  unfold zeroValue
  go_simp
theorem zeroFP (w : World) : (zeroValue 202).run Tryz.prog w = .ok .nilFunc w := by
  have h : Tryz.t202.zero = some .nilFunc := by kernel_rfl
  unfold zeroValue
  go_simp
/-- What Parse answers. -/
def CpPost (s : Txt) (w : World) (e : Ending) (w' : World) : Prop := e = .returned (.tuple #[.agg (CC (cpV s)), .int .i64 (cpE s)]) ∧ Below w.heap.size w w'
theorem readers_c {W w : World} {B : Nat} {c : CL} (h : CW W B c w) (v : Txt) (hv : v.length ≤ 1000000000) : Calls Tryz.prog 165 #[] w fun e w' => ∃ M, e = .returned (.map (some M)) ∧ Hid (CW W B c w') ∧ w'.cell? ⟨B, 0, none⟩ = some (.string (mkS c.verb)) ∧
    (Instr.lookup 212 (.map (some M)) (.string (mkS v)) true).run Tryz.prog w' = .ok (.tuple #[(mapF rdN v).getD .nilFunc, .bool (mapF rdN v).isSome]) w' :=
  (readers_x w).mono fun _ w' ⟨M, he, hb, hm⟩ => ⟨M, he, h.next hb, cellOf (h.next hb).box 0, hm.look_ok Tryz.underlying212 (zeroFR w') hv⟩
end Go.Proofs.YtbecdncnidcmdaaGreatDoor
