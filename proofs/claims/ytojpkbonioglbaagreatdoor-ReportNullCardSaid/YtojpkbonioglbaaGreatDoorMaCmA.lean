/-
  CmSmall · CmPath · CmRead · CmBox, in one text.
-/
import Derived.Test.YtojpkbonioglbaaGreatDoorCmMath
import Derived.Test.YtojpkbonioglbaaGreatDoorMaPaD
import Derived.Test.YtojpkbonioglbaaGreatDoorMaPt
import Derived.Test.YtojpkbonioglbaaGreatDoorMaPtC
import Derived.Test.YtojpkbonioglbaaGreatDoorMaPaO
import Derived.Test.YtojpkbonioglbaaGreatDoorMaBuild
import Derived.Deep.MidRow
import Derived.Laws.ResultCell
/-
  The walks of command's small functions: capitals, Verb, hostless, isText, readPath's closure, the two maps.
-/
namespace Go.Proofs.YtojpkbonioglbaaGreatDoor
set_option maxRecDepth 100000
open Go.RowKit Go.Shelf
theorem up_of {x : UInt8} (h1 : 97 ≤ x.toNat) (h2 : x.toNat ≤ 122) : smlB x = true := by simp [smlB, h1, h2]
theorem not_put {W w : World} {l : List UInt8} {j : Nat} {x : UInt8} (hX : l[j]? = some x) (h : smlB x = false) (hI : SI W w l (upUp l j)) : SI W w l (upUp l (j + 1)) := by
  rw [(upUp_succ hX).2, up_not h]
  have : (upUp l j).set j x = upUp l j := by
    apply List.ext_getElem?
    intro i
    rw [List.getElem?_set]
    split
    · rename_i e; subst e
      split
      · exact (upUp_succ hX).1.symm
      · rename_i h; rw [upUp_length] at h
        exact absurd (List.getElem?_eq_some_iff.1 hX).1 h
    · rfl
  rw [this]; exact hI
theorem cut32_x (l : List UInt8) (w : World) (hl : l.length ≤ 1000000000000000) :
    Calls Tryz.prog 119 #[.string (mkS l), .string { data := #[32] }] w fun e w' => e = .returned (.tuple #[.string (mkS (preC 32 l)), .string (mkS (postC 32 l)), .bool (hasC 32 l)]) ∧ ∃ n, w' = w.drewN n :=
  P.cut_x 32 l w hl
theorem cutp32_x (l : List UInt8) (w : World) :
    Calls Tryz.prog 20 #[.string (mkS l), .string { data := #[32] }] w fun e w' => e = .returned (.tuple #[.string (mkS (cutP 32 l).1), .bool (cutP 32 l).2]) ∧ w = w' :=
  P.cutp_x 32 l w
theorem host_x (p : P.Pth) (w : World) : Calls Tryz.prog 153 #[.agg #[.string (mkS p.1), .string (mkS p.2)]] w fun e w' => e = .returned (.bool (hostlB p)) ∧ Below w.heap.size w w' := by
  have e1 : (mkS p.1).toList.isEmpty = (p.1 == []) := by rw [mkS_toList]; cases p.1 <;> rfl
  have e2 : (mkS p.2).toList.isEmpty = (p.2 == []) := by rw [mkS_toList]; cases p.2 <;> rfl
  have HV := Lib.hid (show hostlB p = (!(p.1 == []) && p.2 == []) from rfl)
  rw [mkS_toList] at e1 e2
  have hT1 := mkS_toList p.1
  have hT2 := mkS_toList p.2
  generalize hostlB p = r at HV ⊢
  cases h1 : p.1 == []
  · rw [h1] at e1 HV
    cases h2 : p.2 == []
    · rw [h2] at e2 HV
      obtain rfl := HV.out
      clear h1 h2 HV
      go_enter Tryz.func153, Tryz.ntmps153
      go_wp2_with fail
      go_ret
      exact ⟨rfl, P.below_box _ _⟩
    · rw [h2] at e2 HV
      obtain rfl := HV.out
      clear h1 h2 HV
      go_enter Tryz.func153, Tryz.ntmps153
      go_wp2_with fail
      go_ret
      exact ⟨rfl, P.below_box _ _⟩
  · rw [h1] at e1 HV
    obtain rfl := HV.out
    clear h1 HV
    go_enter Tryz.func153, Tryz.ntmps153
    go_wp2_with fail
    go_ret
    exact ⟨rfl, P.below_box _ _⟩
set_option maxHeartbeats 1000000 in
theorem isText_x (l : List UInt8) (w : World) (hl : l.length ≤ 1000000000000) :
    Calls Tryz.prog 157 #[.string (mkS l)] w fun e w' => e = .returned (.bool (txtB l)) ∧ ∃ n, w' = w.drewN n := by
  have hms := mkS_size l
  have hT0 := (fun w => Tryz.strings_Trim_one (mkS l) 32 (by decide) w (by omega))
  rw [mkS_data] at hT0
  have HT := Lib.hid (show ∀ w, Calls Tryz.prog 173 #[.string (mkS l), .string { data := #[32] }] w fun e w' => e = .returned (.string (mkS (Lib.trimB l 32))) ∧ (w' = w ∨ w' = w.drew) from hT0)
  clear hT0
  have HV := Lib.hid (show txtB l = (l.all P.printB && Lib.trimB l 32 == l) from rfl)
  have HE := Lib.hid (mkS_eqb (Lib.trimB l 32) l)
  generalize Lib.trimB l 32 = t at HT HV HE
  generalize txtB l = r at HV ⊢
  go_enter Tryz.func157, Tryz.ntmps157
  go_wp2_with fail
  go_loop [6, 3] (fun i _ => ∃ j : Nat, j ≤ l.length ∧ i = .int .i64 j ∧ Hid ((l.take j).all P.printB = true)) (fun i _ => l.length - (intOf i).toNat)
  case atStart => exact ⟨0, Nat.zero_le _, rfl, by simp [Hid]⟩
  case round =>
    obtain ⟨j, hj, rfl, HC⟩ := hrel
    by_cases hlt : j < l.length
    · obtain ⟨x, hx⟩ : ∃ x : UInt8, (mkS l)[j]'(by omega) = x := ⟨_, rfl⟩
      have hX : l[j]? = some x := by rw [← hx]; have := Lib.data_getElem? (mkS l) j (by omega); rwa [mkS_data] at this
      by_cases h1 : x.toNat < 32
      · have h1i : (x.toNat : Int) < 32 := by omega
        have HN := Lib.hid (all_not (p := P.printB) hX (by simp [P.printB]; omega))
        clear h1 hX
        go_wp2_with fail
        go_ret
        exact ⟨ret_bool (by rw [HV.out, HN.out]; rfl), 0, rfl⟩
      · have h1i : ¬ (x.toNat : Int) < 32 := by omega
        by_cases h2 : 126 < x.toNat
        · have h2i : (126 : Int) < (x.toNat : Int) := by omega
          have HN := Lib.hid (all_not (p := P.printB) hX (by simp [P.printB]; omega))
          clear h1 h2 hX
          go_wp2_with fail
          go_ret
          exact ⟨ret_bool (by rw [HV.out, HN.out]; rfl), 0, rfl⟩
        · have h2i : ¬ (126 : Int) < (x.toNat : Int) := by omega
          have HN := Lib.hid (all_take (p := P.printB) hX HC.out (by simp [P.printB]; omega))
          clear h1 h2 hX
          go_wp2_with fail
          go_round
          case rel => exact ⟨j + 1, by omega, by go_num, HN⟩
          case measure => simp [intOf]; omega
    · have hc := HC.out
      rw [List.take_of_length_le (by omega)] at hc
      have HE2 := Lib.hid (show r = (t == l) by rw [HV.out, hc]; rfl)
      clear hc
      go_wp2_with fail
      refine (HT.out _).mono ?_
      rintro e w1 ⟨rfl, hw⟩
      have HW := Lib.hid (show ∃ n, w1 = w.drewN n from hw.elim (fun h => ⟨0, h⟩) (fun h => ⟨1, h⟩))
      clear hw
      have he := HE.out
      go_wp2_with fail
      go_ret
      exact ⟨ret_bool (by rw [HE2.out]), HW.out⟩

/- The maps. -/
def prN (k : Nat) : Nat := if k = 1 then 127 else if k = 2 then 128 else if k = 3 then 129 else if k = 4 then 130 else if k = 5 then 131 else 132
def mapF (N : Nat → Nat) (v : Txt) : Option Value := if kindV v = 0 then none else some (.func (.func (N (kindV v))) #[] #[])
def verbsV : List Txt := [vHELO, vEHLO, vMAIL, vRCPT, vDATA, vRSET, vQUIT, vNOOP, vVRFY, vHELP]
theorem map_all (g : Txt → Option Value) (N : Nat → Nat) (h1 : ∀ v, v ∉ verbsV → g v = none) (h2 : ∀ v ∈ verbsV, g v = some (.func (.func (N (kindV v))) #[] #[])) (v : Txt) : g v = mapF N v := by
  unfold mapF
  by_cases hv : v ∈ verbsV
  · rw [h2 v hv, if_neg]
    unfold verbsV at hv
    simp only [List.mem_cons, List.not_mem_nil, or_false] at hv
    rcases hv with rfl | rfl | rfl | rfl | rfl | rfl | rfl | rfl | rfl | rfl <;> decide
  · rw [h1 v hv, if_pos]
    exact Classical.byContradiction fun hk => hv (kind_cases hk)
theorem upd_no {f : Txt → Option Value} {k v : Txt} {x : Value} (h : v ≠ k) : updF f k x v = f v := if_neg h
theorem upd_yes {f : Txt → Option Value} {k : Txt} {x : Value} : updF f k x k = some x := if_pos rfl
set_option maxHeartbeats 4000000 in
theorem printers_x (w : World) : Calls Tryz.prog 97 #[] w fun e w' => ∃ M, e = .returned (.map (some M)) ∧ Below w.heap.size w w' ∧ MapIs w' M 10 (mapF prN) := by
  have hmm := @run_makeMap Tryz.prog
  have h0 := MapIs.made w
  have hb0 : Below w.heap.size w (w.alloc (.map #[] 0)) := P.below_box w _
  obtain ⟨w1, r1, m1, g1⟩ := h0.put Tryz.underlying137 (by omega) (k := vHELO) (by decide) (.func (.func 127) #[] #[])
  obtain ⟨w2, r2, m2, g2⟩ := m1.put Tryz.underlying137 (by omega) (k := vEHLO) (by decide) (.func (.func 127) #[] #[])
  obtain ⟨w3, r3, m3, g3⟩ := m2.put Tryz.underlying137 (by omega) (k := vMAIL) (by decide) (.func (.func 128) #[] #[])
  obtain ⟨w4, r4, m4, g4⟩ := m3.put Tryz.underlying137 (by omega) (k := vRCPT) (by decide) (.func (.func 129) #[] #[])
  obtain ⟨w5, r5, m5, g5⟩ := m4.put Tryz.underlying137 (by omega) (k := vDATA) (by decide) (.func (.func 130) #[] #[])
  obtain ⟨w6, r6, m6, g6⟩ := m5.put Tryz.underlying137 (by omega) (k := vRSET) (by decide) (.func (.func 130) #[] #[])
  obtain ⟨w7, r7, m7, g7⟩ := m6.put Tryz.underlying137 (by omega) (k := vQUIT) (by decide) (.func (.func 130) #[] #[])
  obtain ⟨w8, r8, m8, g8⟩ := m7.put Tryz.underlying137 (by omega) (k := vNOOP) (by decide) (.func (.func 131) #[] #[])
  obtain ⟨w9, r9, m9, g9⟩ := m8.put Tryz.underlying137 (by omega) (k := vVRFY) (by decide) (.func (.func 132) #[] #[])
  obtain ⟨wx, rx, mx, gx⟩ := m9.put Tryz.underlying137 (by omega) (k := vHELP) (by decide) (.func (.func 131) #[] #[])
  rw [show mkS vHELO = { data := #[72, 69, 76, 79] } from rfl] at r1
  rw [show mkS vEHLO = { data := #[69, 72, 76, 79] } from rfl] at r2
  rw [show mkS vMAIL = { data := #[77, 65, 73, 76] } from rfl] at r3
  rw [show mkS vRCPT = { data := #[82, 67, 80, 84] } from rfl] at r4
  rw [show mkS vDATA = { data := #[68, 65, 84, 65] } from rfl] at r5
  rw [show mkS vRSET = { data := #[82, 83, 69, 84] } from rfl] at r6
  rw [show mkS vQUIT = { data := #[81, 85, 73, 84] } from rfl] at r7
  rw [show mkS vNOOP = { data := #[78, 79, 79, 80] } from rfl] at r8
  rw [show mkS vVRFY = { data := #[86, 82, 70, 89] } from rfl] at r9
  rw [show mkS vHELP = { data := #[72, 69, 76, 80] } from rfl] at rx
  have hB : Below w.heap.size w wx := by
    have s0 : w.heap.size ≤ (w.alloc (.map #[] 0)).heap.size := by simp
    have s1 := g1.size; have s2 := g2.size; have s3 := g3.size; have s4 := g4.size; have s5 := g5.size; have s6 := g6.size; have s7 := g7.size; have s8 := g8.size; have s9 := g9.size
    exact (((((((((hb0.grown g1 (by omega) (fun k e => by cases e; omega)).grown g2 (by omega) (fun k e => by cases e; omega)).grown g3 (by omega) (fun k e => by cases e; omega)).grown g4 (by omega) (fun k e => by cases e; omega)).grown g5 (by omega) (fun k e => by cases e; omega)).grown g6 (by omega) (fun k e => by cases e; omega)).grown g7 (by omega) (fun k e => by cases e; omega)).grown g8 (by omega) (fun k e => by cases e; omega)).grown g9 (by omega) (fun k e => by cases e; omega)).grown gx (by omega) (fun k e => by cases e; omega)
  have HB := Lib.hid hB
  have HM := Lib.hid (mx.congr (map_all _ prN (fun v hv => by
      simp only [verbsV, List.mem_cons, List.not_mem_nil, or_false, not_or] at hv
      obtain ⟨h1, h2, h3, h4, h5, h6, h7, h8, h9, h10⟩ := hv
      rw [upd_no h10, upd_no h9, upd_no h8, upd_no h7, upd_no h6, upd_no h5, upd_no h4, upd_no h3, upd_no h2, upd_no h1]) (fun v hv => by
      simp only [verbsV, List.mem_cons, List.not_mem_nil, or_false] at hv
      rcases hv with rfl | rfl | rfl | rfl | rfl | rfl | rfl | rfl | rfl | rfl <;> rfl)))
  clear m1 m2 m3 m4 m5 m6 m7 m8 m9 mx g1 g2 g3 g4 g5 g6 g7 g8 g9 gx hb0 h0 hB
  go_enter Tryz.func97, Tryz.ntmps97
  go_wp2_with fail
  go_ret
  exact ⟨w.heap.size, rfl, HB.out, HM.out⟩
end Go.Proofs.YtojpkbonioglbaaGreatDoor
/-
  The walk of command's readPath.
-/
namespace Go.Proofs.YtojpkbonioglbaaGreatDoor
set_option maxRecDepth 100000
open Go.RowKit Go.Shelf
/-- The box of the path that is answered. -/
structure QB (W : World) (p : P.Pth) (w : World) : Prop where
  res : w.heap[W.heap.size]? = some (.cells #[.string (mkS p.1), .string (mkS p.2)] 27 (0, 0))
  below : Below W.heap.size W w
theorem QB.next {W w w' : World} {p : P.Pth} (h : QB W p w) (hb : Below w.heap.size w w') : QB W p w' := ⟨(hb.block _ (ltOf h.res)).trans h.res, below_next h.below hb⟩
theorem QB.new (w : World) : QB w ([], []) (w.alloc (.cells #[.string { data := #[] }, .string { data := #[] }] 27)) := ⟨newOf w _, P.below_box w _⟩
theorem QB.set {W w : World} {p : P.Pth} (h : QB W p w) (q : P.Pth) : QB W q ((w.setCell ⟨W.heap.size, 0, none⟩ (.string (mkS q.1))).setCell ⟨W.heap.size, 1, none⟩ (.string (mkS q.2))) :=
  ⟨setOf (setOf h.res 0 _) 1 _, (h.below.setCell (p := ⟨W.heap.size, 0, none⟩) (Nat.le_refl _) _).setCell (p := ⟨W.heap.size, 1, none⟩) (Nat.le_refl _) _⟩
def RpPost (b hd : Txt) (w : World) (e : Ending) (w' : World) : Prop :=
  e = .returned (.tuple #[.agg #[.string (mkS (rpV b hd).1.1), .string (mkS (rpV b hd).1.2)], .string (mkS (rpV b hd).2.1), .int .i64 (rpV b hd).2.2]) ∧ Below w.heap.size w w'
theorem rp_no {b hd : Txt} {w w' : World} {n : Int} (h : rpV b hd = (([], []), [], n)) (hb : Below w.heap.size w w') :
    RpPost b hd w (.returned (.tuple #[.agg #[.string { data := #[] }, .string { data := #[] }], .string { data := #[] }, .int .i64 n])) w' := by unfold RpPost; rw [h]; exact ⟨rfl, hb⟩
theorem rp_yes {b hd : Txt} {w w' : World} {p : P.Pth} {r : Txt} (h : rpV b hd = (p, r, 0)) (hb : Below w.heap.size w w') :
    RpPost b hd w (.returned (.tuple #[.agg #[.string (mkS p.1), .string (mkS p.2)], .string (mkS r), .int .i64 0])) w' := by unfold RpPost; rw [h]; exact ⟨rfl, hb⟩
end Go.Proofs.YtojpkbonioglbaaGreatDoor
/-
  The walks of command's read functions: what each verb's function tells block mb of what stands behind the verb.
-/
namespace Go.Proofs.YtojpkbonioglbaaGreatDoor
set_option maxRecDepth 100000
open Go.RowKit Go.Shelf
/-- A command's cells. -/
def CC (c : CL) : Array Value := #[.string (mkS c.verb), .string (mkS c.arg), .string (mkS c.p.1), .string (mkS c.p.2), .bool c.m.hs, .bool c.m.hf, .bool c.m.hu, .bool c.m.hb, .bool c.m.hp, .int .i64 c.m.sz, .int .i64 c.m.fo, .int .i64 c.m.un, .int .i64 c.m.by_, .int .i64 c.m.pr, .string (mkS c.m.body), .string (mkS c.m.ret), .string (mkS c.m.env), .string (mkS c.m.mode), .string (mkS c.r.no), .string (mkS c.r.kind), .string (mkS c.r.oc)]
/-- What a verb's function does. -/
def DoesC (g : FuncId) (err : Txt → Int) (set : Txt → CL → CL) : Prop := ∀ (w : World) (mb : Nat) (c : CL) (x : Txt), x.length ≤ 100000 → (∀ w', Apart mb w.heap.size w w' → Ready w' ∧ NotR w') → w.heap[mb]? = some (.cells (CC c) 101 (0, 0)) →
  Calls Tryz.prog g #[.pointer (some ⟨mb, 0, none⟩), .string (mkS x)] w fun e w' => e = .returned (.int .i64 (err x)) ∧ Apart mb w.heap.size w w' ∧ (err x = 0 → w'.heap[mb]? = some (.cells (CC (set x c)) 101 (0, 0)))
theorem told_c {mb : Nat} {w w' : World} {Q : Prop} {cs : Array Value} {c : CL} (h : Told mb cs 101 w w') (hc : Q → cs = CC c) : Apart mb w.heap.size w w' ∧ (Q → w'.heap[mb]? = some (.cells (CC c) 101 (0, 0))) := ⟨h.1, fun he => by rw [← hc he]; exact h.2⟩
theorem Told.next {mb : Nat} {cs : Array Value} {t : TypeId} {w w1 w' : World} (h : Told mb cs t w w1) (hb : Below w1.heap.size w1 w') : Told mb cs t w w' := ⟨h.1.next (.of hb), (hb.block mb (ltOf h.2)).trans h.2⟩
theorem told_new {mb : Nat} {cs : Array Value} {t : TypeId} {w : World} (h : w.heap[mb]? = some (.cells cs t (0, 0))) : Told mb cs t w w := ⟨Apart.refl _ _ _, h⟩
theorem cutP_le (l : Txt) : (cutP 32 l).1.length ≤ l.length := by
  unfold cutP
  split
  · simp
  · exact Nat.le_refl _
theorem rp_len (b hd : Txt) : (rpV b hd).2.1.length ≤ b.length := by
  unfold rpV
  split
  · split
    · rename_i h0
      split
      · obtain ⟨_, k, hk, _⟩ := P.parse_right (s := b.drop hd.length) (x := (P.parseV (b.drop hd.length)).1) (rest := (P.parseV (b.drop hd.length)).2.1) (Prod.ext rfl (Prod.ext rfl h0))
        have h1 := cutP_le (P.parseV (b.drop hd.length)).2.1
        have h2 := congrArg List.length hk
        rw [List.length_append, List.length_drop] at h2
        show (cutP 32 (P.parseV (b.drop hd.length)).2.1).1.length ≤ b.length
        omega
      · exact Nat.zero_le _
    · exact Nat.zero_le _
  · exact Nat.zero_le _
/-- A path in a box of its own, beside block mb. -/
structure TQ (mb : Nat) (cs : Array Value) (t : TypeId) (w : World) (g : Nat) (p : P.Pth) (w' : World) : Prop where
  told : Told mb cs t w w'
  box : w'.heap[g]? = some (.cells #[.string (mkS p.1), .string (mkS p.2)] 27 (0, 0))
  ne : g ≠ mb
theorem TQ.next {mb : Nat} {cs : Array Value} {t : TypeId} {w w1 w' : World} {g : Nat} {p : P.Pth} (h : TQ mb cs t w g p w1) (hb : Below w1.heap.size w1 w') : TQ mb cs t w g p w' := ⟨h.told.next hb, (hb.block _ (ltOf h.box)).trans h.box, h.ne⟩
theorem TQ.new {mb : Nat} {cs : Array Value} {t : TypeId} {w w1 : World} (h : Told mb cs t w w1) (p : P.Pth) : TQ mb cs t w w1.heap.size p (w1.alloc (.cells #[.string (mkS p.1), .string (mkS p.2)] 27)) :=
  ⟨h.next (P.below_box w1 _), newOf w1 _, by have := ltOf h.2; omega⟩
end Go.Proofs.YtojpkbonioglbaaGreatDoor
/-
  What command's Parse and Print stand on: a command in its box beside the box of what is answered.
-/
namespace Go.Proofs.YtojpkbonioglbaaGreatDoor
set_option maxRecDepth 100000
open Go.RowKit Go.Shelf
/-- The box of what is answered. -/
structure RW (W w : World) : Prop where
  res : w.heap[W.heap.size]? = some (.cells (CC zeroC) 101 (0, 0))
  below : Below W.heap.size W w
theorem RW.next {W w w' : World} (h : RW W w) (hb : Below w.heap.size w w') : RW W w' := ⟨(hb.block _ (ltOf h.res)).trans h.res, below_next h.below hb⟩
theorem RW.new (w : World) : RW w (w.alloc (.cells #[.string { data := #[] }, .string { data := #[] }, .string { data := #[] }, .string { data := #[] }, .bool false, .bool false, .bool false, .bool false, .bool false, .int .i64 0, .int .i64 0, .int .i64 0, .int .i64 0, .int .i64 0, .string { data := #[] }, .string { data := #[] }, .string { data := #[] }, .string { data := #[] }, .string { data := #[] }, .string { data := #[] }, .string { data := #[] }] 101)) := ⟨newOf w _, P.below_box w _⟩
/-- A command in its box, block B, and the box of what is answered. -/
structure CW (W : World) (B : Nat) (c : CL) (w : World) : Prop where
  rw : RW W w
  box : w.heap[B]? = some (.cells (CC c) 101 (0, 0))
  lt : W.heap.size < B
theorem CW.next {W w w' : World} {B : Nat} {c : CL} (h : CW W B c w) (hb : Below w.heap.size w w') : CW W B c w' := ⟨h.rw.next hb, (hb.block _ (ltOf h.box)).trans h.box, h.lt⟩
theorem CW.drew {W w : World} {B : Nat} {c : CL} (h : CW W B c w) : CW W B c w.drew := ⟨⟨h.rw.res, below_drewN h.rw.below 1⟩, h.box, h.lt⟩
theorem RW.apart {W w w' : World} {B : Nat} (h : RW W w) (hl : W.heap.size < B) (ha : Apart B w.heap.size w w') : RW W w' :=
  ⟨(ha.block _ (ltOf h.res) (by omega)).trans h.res, h.below.trans (ha.below h.below.size (Nat.le_of_lt hl))⟩
theorem CW.new {W w w' : World} {o : Obj} {c : CL} (h : RW W w) (hb : w'.heap[w.heap.size]? = some (.cells (CC c) 101 (0, 0))) (ha : Apart w.heap.size (w.alloc o).heap.size (w.alloc o) w') : CW W w.heap.size c w' :=
  ⟨(h.next (P.below_box w o)).apart (ltOf h.res) ha, hb, ltOf h.res⟩
theorem size_cmd : (Tryz.prog.info? 101).map (·.size) = some 21 := by kernel_rfl
theorem one_CC (c : CL) : (CC c).all (·.oneCell') = true := by kernel_rfl
theorem whole_CC (c d : CL) : CC d = ((CC c).toList.take 0 ++ (CC d).toList ++ (CC c).toList.drop (0 + (CC d).size)).toArray := by kernel_rfl
/-- What is answered, read off its box. -/
theorem answer_x {fn : Func} {p u : Tmp} (hf : fn.results = #[.cell p 101, .tmp u]) {tmps : Array Value} {w : World} {b : Nat} {c : CL} {n : Int} (hp : tmps.getD p undef = .pointer (some ⟨b, 0, none⟩)) (hu : tmps.getD u undef = .int .i64 n)
    (hb : w.heap[b]? = some (.cells (CC c) 101 (0, 0))) : (results fn tmps).run Tryz.prog w = .ok (.tuple #[.agg (CC c), .int .i64 n]) w := by
  rw [results_cell_tmp hf, hp, hu]
  have hl := loadVar_blk (P := Tryz.prog) (ty := 101) (o := 0) (vs := CC c) hb Tryz.underlying101 rfl size_cmd (fun j _ => by rw [Nat.zero_add])
  simp [asAddr, Result.andThen, hl]
theorem CW.apart {W w w' : World} {B : Nat} {c : CL} (h : CW W B c w) (ha : Apart B w.heap.size w w') : RW W w' :=
  ⟨(ha.block _ (ltOf h.rw.res) (by have := h.lt; omega)).trans h.rw.res, h.rw.below.trans (ha.below h.rw.below.size (Nat.le_of_lt h.lt))⟩
theorem CW.res {W w w' : World} (h : RW W w) (ha : Apart W.heap.size w.heap.size w w') : Below W.heap.size W w' := h.below.trans (ha.below h.below.size (Nat.le_refl _))
theorem CW.told {W w w' : World} {B : Nat} {c c' : CL} (h : CW W B c w) (ha : Apart B w.heap.size w w') (hb : w'.heap[B]? = some (.cells (CC c') 101 (0, 0))) : CW W B c' w' := ⟨h.apart ha, hb, h.lt⟩
theorem vb_le (l : Txt) : (vbV l).length ≤ l.length := by
  have := pre_le 32 l
  simpa [vbV, upL] using this
theorem zeroFP (w : World) : (zeroValue 135).run Tryz.prog w = .ok .nilFunc w := by
  have h : Tryz.t135.zero = some .nilFunc := by kernel_rfl
  unfold zeroValue
  go_simp
/-- What Parse answers. -/
def CpPost (s : Txt) (w : World) (e : Ending) (w' : World) : Prop := e = .returned (.tuple #[.agg (CC (cpV s)), .int .i64 (cpE s)]) ∧ Below w.heap.size w w'
end Go.Proofs.YtojpkbonioglbaaGreatDoor
