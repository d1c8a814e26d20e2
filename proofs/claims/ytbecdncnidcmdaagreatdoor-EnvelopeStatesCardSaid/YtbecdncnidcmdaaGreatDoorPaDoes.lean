/- 
  The walks of what a message's keys do: decode, number's and name's closures.
-/
import Derived.Test.YtbecdncnidcmdaaGreatDoorPaPieces
import Derived.Test.YtbecdncnidcmdaaGreatDoorMaBuild
import Derived.Test.YtbecdncnidcmdaaGreatDoorMaDate
namespace Go.Proofs.YtbecdncnidcmdaaGreatDoor
set_option maxRecDepth 100000
open Go.RowKit
/-- What a call that tells block mb something leaves: that block's cells, and all else as it lay. -/
def Told (mb : Nat) (cs : Array Value) (t : TypeId) (w w' : World) : Prop := Apart mb w.heap.size w w' ∧ w'.heap[mb]? = some (.cells cs t (0, 0))
theorem Told.of {mb : Nat} {cs : Array Value} {t : TypeId} {w w' : World} (h : w.heap[mb]? = some (.cells cs t (0, 0))) (hb : Below w.heap.size w w') : Told mb cs t w w' :=
  ⟨.of hb, (hb.block mb (ltOf h)).trans h⟩
theorem Told.after {mb : Nat} {cs : Array Value} {t : TypeId} {w w1 w' : World} (hb : Below w.heap.size w w1) (h : Told mb cs t w1 w') : Told mb cs t w w' :=
  ⟨(Apart.of hb).next h.1, h.2⟩
theorem Told.then {mb : Nat} {cs cs' : Array Value} {t : TypeId} {w w1 w' : World} (h1 : Told mb cs t w w1) (h : Told mb cs' t w1 w') : Told mb cs' t w w' :=
  ⟨h1.1.next h.1, h.2⟩
theorem Told.set {mb : Nat} {cs : Array Value} {t : TypeId} {w w' : World} (h : Told mb cs t w w') (i : Nat) (v : Value) : Told mb (cs.setIfInBounds i v) t w (w'.setCell ⟨mb, i, none⟩ v) :=
  ⟨h.1.set i v, setOf h.2 i v⟩
theorem Told.drew {mb : Nat} {cs : Array Value} {t : TypeId} {w w' : World} (h : Told mb cs t w w') : Told mb cs t w w'.drew := ⟨⟨h.1.os, h.1.tape, h.1.output, h.1.size, h.1.block⟩, h.2⟩
theorem Told.drewN {mb : Nat} {cs : Array Value} {t : TypeId} {w w' : World} (h : Told mb cs t w w') (n : Nat) : Told mb cs t w (w'.drewN n) := ⟨⟨h.1.os, h.1.tape, h.1.output, h.1.size, h.1.block⟩, h.2⟩
theorem drew_below (w : World) (n : Nat) : Below w.heap.size w (w.drewN n) := below_drewN (Below.refl _ w) n

/-- What decode leaves in a block. -/
def decC (v : Txt) (most : Nat) (cs : Array Value) (i : Nat) : Array Value := if decdE v most = 0 then cs.setIfInBounds i (.string (mkS (X.decS v))) else cs
set_option maxHeartbeats 1000000 in
theorem pdec_x (mb i : Nat) (cs : Array Value) (t : TypeId) (v : Txt) (most : Nat) (old : Value) (w : World) (hv : v.length ≤ 1000000000) (hb : w.heap[mb]? = some (.cells cs t (0, 0))) (hi : cs[i]? = some old) :
    Calls Tryz.prog 321 #[.pointer (some ⟨mb, i, none⟩), .string (mkS v), .int .i64 (most : Int)] w fun e w' => e = .returned (.int .i64 (decdE v most)) ∧ Told mb (decC v most cs i) t w w' := by
  have HD := Lib.hid (X.decode_x v w hv)
  unfold X.DecPost at HD
  have HC := Lib.hid (show decC v most cs i = if decdE v most = 0 then cs.setIfInBounds i (.string (mkS (X.decS v))) else cs from rfl)
  have HV := Lib.hid (show decdE v most = if X.decE v ≠ 0 ∨ X.decS v = [] then 2 else if most < (X.decS v).length then 3 else 0 from rfl)
  generalize decC v most cs i = cs' at HC ⊢
  generalize decdE v most = r at HC HV ⊢
  generalize X.decE v = e0 at HD HV
  generalize X.decS v = s0 at HD HV HC
  have hT := mkS_toList s0
  have hms := mkS_size s0
  have d0 : s0.isEmpty = (s0 == []) := by cases s0 <;> rfl
  have HB := Lib.hid hb
  clear hb
  by_cases he : e0 = 0
  · subst he
    by_cases hs : s0 = []
    · have hr := HV.out
      rw [if_pos (.inr hs)] at hr
      subst hr
      obtain rfl := HC.out
      have d1 : (s0 == []) = true := by rw [hs]; rfl
      clear hs
      go_enter Tryz.func321, Tryz.ntmps321
      go_wp2_with fail
      refine HD.out.mono ?_
      rintro e w1 ⟨rfl, hB⟩
      go_wp2_with fail
      go_ret
      exact ⟨rfl, .of HB.out hB⟩
    · have d1 : (s0 == []) = false := by simpa using hs
      by_cases hl : most < s0.length
      · have hr := HV.out
        rw [if_neg (by simp [hs]), if_pos hl] at hr
        subst hr
        obtain rfl := HC.out
        clear hs
        go_enter Tryz.func321, Tryz.ntmps321
        go_wp2_with fail
        refine HD.out.mono ?_
        rintro e w1 ⟨rfl, hB⟩
        go_wp2_with fail
        go_ret
        exact ⟨rfl, .of HB.out hB⟩
      · have hr := HV.out
        rw [if_neg (by simp [hs]), if_neg hl] at hr
        subst hr
        have hc := HC.out
        rw [if_pos rfl] at hc
        subst hc
        clear hs HC HV
        go_enter Tryz.func321, Tryz.ntmps321
        go_wp2_with fail
        refine HD.out.mono ?_
        rintro e w1 ⟨rfl, hB⟩
        have hT1 := Told.of HB.out hB
        have HT1 := Lib.hid hT1
        have hc1 : w1.cell? ⟨mb, i, none⟩ = some old := (cellOf hT1.2 i).trans hi
        have hf1 := freeOf hT1.2 i
        clear hT1
        go_wp2_with fail
        go_ret
        exact ⟨rfl, HT1.out.set i _⟩
  · have d1 : (e0 != 0) = true := bne_iff_ne.2 he
    have hr := HV.out
    rw [if_pos (.inl he)] at hr
    subst hr
    obtain rfl := HC.out
    clear he
    go_enter Tryz.func321, Tryz.ntmps321
    go_wp2_with fail
    refine HD.out.mono ?_
    rintro e w1 ⟨rfl, hB⟩
    go_wp2_with fail
    go_ret
    exact ⟨rfl, .of HB.out hB⟩

/-- A function value that tells a text's number. -/
def ParseK (k : Nat) (V E : Txt → Int) : Prop := ∀ (l : Txt) (w : World), l.length ≤ 1000000000000 → Calls Tryz.prog k #[.string (mkS l)] w fun e w' => e = .returned (.tuple #[.int .i64 (V l), .int .i64 (E l)]) ∧ Below w.heap.size w w'
/-- What number's closure has. -/
structure NumBox (k : Nat) (mb i j : Nat) (a b : Int) (B : Nat) (w : World) : Prop where
  told : w.cell? ⟨B, 0, none⟩ = some (.pointer (some ⟨mb, i, none⟩))
  said : w.cell? ⟨B + 1, 0, none⟩ = some (.pointer (some ⟨mb, j, none⟩))
  parse : w.cell? ⟨B + 2, 0, none⟩ = some (.func (.func k) #[] #[])
  least : w.cell? ⟨B + 3, 0, none⟩ = some (.int .i64 a)
  most : w.cell? ⟨B + 4, 0, none⟩ = some (.int .i64 b)
def numC (n x : Int) (cs : Array Value) (i j : Nat) : Array Value := if x = 0 then (cs.setIfInBounds i (.int .i64 n)).setIfInBounds j (.bool true) else cs
theorem cell_lt {w : World} {b o : Nat} {v : Value} (h : w.cell? ⟨b, o, none⟩ = some v) : b < w.heap.size := World.block_lt_of_cell? w ⟨b, o, none⟩ h
theorem NumBox.keep {k mb i j B : Nat} {a b : Int} {w w' : World} (h : NumBox k mb i j a b B w) (hk : ∀ c, c < 5 → w'.cell? ⟨B + c, 0, none⟩ = w.cell? ⟨B + c, 0, none⟩) : NumBox k mb i j a b B w' :=
  ⟨(hk 0 (by omega)).trans h.told, (hk 1 (by omega)).trans h.said, (hk 2 (by omega)).trans h.parse, (hk 3 (by omega)).trans h.least, (hk 4 (by omega)).trans h.most⟩
theorem NumBox.below {k mb i j B : Nat} {a b : Int} {w w' : World} (h : NumBox k mb i j a b B w) (hb : Below w.heap.size w w') : NumBox k mb i j a b B w' := by
  have l4 := cell_lt h.most
  exact h.keep fun c hc => hb.cell (p := ⟨B + c, 0, none⟩) (show B + c < w.heap.size by omega)
theorem NumBox.apart {k mb i j B n : Nat} {a b : Int} {w w' : World} (h : NumBox k mb i j a b B w) (hb : Apart mb n w w') (hn : B + 5 ≤ n) (hm : mb < B ∨ B + 5 ≤ mb) : NumBox k mb i j a b B w' :=
  h.keep fun c hc => hb.cell (by omega) (by omega) 0 none
set_option maxHeartbeats 2000000 in
theorem num1_x (k : Nat) (V E : Txt → Int) (hk : ParseK k V E) (ek : ∀ args w, (callFunc k args).run Tryz.prog w = .ok (.enter k args) w) (mb i j B : Nat) (cs : Array Value) (t : TypeId) (a b : Int) (v : Txt) (o1 o2 : Value) (w : World) (hv : v.length ≤ 1000000000000)
    (hN : NumBox k mb i j a b B w) (hb : w.heap[mb]? = some (.cells cs t (0, 0))) (hi : cs[i]? = some o1) (hj : cs[j]? = some o2) (hij : i ≠ j) (hmB : mb < B ∨ B + 5 ≤ mb) :
    Calls Tryz.prog 313 #[.string (mkS v), .pointer (some ⟨B + 2, 0, none⟩), .pointer (some ⟨B + 3, 0, none⟩), .pointer (some ⟨B + 4, 0, none⟩), .pointer (some ⟨B, 0, none⟩), .pointer (some ⟨B + 1, 0, none⟩)] w
      fun e w' => e = .returned (.int .i64 (numE (V v) (E v) a b)) ∧ Told mb (numC (V v) (numE (V v) (E v) a b) cs i j) t w w' := by
  have HK := Lib.hid (hk v w hv)
  clear hk
  have HC := Lib.hid (show numC (V v) (numE (V v) (E v) a b) cs i j = if numE (V v) (E v) a b = 0 then (cs.setIfInBounds i (.int .i64 (V v))).setIfInBounds j (.bool true) else cs from rfl)
  have HE := Lib.hid (show numE (V v) (E v) a b = if E v = 0 then (if (decide (a ≤ V v) && decide (V v ≤ b)) = true then 0 else 1) else E v from rfl)
  generalize numC (V v) (numE (V v) (E v) a b) cs i j = cs' at HC ⊢
  generalize numE (V v) (E v) a b = r at HC HE ⊢
  generalize V v = n at HK HC HE
  generalize E v = x at HK HE
  have HW := Lib.hid (fun w => within_x n a b w)
  generalize (decide (a ≤ n) && decide (n ≤ b)) = q at HW HE
  have h3 := hN.parse
  have HN := Lib.hid hN
  have HB := Lib.hid hb
  clear hN hb
  by_cases hx : x = 0
  · subst hx
    cases q
    · obtain rfl := HE.out
      obtain rfl := HC.out
      go_enter Tryz.func313, Tryz.ntmps313
      go_wp2_with fail
      refine HK.out.mono ?_
      rintro e w1 ⟨rfl, hB⟩
      have h4 := (HN.out.below hB).least
      have h5 := (HN.out.below hB).most
      have HT := Lib.hid (Told.of HB.out hB)
      clear hB h3
      go_wp2_with fail
      refine (HW.out _).mono ?_
      rintro e w' ⟨rfl, rfl⟩
      go_wp2_with fail
      go_ret
      exact ⟨rfl, HT.out⟩
    · obtain rfl := HE.out
      obtain rfl := HC.out
      go_enter Tryz.func313, Tryz.ntmps313
      go_wp2_with fail
      refine HK.out.mono ?_
      rintro e w1 ⟨rfl, hB⟩
      have h1 := (HN.out.below hB).told
      have h2 := (HN.out.below hB).said
      have h4 := (HN.out.below hB).least
      have h5 := (HN.out.below hB).most
      have hT := Told.of HB.out hB
      have HT := Lib.hid hT
      have hci : w1.cell? ⟨mb, i, none⟩ = some o1 := (cellOf hT.2 i).trans hi
      have hcj : w1.cell? ⟨mb, j, none⟩ = some o2 := (cellOf hT.2 j).trans hj
      have hfi := freeOf hT.2 i
      have hfj := freeOf hT.2 j
      have e1 : (w1.setCell ⟨mb, i, none⟩ (.int .i64 n)).cell? ⟨B + 1, 0, none⟩ = some (.pointer (some ⟨mb, j, none⟩)) := (World.cell?_setCell_far _ _ _ _ (show mb ≠ B + 1 by omega)).trans h2
      have e2 : (w1.setCell ⟨mb, j, none⟩ (.bool true)).cell? ⟨B, 0, none⟩ = some (.pointer (some ⟨mb, i, none⟩)) := (World.cell?_setCell_far _ _ _ _ (show mb ≠ B by omega)).trans h1
      have t1 := HT.out.set i (.int .i64 n)
      have t2 := HT.out.set j (.bool true)
      have e3 : (w1.setCell ⟨mb, i, none⟩ (.int .i64 n)).cell? ⟨mb, j, none⟩ = some o2 := (cellOf t1.2 j).trans (by rw [Array.getElem?_setIfInBounds_ne hij]; exact hj)
      have e4 : (w1.setCell ⟨mb, j, none⟩ (.bool true)).cell? ⟨mb, i, none⟩ = some o1 := (cellOf t2.2 i).trans (by rw [Array.getElem?_setIfInBounds_ne (Ne.symm hij)]; exact hi)
      have e5 := freeOf t1.2 j
      have e6 := freeOf t2.2 i
      have G1 := Lib.hid (t1.set j (.bool true))
      have G2 := Lib.hid (show Told mb ((cs.setIfInBounds i (.int .i64 n)).setIfInBounds j (.bool true)) t w _ by rw [Array.setIfInBounds_comm _ _ hij]; exact t2.set i (.int .i64 n))
      clear hB h3 hT t1 t2
      go_wp2_with fail
      refine (HW.out _).mono ?_
      rintro e w' ⟨rfl, rfl⟩
      go_wp2_with fail
      go_region
      all_goals go_wp2_with fail
      all_goals go_ret
      all_goals first | exact ⟨rfl, G1.out.drew⟩ | exact ⟨rfl, G2.out.drew⟩
  · have d1 : (x == 0) = false := beq_eq_false_iff_ne.2 hx
    have hr := HE.out
    rw [if_neg hx] at hr
    subst hr
    have hc := HC.out
    rw [if_neg hx] at hc
    subst hc
    go_enter Tryz.func313, Tryz.ntmps313
    go_wp2_with fail
    refine HK.out.mono ?_
    rintro e w1 ⟨rfl, hB⟩
    have HT := Lib.hid (Told.of HB.out hB)
    clear hB h3
    go_wp2_with fail
    go_ret
    exact ⟨rfl, HT.out⟩
/-- A closure's boxes, and the block that it tells. -/
structure BW (W : World) (B B2 mb : Nat) (p p2 : Value) (cs : Array Value) (t : TypeId) (w : World) : Prop where
  box : w.cell? ⟨B, 0, none⟩ = some p
  box2 : w.cell? ⟨B2, 0, none⟩ = some p2
  blk : Told mb cs t W w
theorem BW.drew {W w : World} {B B2 mb : Nat} {p p2 : Value} {cs : Array Value} {t : TypeId} (h : BW W B B2 mb p p2 cs t w) : BW W B B2 mb p p2 cs t w.drew := ⟨h.box, h.box2, h.blk.drew⟩
theorem BW.next {W w w' : World} {B B2 mb : Nat} {p p2 : Value} {cs : Array Value} {t : TypeId} (h : BW W B B2 mb p p2 cs t w) (hb : Below w.heap.size w w') : BW W B B2 mb p p2 cs t w' :=
  ⟨(hb.cell (p := ⟨B, 0, none⟩) (cell_lt h.box)).trans h.box, (hb.cell (p := ⟨B2, 0, none⟩) (cell_lt h.box2)).trans h.box2, h.blk.then (.of h.blk.2 hb)⟩
theorem BW.set {W w : World} {B B2 mb : Nat} {p p2 : Value} {cs : Array Value} {t : TypeId} (h : BW W B B2 mb p p2 cs t w) (h1 : mb ≠ B) (h2 : mb ≠ B2) (i : Nat) (v : Value) : BW W B B2 mb p p2 (cs.setIfInBounds i v) t (w.setCell ⟨mb, i, none⟩ v) :=
  ⟨(World.cell?_setCell_far _ _ _ _ h1).trans h.box, (World.cell?_setCell_far _ _ _ _ h2).trans h.box2, h.blk.set i v⟩
theorem BW.at {W w : World} {B B2 mb : Nat} {p p2 : Value} {cs : Array Value} {t : TypeId} (h : BW W B B2 mb p p2 cs t w) {i : Nat} {o : Value} (hi : cs[i]? = some o) : w.cell? ⟨mb, i, none⟩ = some o ∧ w.frozen? ⟨mb, i, none⟩ = false :=
  ⟨(cellOf h.blk.2 i).trans hi, freeOf h.blk.2 i⟩
theorem BW.capB {W w : World} {B B2 mb i : Nat} {p p2 o : Value} {cs : Array Value} {t : TypeId} (h : Hid (BW W B B2 mb p p2 cs t w)) (hi : cs[i]? = some o) (v : Txt) (hv : v.length ≤ 1000000000000) :
    Calls Tryz.prog 299 #[.string (mkS v)] w fun e w' => e = .returned (.string (mkS (upL v))) ∧ w'.cell? ⟨B, 0, none⟩ = some p ∧ w'.cell? ⟨mb, i, none⟩ = some o ∧ w'.frozen? ⟨mb, i, none⟩ = false ∧ Hid (BW W B B2 mb p p2 cs t w') :=
  (cap_x v w hv).mono fun _ _ ⟨he, hb⟩ => ⟨he, (h.out.next hb).box, ((h.out.next hb).at hi).1, ((h.out.next hb).at hi).2, Lib.hid (h.out.next hb)⟩
theorem keep_far {w : World} {B mb : Nat} {p : Value} (i : Nat) (v : Value) (h : mb ≠ B) (hb : w.cell? ⟨B, 0, none⟩ = some p) : (w.setCell ⟨mb, i, none⟩ v).cell? ⟨B, 0, none⟩ = some p := (World.cell?_setCell_far _ _ _ _ h).trans hb
/-- A function value that tells of a text whether it is a name. -/
def IsK (k : Nat) (p : Txt → Bool) : Prop := ∀ (l : Txt) (w : World), Calls Tryz.prog k #[.string (mkS l)] w fun e w' => e = .returned (.bool (p l)) ∧ w = w'
set_option maxHeartbeats 2000000 in
theorem name1_x (k : Nat) (is : Txt → Bool) (hk : IsK k is) (ek : ∀ args w, (callFunc k args).run Tryz.prog w = .ok (.enter k args) w) (mb i B : Nat) (cs : Array Value) (t : TypeId) (v : Txt) (o : Value) (w : World) (hv : v.length ≤ 1000000000000)
    (h0 : w.cell? ⟨B, 0, none⟩ = some (.pointer (some ⟨mb, i, none⟩))) (h1 : w.cell? ⟨B + 1, 0, none⟩ = some (.func (.func k) #[] #[])) (hb : w.heap[mb]? = some (.cells cs t (0, 0))) (hi : cs[i]? = some o) (hm : mb ≠ B) (hm1 : mb ≠ B + 1) :
    Calls Tryz.prog 316 #[.string (mkS v), .pointer (some ⟨B, 0, none⟩), .pointer (some ⟨B + 1, 0, none⟩)] w
      fun e w' => e = .returned (.int .i64 (if is (upL v) then 0 else 2)) ∧ Told mb (cs.setIfInBounds i (.string (mkS (upL v)))) t w w' := by
  have HW := Lib.hid (show BW w B (B + 1) mb (.pointer (some ⟨mb, i, none⟩)) (.func (.func k) #[] #[]) cs t w from ⟨h0, h1, .of hb (Below.refl _ _)⟩)
  have HM := Lib.hid hm
  have HM1 := Lib.hid hm1
  have HI := Lib.hid hi
  have HK := Lib.hid (fun w => hk (upL v) w)
  clear hk hb hm hm1 hi
  generalize is (upL v) = q at HK ⊢
  generalize hr : (if q = true then (0 : Int) else 2) = r
  have HR := Lib.hid hr
  clear hr
  go_enter Tryz.func316, Tryz.ntmps316
  go_wp2_with fail
  go_region_held3 (fun wr => wr.cell? ⟨B, 0, none⟩ = some (.pointer (some ⟨mb, i, none⟩)))
    (first | exact HW.out.drew.box | assumption | exact keep_far _ _ HM.out (by assumption))
    (first | (go_at_call 299; (with_reducible refine (BW.capB (Lib.hid HW.out.drew) HI.out v hv).mono ?_); rintro e w1 ⟨rfl, g0, g1, g2, g3⟩))
  have HS := Lib.hid (g3.out.set HM.out HM1.out i (.string (mkS (upL v))))
  have hlen : i < cs.size := (Array.getElem?_eq_some_iff.1 HI.out).1
  have c1 := HS.out.box
  have c2 := HS.out.box2
  have c3 := (HS.out.at (i := i) (o := .string (mkS (upL v))) (by rw [Array.getElem?_setIfInBounds]; simp [hlen])).1
  clear g0 g1 g2 g3
  have HT := Lib.hid HS.out.blk
  clear HS
  cases q
  · obtain rfl : 2 = r := HR.out
    go_wp2_with fail
    go_quiet (exact Calls.quiet_of_same (still (HK.out _)))
    go_wp2_with fail
    go_ret
    exact ⟨rfl, HT.out.drewN _⟩
  · obtain rfl : 0 = r := HR.out
    go_wp2_with fail
    go_quiet (exact Calls.quiet_of_same (still (HK.out _)))
    go_wp2_with fail
    go_ret
    exact ⟨rfl, HT.out.drewN _⟩
theorem whole_p : ParseK 317 whV whE := whole_x
theorem signed_p : ParseK 322 sgV sgE := signed_x
theorem isBody_p : IsK 318 isBody := isBody_x
theorem isRet_p : IsK 319 isRet := isRet_x
theorem env_x (mb Bm : Nat) (cs : Array Value) (v : Txt) (o : Value) (w : World) (hv : v.length ≤ 1000000000) (h0 : w.cell? ⟨Bm, 0, none⟩ = some (.pointer (some ⟨mb, 0, none⟩))) (hb : w.heap[mb]? = some (.cells cs 49 (0, 0))) (hi : cs[12]? = some o) :
    Calls Tryz.prog 320 #[.string (mkS v), .pointer (some ⟨Bm, 0, none⟩)] w fun e w' => e = .returned (.int .i64 (decdE v 100)) ∧ Told mb (decC v 100 cs 12) 49 w w' := by
  have HD := Lib.hid (pdec_x mb 12 cs 49 v 100 o w hv hb hi)
  clear hb hi
  go_enter Tryz.func320, Tryz.ntmps320
  go_wp2_with fail
  refine HD.out.mono ?_
  rintro e w1 ⟨rfl, hT⟩
  go_wp2_with fail
  go_ret
  exact ⟨rfl, hT⟩
theorem Told.cells {mb : Nat} {cs cs' : Array Value} {t : TypeId} {w w' : World} (h : Told mb cs t w w') (e : cs = cs') : Told mb cs' t w w' := e ▸ h
theorem BW.parse {W w : World} {B B2 mb i : Nat} {p p2 o : Value} {cs : Array Value} {t : TypeId} (h : Hid (BW W B B2 mb p p2 cs t w)) (hi : cs[i]? = some o) (hR : Hid (∀ w, Hid (BW W B B2 mb p p2 cs t w) → Ready w)) (v : Txt) (hv : v.length ≤ 1000000000000) :
    Calls Tryz.prog 324 #[.string (mkS v)] w fun e w' => e = .returned (.tuple #[.int .i64 (parseV v), .int .i64 (parseE v)]) ∧ w'.cell? ⟨B, 0, none⟩ = some p ∧ w'.cell? ⟨mb, i, none⟩ = some o ∧ w'.frozen? ⟨mb, i, none⟩ = false ∧ Hid (BW W B B2 mb p p2 cs t w') :=
  (parse_x v w hv (hR.out w h)).mono fun _ _ ⟨he, hb⟩ => ⟨he, (h.out.next hb).box, ((h.out.next hb).at hi).1, ((h.out.next hb).at hi).2, Lib.hid (h.out.next hb)⟩
set_option maxHeartbeats 2000000 in
theorem hu_x (mb Bm : Nat) (cs : Array Value) (v : Txt) (o o2 : Value) (w : World) (hv : v.length ≤ 1000000000) (hR : ∀ w', BW w Bm Bm mb (.pointer (some ⟨mb, 0, none⟩)) (.pointer (some ⟨mb, 0, none⟩)) cs 49 w' → Ready w')
    (h0 : w.cell? ⟨Bm, 0, none⟩ = some (.pointer (some ⟨mb, 0, none⟩))) (hb : w.heap[mb]? = some (.cells cs 49 (0, 0))) (hi : cs[7]? = some o) (hj : cs[2]? = some o2) (hm : mb ≠ Bm) :
    Calls Tryz.prog 323 #[.string (mkS v), .pointer (some ⟨Bm, 0, none⟩)] w fun e w' => e = .returned (.int .i64 (parseE (upL v))) ∧ Told mb ((cs.setIfInBounds 7 (.int .i64 (parseV (upL v)))).setIfInBounds 2 (.bool true)) 49 w w' := by
  have HW := Lib.hid (show BW w Bm Bm mb (.pointer (some ⟨mb, 0, none⟩)) (.pointer (some ⟨mb, 0, none⟩)) cs 49 w from ⟨h0, h0, .of hb (Below.refl _ _)⟩)
  have HM := Lib.hid hm
  have HI := Lib.hid hi
  have HR := Lib.hid (fun (w' : World) (h : Hid (BW w Bm Bm mb (.pointer (some ⟨mb, 0, none⟩)) (.pointer (some ⟨mb, 0, none⟩)) cs 49 w')) => hR w' h.out)
  have HL := Lib.hid (show (upL v).length ≤ 1000000000000 by rw [upL_length]; omega)
  have HJ := Lib.hid hj
  clear hb hm hi hR hj
  go_enter Tryz.func323, Tryz.ntmps323
  go_wp2_with fail
  go_region_held3 (fun wr => wr.cell? ⟨Bm, 0, none⟩ = some (.pointer (some ⟨mb, 0, none⟩)))
    (first | exact HW.out.drew.box | assumption | exact keep_far _ _ HM.out (by assumption))
    (first
      | (go_at_call 299; (with_reducible refine (BW.capB (i := 7) (Lib.hid HW.out.drew) HI.out v (by omega)).mono ?_); rintro e w1 ⟨rfl, g0, g1, g2, g3⟩)
      | (go_at_call 324; (with_reducible refine (BW.parse (i := 7) (W := w) (B := Bm) (B2 := Bm) (mb := mb) (p := .pointer (some ⟨mb, 0, none⟩)) (p2 := .pointer (some ⟨mb, 0, none⟩)) (t := 49) g3 HI.out HR (upL v) HL.out).mono ?_); rintro e w2 ⟨rfl, f0, f1, f2, f3⟩))
  all_goals
    have HS := Lib.hid (f3.out.set HM.out HM.out 7 (.int .i64 (parseV (upL v))))
    have c1 := HS.out.box
    obtain ⟨c2, c3⟩ := HS.out.at (i := 2) (o := o2) (by rw [Array.getElem?_setIfInBounds_ne (by decide)]; exact HJ.out)
    clear g0 g1 g2 g3 f0 f1 f2 f3
    go_wp2_with fail
    go_ret
    exact ⟨rfl, HS.out.blk.set 2 _⟩
/-- What BY does: the block's cells behind it. -/
def byC (v : Txt) (cs : Array Value) : Array Value :=
  if isMode (upL (postC 59 v)) then numC (sgV (preC 59 v)) (byE v) (cs.setIfInBounds 13 (.string (mkS (upL (postC 59 v))))) 8 3 else cs.setIfInBounds 13 (.string (mkS (upL (postC 59 v))))
/-- number's closures are made. -/
theorem number_mk (a1 a2 f : Value) (n m : Int) (w : World) (h1 : ∃ p, a1 = .pointer (some p)) (h2 : ∃ p, a2 = .pointer (some p)) (h3 : ∃ k, f = .func (.func k) #[] #[]) :
    Calls Tryz.prog 312 #[a1, a2, f, .int .i64 n, .int .i64 m] w fun e w' => e = .returned (.func (.func 313) #[] #[.pointer (some ⟨w.heap.size + 2, 0, none⟩), .pointer (some ⟨w.heap.size + 3, 0, none⟩), .pointer (some ⟨w.heap.size + 4, 0, none⟩), .pointer (some ⟨w.heap.size, 0, none⟩), .pointer (some ⟨w.heap.size + 1, 0, none⟩)]) ∧
      w' = ((((w.alloc (.cells #[a1] 237)).alloc (.cells #[a2] 328)).alloc (.cells #[f] 329)).alloc (.cells #[.int .i64 n] 3)).alloc (.cells #[.int .i64 m] 3) := by
  obtain ⟨p1, rfl⟩ := h1
  obtain ⟨p2, rfl⟩ := h2
  obtain ⟨k, rfl⟩ := h3
  go_enter Tryz.func312, Tryz.ntmps312
  go_wp2_with fail
  go_ret
  exact ⟨rfl, rfl⟩
end Go.Proofs.YtbecdncnidcmdaaGreatDoor
