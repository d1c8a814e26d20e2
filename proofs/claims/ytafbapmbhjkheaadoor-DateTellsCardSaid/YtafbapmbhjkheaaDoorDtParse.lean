/-
  The walks of package date's Parse and its closure.
-/
import Derived.Test.YtafbapmbhjkheaaDoorDtLike
namespace Go.Proofs.YtafbapmbhjkheaaDoor
open Go.RowKit
/-- Block p holds the number j; nothing else has turned. -/
structure Moved (p j : Nat) (w w' : World) : Prop where
  os : w'.os = w.os
  tape : w'.tape = w.tape
  output : w'.output = w.output
  size : w'.heap.size = w.heap.size
  other : ∀ k, k ≠ p → w'.heap[k]? = w.heap[k]?
  here : w'.heap[p]? = some (.cells #[.int .i64 (j : Int)] 3 (0, 0))
theorem Moved.refl {p j : Nat} {w : World} (h : w.heap[p]? = some (.cells #[.int .i64 (j : Int)] 3 (0, 0))) : Moved p j w w := ⟨rfl, rfl, rfl, rfl, fun _ _ => rfl, h⟩
theorem Moved.trans {p j k : Nat} {a b c : World} (h : Moved p j a b) (g : Moved p k b c) : Moved p k a c :=
  ⟨g.os.trans h.os, g.tape.trans h.tape, g.output.trans h.output, g.size.trans h.size, fun i hi => (g.other i hi).trans (h.other i hi), g.here⟩
theorem Moved.set {p j : Nat} {w : World} (h : w.heap[p]? = some (.cells #[.int .i64 (j : Int)] 3 (0, 0))) (k : Nat) : Moved p k w (w.setCell ⟨p, 0, none⟩ (.int .i64 (k : Int))) :=
  ⟨rfl, rfl, rfl, by simp [World.setCell], fun i hi => Below.heap_setCell w ⟨p, 0, none⟩ _ i hi, setOf h 0 _⟩
theorem Moved.below {p j B : Nat} {w w' : World} (h : Moved p j w w') (hB : B ≤ p) : Below B w w' := ⟨h.os, h.tape, h.output, Nat.le_of_eq h.size.symm, fun k hk => h.other k (by omega)⟩
def NumPost (p j : Nat) (v : Int) (w : World) (e : Ending) (w' : World) : Prop := e = .returned (.int .i64 v) ∧ Moved p j w w'
theorem run_mono {l : List UInt8} {a k j : Nat} (h : Run l a k) (hj : j ≤ k) : Run l a j := fun i hi => h i (by omega)
theorem fld_0 (l : List UInt8) (a : Nat) : fld l a 0 = 0 := by simp [fld, fldL, valX]
theorem fld_succ {l : List UInt8} {a k : Nat} {x : UInt8} (h : l[a + k]? = some x) (hd : digB x = true) : fld l a (k + 1) = fld l a k * 10 + ((x.toNat : Int) - 48) := by
  have := digB_bd hd
  unfold fld
  rw [fldL_succ h, valX_snoc]
  omega
theorem fld_lt {l : List UInt8} {a k : Nat} (h : Run l a k) (hk : k ≤ 4) : 0 ≤ fld l a k ∧ fld l a k ≤ 9999 := by
  have := run_bd h
  have : 10 ^ k ≤ 10 ^ 4 := Nat.pow_le_pow_right (by omega) hk
  unfold fld
  omega
set_option maxHeartbeats 2000000 in
theorem number_x (p q a k : Nat) (l : List UInt8) (w : World) (hp : w.heap[p]? = some (.cells #[.int .i64 (a : Int)] 3 (0, 0))) (hq : w.heap[q]? = some (.cells #[.string (mkS l)] 9 (0, 0))) (hpq : q ≠ p) (ha : a ≤ 1000) (hk : k ≤ 4)
    (hr : Run l a k) (he : Ends l (a + k)) :
    Calls Tryd.prog 27 #[.pointer (some ⟨p, 0, none⟩), .pointer (some ⟨q, 0, none⟩)] w (NumPost p (a + k + 1) (fld l a k) w) := by
  have hms := mkS_size l
  have HP := Lib.hid (Moved.refl hp)
  have HQ := Lib.hid hq
  have HR := Lib.hid hr
  have HE := Lib.hid he
  clear hp hq hr he
  go_enter Tryd.func27, Tryd.ntmps27
  go_wp2_with fail
  go_loopg [3] k (fun g n wr => ∃ (j i : Nat), j + g = k ∧ n = .int .i64 (fld l a j) ∧ Hid (i = a + j) ∧ Hid (Moved p i w wr))
  case atStart => exact ⟨0, a, by omega, by rw [fld_0], rfl, HP.out⟩
  case round =>
    obtain ⟨j, i, hjg, rfl, HI, HM⟩ := hrel
    have hi1000 : i ≤ 1004 := by have := HI.out; omega
    have hc0 := cellOf HM.out.here 0
    have hf0 := freeOf HM.out.here 0
    have hq1 : wr.cell? ⟨q, 0, none⟩ = some (.string (mkS l)) := cellOf ((HM.out.other q hpq).trans HQ.out) 0
    have HS := Lib.hid (show Moved p (i + 1) w (wr.setCell ⟨p, 0, none⟩ (.int .i64 ((i : Int) + 1))) from HM.out.trans (Moved.set HM.out.here (i + 1)))
    have hfb := fld_lt (run_mono HR.out (show j ≤ k by omega)) (by omega)
    cases gk with
    | zero =>
      have HV := Lib.hid (show j = k by omega)
      by_cases hlt : i < l.length
      · obtain ⟨x, hx1, hx2⟩ := get_at hlt
        have hd : digB x = false := HE.out x (by rw [← HV.out, ← HI.out]; exact hx1)
        have HG := Lib.hid (digit_x x wr)
        rw [hd] at HG
        clear hx1 hd
        go_wp2_with fail
        refine HG.out.mono ?_
        rintro e w' ⟨rfl, rfl⟩
        go_wp2_with fail
        go_ret
        exact ⟨ret_int (by rw [HV.out]), by rw [← HV.out, ← HI.out]; exact HS.out⟩
      · go_wp2_with fail
        go_ret
        exact ⟨ret_int (by rw [HV.out]), by rw [← HV.out, ← HI.out]; exact HS.out⟩
    | succ g =>
      obtain ⟨x, hx, hd⟩ := HR.out j (by omega)
      rw [← HI.out] at hx
      have hlt : i < l.length := (List.getElem?_eq_some_iff.1 hx).1
      have hx2 : (mkS l)[i]'(by omega) = x := mkS_get (by omega) hx
      have hxb := digB_bd hd
      have HF := Lib.hid (fld_succ (l := l) (a := a) (k := j) (by rw [← HI.out]; exact hx) hd)
      have HG := Lib.hid (digit_x x wr)
      rw [hd] at HG
      generalize fld l a j = v at HF hfb
      clear hx hd
      go_wp2_with fail
      refine HG.out.mono ?_
      rintro e w' ⟨rfl, rfl⟩
      go_wp2_with fail
      go_roundg g
      case measure => omega
      case rel => exact ⟨j + 1, i + 1, by omega, by rw [HF.out], by show _ = _; rw [HI.out]; omega, HS.out⟩
/-- What holds in Parse: the text in its box, the place in its own. -/
structure PR (W0 : World) (l : List UInt8) (k : Nat) (w : World) : Prop where
  box : w.heap[W0.heap.size]? = some (.cells #[.string (mkS l)] 9 (0, 0))
  here : w.heap[W0.heap.size + 1]? = some (.cells #[.int .i64 (k : Int)] 3 (0, 0))
  below : Below W0.heap.size W0 w
theorem PR.next {W0 w w' : World} {l : List UInt8} {k : Nat} (h : PR W0 l k w) (hb : Below w.heap.size w w') : PR W0 l k w' :=
  ⟨(hb.block _ (ltOf h.box)).trans h.box, (hb.block _ (ltOf h.here)).trans h.here, below_next h.below hb⟩
def PNum (W0 : World) (l : List UInt8) (a b : Nat) (v : Int) : Prop := ∀ w, PR W0 l a w → Calls Tryd.prog 27 #[.pointer (some ⟨W0.heap.size + 1, 0, none⟩), .pointer (some ⟨W0.heap.size, 0, none⟩)] w fun e w' => e = .returned (.int .i64 v) ∧ PR W0 l b w'
theorem num_x (W0 : World) (l : List UInt8) (a k b : Nat) (ha : a ≤ 1000) (hk : k ≤ 4) (hb : b = a + k + 1) (hr : Run l a k) (he : Ends l (a + k)) : PNum W0 l a b (fld l a k) := by
  subst hb
  intro w h
  refine (number_x (W0.heap.size + 1) W0.heap.size a k l w h.here h.box (by omega) ha hk hr he).mono ?_
  rintro e w' ⟨he, hm⟩
  exact ⟨he, (hm.other _ (by omega)).trans h.box, hm.here, h.below.trans (hm.below (by omega))⟩
theorem run_0 (l : List UInt8) (a : Nat) : Run l a 0 := fun j hj => by omega
theorem ends_ge {l : List UInt8} {a : Nat} (h : l.length ≤ a) : Ends l a := fun x hx => by rw [List.getElem?_eq_none h] at hx; cases hx
theorem Shp.zones {l : List UInt8} (h : Shp l) (W0 : World) : ∃ a b, PNum W0 l 20 a (fld l 20 2) ∧ PNum W0 l a b (fld l 23 2) := by
  rcases h.zone with ⟨h1, _⟩ | ⟨_, _, h2, h3, h4, h5⟩
  · refine ⟨21, 22, ?_, ?_⟩
    · have := num_x W0 l 20 0 21 (by omega) (by omega) rfl (run_0 _ _) (ends_ge (by omega))
      rwa [fld_0, ← fld_nil (l := l) (a := 20) (by omega) 2] at this
    · have := num_x W0 l 21 0 22 (by omega) (by omega) rfl (run_0 _ _) (ends_ge (by omega))
      rwa [fld_0, ← fld_nil (l := l) (a := 23) (by omega) 2] at this
  · exact ⟨23, 26, num_x W0 l 20 2 23 (by omega) (by omega) rfl h2 h3, num_x W0 l 23 2 26 (by omega) (by omega) rfl h4 h5⟩
def ParsePost (l : List UInt8) (w : World) (e : Ending) (w' : World) : Prop := e = .returned (.tuple #[.int .i64 (parseV l), .int .i64 (parseE l)]) ∧ Below w.heap.size w w'
theorem parse_end {l : List UInt8} {v e : Int} {w w' : World} (hv : parseV l = v) (he : parseE l = e) (hb : Below w.heap.size w w') : ParsePost l w (.returned (.tuple #[.int .i64 v, .int .i64 e])) w' := ⟨by rw [hv, he], hb⟩
theorem bad_of {l : List UInt8} (hf : formedX l = true) (h : okX l = false) : parseV l = 0 ∧ parseE l = 1 := by
  unfold parseV parseE
  rw [hf, h]
  exact ⟨rfl, rfl⟩
theorem good_of {l : List UInt8} (hf : formedX l = true) (h : okX l = true) : parseV l = parseT l ∧ parseE l = 0 := by
  unfold parseV parseE
  rw [hf, h]
  exact ⟨rfl, rfl⟩
set_option maxHeartbeats 4000000 in
theorem parse_no (l : List UInt8) (w : World) (hl : l.length ≤ 1000000000000) (hf : formedX l = false) : Calls Tryd.prog 13 #[.string (mkS l)] w (ParsePost l w) := by
  have HF := Lib.hid (fun w => formed_x l w hl)
  have HV := Lib.hid (show parseV l = 0 ∧ parseE l = 2 by unfold parseV parseE; rw [hf]; exact ⟨rfl, rfl⟩)
  rw [hf] at HF
  clear hf
  go_enter Tryd.func13, Tryd.ntmps13
  go_wp2_with fail
  refine (HF.out _).mono ?_
  rintro e w' ⟨rfl, k1, rfl⟩
  go_wp2_with fail
  go_ret2
  exact parse_end HV.out.1 HV.out.2 (below_box _ _ _)
theorem pr_new (w : World) (l : List UInt8) (k : Nat) : PR w l 0 (((w.alloc (.cells #[.string (mkS l)] 9)).drewN k).alloc (.cells #[.int .i64 0] 3)) := by
  have h0 := newOf w (.cells #[.string (mkS l)] 9)
  have h1 := newOf ((w.alloc (.cells #[.string (mkS l)] 9)).drewN k) (.cells #[.int .i64 0] 3)
  have s1 : ((w.alloc (.cells #[.string (mkS l)] 9)).drewN k).heap.size = w.heap.size + 1 := by simp
  rw [s1] at h1
  refine ⟨?_, h1, ?_⟩
  · rw [Below.heap_alloc _ _ _ (by rw [s1]; omega)]; exact h0
  · exact (below_box w _ k).alloc (by rw [s1]; omega) _
set_option maxHeartbeats 8000000 in
theorem parse_yes (l : List UInt8) (w : World) (hl : l.length ≤ 1000000000000) (hR : Ready w) (hf : formedX l = true) : Calls Tryd.prog 13 #[.string (mkS l)] w (ParsePost l w) := by
  have hS := shp hf
  have HF := Lib.hid (fun w => formed_x l w hl)
  rw [hf] at HF
  have hms := mkS_size l
  have hlen : 20 ≤ l.length := hS.len.1
  have hlen2 : l.length ≤ 25 := hS.len.2
  obtain ⟨z, hz1, hz2⟩ := get_at (show 19 < l.length by omega)
  obtain ⟨a7, a8, hn7, hn8⟩ := hS.zones w
  have N1 := Lib.hid (num_x w l 0 4 5 (by omega) (by omega) rfl hS.r0 hS.e0)
  have N2 := Lib.hid (num_x w l 5 2 8 (by omega) (by omega) rfl hS.r5 hS.e5)
  have N3 := Lib.hid (num_x w l 8 2 11 (by omega) (by omega) rfl hS.r8 hS.e8)
  have N4 := Lib.hid (num_x w l 11 2 14 (by omega) (by omega) rfl hS.r11 hS.e11)
  have N5 := Lib.hid (num_x w l 14 2 17 (by omega) (by omega) rfl hS.r14 hS.e14)
  have N6 := Lib.hid (num_x w l 17 2 20 (by omega) (by omega) rfl hS.r17 hS.e17)
  have N7 := Lib.hid hn7
  have N8 := Lib.hid hn8
  have b4 := fld_bd2 hS.r11
  have b5 := fld_bd2 hS.r14
  have b6 := fld_bd2 hS.r17
  have b7 := hS.z20
  have b8 := hS.z23
  have HOK := Lib.hid (show okX l = (vldB (fld l 0 4) (fld l 5 2) (fld l 8 2) && secB (fld l 11 2) (fld l 14 2) (fld l 17 2) && secB (fld l 20 2) (fld l 23 2) 0 && timB (parseT l)) from rfl)
  have HPT := Lib.hid (show parseT l = numD (fld l 0 4) (fld l 5 2) (fld l 8 2) * 86400 + (fld l 11 2 * 3600 + fld l 14 2 * 60 + fld l 17 2) - sgnX l * (fld l 20 2 * 3600 + fld l 23 2 * 60) from rfl)
  have HSG := Lib.hid (show sgnX l = if z = 45 then -1 else 1 by unfold sgnX; rw [hz1]; simp)
  have HBD := Lib.hid (bad_of hf)
  have HGD := Lib.hid (good_of hf)
  generalize fld l 0 4 = Y at N1 HOK HPT
  generalize fld l 5 2 = M at N2 HOK HPT
  generalize fld l 8 2 = D at N3 HOK HPT
  generalize fld l 11 2 = H at N4 HOK HPT b4
  generalize fld l 14 2 = I at N5 HOK HPT b5
  generalize fld l 17 2 = S at N6 HOK HPT b6
  generalize fld l 20 2 = ZH at N7 HOK HPT b7 hn7
  generalize fld l 23 2 = ZM at N8 HOK HPT b8 hn8
  have HDY := Lib.hid (fun (w' : World) (h : Below w.heap.size w w') => days_x Y M D w' (hR.below h))
  have HC := Lib.hid (fun (w' : World) => sec_x H I S w' (by omega) (by omega) (by omega) (by omega) (by omega) (by omega))
  have HZ := Lib.hid (fun (w' : World) => sec_x ZH ZM 0 w' (by omega) (by omega) (by omega) (by omega) (by omega) (by omega))
  unfold DaysPost at HDY
  have HDV := Lib.hid (show daysV Y M D = (if vldB Y M D then numD Y M D else 0) from rfl)
  have HDE := Lib.hid (show daysE Y M D = (if vldB Y M D then 0 else 1) from rfl)
  have HCV := Lib.hid (show secV H I S = (if secB H I S then H * 3600 + I * 60 + S else 0) from rfl)
  have HCE := Lib.hid (show secE H I S = (if secB H I S then 0 else 1) from rfl)
  have HZV := Lib.hid (show secV ZH ZM 0 = (if secB ZH ZM 0 then ZH * 3600 + ZM * 60 + 0 else 0) from rfl)
  have HZE := Lib.hid (show secE ZH ZM 0 = (if secB ZH ZM 0 then 0 else 1) from rfl)
  have hnb : vldB Y M D = true → 0 ≤ numD Y M D ∧ numD Y M D ≤ 2932896 := fun h => (vldB_iff.1 h).num_bd
  have HNB := Lib.hid hnb
  generalize daysV Y M D = dv at HDY HDV
  generalize daysE Y M D = de at HDY HDE
  generalize secV H I S = cv at HC HCV
  generalize secE H I S = ce at HC HCE
  generalize secV ZH ZM 0 = zv at HZ HZV
  generalize secE ZH ZM 0 = ze at HZ HZE
  generalize numD Y M D = nd at HDV HNB HPT
  generalize vldB Y M D = vb at HDV HDE HNB HOK
  generalize secB H I S = cb at HCV HCE HOK
  generalize secB ZH ZM 0 = zb at HZV HZE HOK
  clear hf hS hz1 hn7 hn8 hnb hR
  go_enter Tryd.func13, Tryd.ntmps13
  go_wp2_with fail
  refine (HF.out _).mono ?_
  rintro e w' ⟨rfl, k1, rfl⟩
  go_wp2_with fail
  refine (N1.out _ (pr_new w l k1)).mono ?_
  rintro e w1 ⟨rfl, hp1⟩
  have P1 := Lib.hid hp1
  clear hp1
  go_wp2_with fail
  refine (N2.out _ P1.out).mono ?_
  rintro e w2 ⟨rfl, hp2⟩
  have P2 := Lib.hid hp2
  clear hp2
  go_wp2_with fail
  refine (N3.out _ P2.out).mono ?_
  rintro e w3 ⟨rfl, hp3⟩
  have P3 := Lib.hid hp3
  clear hp3
  go_wp2_with fail
  refine (HDY.out _ P3.out.below).mono ?_
  rintro e w4 ⟨rfl, hb4⟩
  have P4 := Lib.hid (P3.out.next hb4)
  clear hb4
  go_wp2_with fail
  refine (N4.out _ P4.out).mono ?_
  rintro e w5 ⟨rfl, hp5⟩
  have P5 := Lib.hid hp5
  clear hp5
  go_wp2_with fail
  refine (N5.out _ P5.out).mono ?_
  rintro e w6 ⟨rfl, hp6⟩
  have P6 := Lib.hid hp6
  clear hp6
  go_wp2_with fail
  refine (N6.out _ P6.out).mono ?_
  rintro e w7 ⟨rfl, hp7⟩
  have P7 := Lib.hid hp7
  clear hp7
  go_wp2_with fail
  refine (HC.out _).mono ?_
  rintro e w7b ⟨rfl, rfl⟩
  go_wp2_with fail
  refine (N7.out _ P7.out).mono ?_
  rintro e w8 ⟨rfl, hp8⟩
  have P8 := Lib.hid hp8
  clear hp8
  go_wp2_with fail
  refine (N8.out _ P8.out).mono ?_
  rintro e w9 ⟨rfl, hp9⟩
  have P9 := Lib.hid hp9
  clear hp9
  go_wp2_with fail
  refine (HZ.out _).mono ?_
  rintro e w9b ⟨rfl, rfl⟩
  have hbox := cellOf P9.out.box 0
  cases vb
  · obtain rfl : de = 1 := HDE.out
    go_wp2_with fail
    go_ret2
    exact parse_end (HBD.out (by rw [HOK.out]; rfl)).1 (HBD.out (by rw [HOK.out]; rfl)).2 P9.out.below
  · obtain rfl : de = 0 := HDE.out
    cases cb
    · obtain rfl : ce = 1 := HCE.out
      go_wp2_with fail
      go_ret2
      exact parse_end (HBD.out (by rw [HOK.out]; rfl)).1 (HBD.out (by rw [HOK.out]; rfl)).2 P9.out.below
    · obtain rfl : ce = 0 := HCE.out
      cases zb
      · obtain rfl : ze = 1 := HZE.out
        go_wp2_with fail
        go_ret2
        exact parse_end (HBD.out (by rw [HOK.out]; rfl)).1 (HBD.out (by rw [HOK.out]; rfl)).2 P9.out.below
      · obtain rfl : ze = 0 := HZE.out
        obtain rfl : dv = nd := HDV.out
        obtain rfl : cv = H * 3600 + I * 60 + S := HCV.out
        obtain rfl : zv = ZH * 3600 + ZM * 60 := by have := HZV.out; simp only [if_true] at this; omega
        have hnb := HNB.out rfl
        by_cases h45 : z = 45
        · have HT := Lib.hid (show parseT l = dv * 86400 + (H * 3600 + I * 60 + S) + (ZH * 3600 + ZM * 60) by rw [HPT.out, HSG.out, if_pos h45]; omega)
          have HM := Lib.hid (fun w => time_x (dv * 86400 + (H * 3600 + I * 60 + S) + (ZH * 3600 + ZM * 60)) w)
          rw [HT.out] at HOK HGD
          have hb45 : ((z.toNat : Int) == 45) = true := by rw [h45]; rfl
          clear h45
          generalize timB (dv * 86400 + (H * 3600 + I * 60 + S) + (ZH * 3600 + ZM * 60)) = tb at HOK HM
          cases tb
          · go_wp2_with fail
            refine (HM.out _).mono ?_
            rintro e w10 ⟨rfl, rfl⟩
            go_wp2_with fail
            go_ret2
            exact parse_end (HBD.out (by rw [HOK.out]; rfl)).1 (HBD.out (by rw [HOK.out]; rfl)).2 P9.out.below
          · go_wp2_with fail
            refine (HM.out _).mono ?_
            rintro e w10 ⟨rfl, rfl⟩
            go_wp2_with fail
            go_ret2
            exact parse_end (HGD.out (by rw [HOK.out]; rfl)).1 (HGD.out (by rw [HOK.out]; rfl)).2 P9.out.below
        · have HT := Lib.hid (show parseT l = dv * 86400 + (H * 3600 + I * 60 + S) - (ZH * 3600 + ZM * 60) by rw [HPT.out, HSG.out, if_neg h45]; omega)
          have HM := Lib.hid (fun w => time_x (dv * 86400 + (H * 3600 + I * 60 + S) - (ZH * 3600 + ZM * 60)) w)
          rw [HT.out] at HOK HGD
          have hb45 : ((z.toNat : Int) == 45) = false := Bool.eq_false_iff.2 fun e => h45 ((byte_eq (n := 45) (by decide)).1 e)
          clear h45
          generalize timB (dv * 86400 + (H * 3600 + I * 60 + S) - (ZH * 3600 + ZM * 60)) = tb at HOK HM
          cases tb
          · go_wp2_with fail
            refine (HM.out _).mono ?_
            rintro e w10 ⟨rfl, rfl⟩
            go_wp2_with fail
            go_ret2
            exact parse_end (HBD.out (by rw [HOK.out]; rfl)).1 (HBD.out (by rw [HOK.out]; rfl)).2 P9.out.below
          · go_wp2_with fail
            refine (HM.out _).mono ?_
            rintro e w10 ⟨rfl, rfl⟩
            go_wp2_with fail
            go_ret2
            exact parse_end (HGD.out (by rw [HOK.out]; rfl)).1 (HGD.out (by rw [HOK.out]; rfl)).2 P9.out.below
theorem parse_x (l : List UInt8) (w : World) (hl : l.length ≤ 1000000000000) (hR : Ready w) : Calls Tryd.prog 13 #[.string (mkS l)] w (ParsePost l w) := by
  cases hf : formedX l
  · exact parse_no l w hl hf
  · exact parse_yes l w hl hR hf
end Go.Proofs.YtafbapmbhjkheaaDoor
