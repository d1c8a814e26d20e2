/-
  CmPrP · CmPrM · CmPrR, in one text.
-/
import Derived.Test.YtojpkbonioglbaaGreatDoorMaCmPr
import Derived.Test.YtojpkbonioglbaaGreatDoorMaPaR
/-
  The walk of command's printPath.
-/
namespace Go.Proofs.YtojpkbonioglbaaGreatDoor
set_option maxRecDepth 100000
open Go.RowKit Go.Shelf
theorem locL_len (l : Txt) : (P.locL l).length ≤ 2 * l.length + 2 := by
  have hq : ∀ m : Txt, (P.quoL m).length ≤ 2 * m.length := by
    intro m
    induction m with
    | nil => exact Nat.le_refl _
    | cons b t ih =>
      unfold P.quoL at ih ⊢
      rw [List.flatMap_cons, List.length_append, List.length_cons]
      have : (P.quoB b).length ≤ 2 := by unfold P.quoB; split <;> simp
      omega
  unfold P.locL
  split
  · omega
  · have := hq l
    simp only [List.length_append, List.length_cons, List.length_nil]
    omega
theorem textL_len (p : P.Pth) : (P.textL p).length ≤ 2 * p.1.length + p.2.length + 5 := by
  have := locL_len p.1
  unfold P.textL
  split <;> simp only [List.length_append, List.length_cons, List.length_nil] <;> omega
/-- What printPath answers. -/
def ppE (p : P.Pth) (wr : Int) : Int := if P.rightE p = 0 then wr else P.rightE p
noncomputable def ppV (hd : Txt) (p : P.Pth) (ws : Txt) (wr : Int) : Txt := if ppE p wr = 0 then wdsV hd p ws else []
def PpPost (hd : Txt) (p : P.Pth) (ws : Txt) (wr : Int) (w : World) (e : Ending) (w' : World) : Prop := e = .returned (.tuple #[.string (mkS (ppV hd p ws wr)), .int .i64 (ppE p wr)]) ∧ Below w.heap.size w w'
theorem pp_no {hd : Txt} {p : P.Pth} {ws : Txt} {wr n : Int} {w w' : World} (h : ppE p wr = n) (hn : n ≠ 0) (hb : Below w.heap.size w w') : PpPost hd p ws wr w (.returned (.tuple #[.string { data := #[] }, .int .i64 n])) w' := by
  unfold PpPost; rw [ppV, h, if_neg hn]; exact ⟨rfl, hb⟩
theorem pp_yes {hd : Txt} {p : P.Pth} {ws : Txt} {wr : Int} {w w' : World} {s : ByteArray} (h : ppE p wr = 0) (hs : s = mkS (wdsV hd p ws)) (hb : Below w.heap.size w w') : PpPost hd p ws wr w (.returned (.tuple #[.string s, .int .i64 0])) w' := by
  unfold PpPost; rw [ppV, h, if_pos rfl, hs]; exact ⟨rfl, hb⟩
set_option maxHeartbeats 4000000 in
theorem printPath_x (sg hd : Txt) (p : P.Pth) (ws : Txt) (wr : Int) (w : World) (h1 : p.1.length ≤ 1000000000) (h2 : p.2.length ≤ 1000000000) (h3 : ws.length ≤ 1000000000) (h4 : sg.length ≤ 100) (hh : hd = 32 :: sg) :
    Calls Tryz.prog 155 #[.string (mkS sg), .agg #[.string (mkS p.1), .string (mkS p.2)], .string (mkS ws), .int .i64 wr] w (PpPost hd p ws wr w) := by
  have HP := Lib.hid (fun w => P.print_x p w (by omega) (by omega))
  unfold P.PrPost at HP
  have HE := Lib.hid (show ppE p wr = if P.rightE p = 0 then wr else P.rightE p from rfl)
  have HB := Lib.hid (P.below_box w (.cells #[.string (mkS p.1), .string (mkS p.2)] 27))
  have HTx := Lib.hid (show P.rightE p = 0 → P.printV p = P.textL p from P.print_yes)
  have htl := textL_len p
  have HVV := Lib.hid (show wdsV hd p ws = hd ++ P.textL p ++ (if ws = [] then [] else 32 :: ws) from rfl)
  generalize P.rightE p = R at HP HE HTx
  generalize P.printV p = tx at HP HTx
  generalize P.textL p = tl at HTx htl HVV
  have hTx := mkS_toList ws
  have zd := mkS_size ws
  have zg := mkS_size sg
  have zt := mkS_size tl
  have e1 : ws.isEmpty = (ws == []) := by cases ws <;> rfl
  by_cases hR : R = 0
  · subst hR
    obtain rfl := HTx.out rfl
    have HE1 := Lib.hid (show ppE p wr = wr by rw [HE.out, if_pos rfl])
    clear HTx HE
    by_cases hw : wr = 0
    · subst hw
      have hcat : ({ data := #[32] } : ByteArray) ++ mkS ws = mkS (32 :: ws) := mkS_cat [32] ws
      have hcat2 : ({ data := #[32] } : ByteArray) ++ mkS sg = mkS hd := by rw [hh]; exact mkS_cat [32] sg
      have hlen : hd.length = sg.length + 1 := by rw [hh]; rfl
      have hcat3 : mkS hd ++ mkS tx = mkS (hd ++ tx) := mkS_cat _ _
      have zh := mkS_size hd
      have zht := mkS_size (hd ++ tx)
      rw [List.length_append] at zht
      have y1 : ¬ 9223372036854775807 < 1 + (mkS ws).size := by omega
      have y2 : ¬ 9223372036854775807 < 1 + ws.length := by omega
      have y3 : ¬ 9223372036854775807 < 1 + (mkS sg).size := by omega
      have y4 : ¬ 9223372036854775807 < 1 + sg.length := by omega
      have y5 : ¬ 9223372036854775807 < (mkS hd).size + (mkS tx).size := by omega
      have y6 : ¬ 9223372036854775807 < hd.length + tx.length := by omega
      have y7 : ¬ 9223372036854775807 < hd.length + (mkS tx).size := by omega
      cases hq : ws == []
      · rw [hq] at e1
        have hcat4 : mkS (hd ++ tx) ++ mkS (32 :: ws) = mkS (hd ++ tx ++ 32 :: ws) := mkS_cat _ _
        have zw := mkS_size (32 :: ws)
        rw [List.length_cons] at zw
        have y8 : ¬ 9223372036854775807 < (mkS (hd ++ tx)).size + (mkS (32 :: ws)).size := by omega
        have y9 : ¬ 9223372036854775807 < hd.length + tx.length + (ws.length + 1) := by omega
        have HF := Lib.hid (show wdsV hd p ws = hd ++ tx ++ 32 :: ws by rw [HVV.out, if_neg (by simpa using hq)])
        clear hq hh hlen
        go_enter Tryz.func155, Tryz.ntmps155
        go_wp2_with fail
        refine (HP.out _).mono ?_
        rintro e w1 ⟨rfl, hb⟩
        have HB1 := Lib.hid (below_next HB.out hb)
        clear hb
        go_wp2_with fail
        go_ret2
        exact pp_yes HE1.out (by rw [HF.out, List.append_assoc]) HB1.out
      · rw [hq] at e1
        have hnil : ws = [] := by simpa using hq
        subst hnil
        have hcat4 : mkS (hd ++ tx) ++ { data := #[] } = mkS (hd ++ tx) := by rw [← mkS_nil, mkS_cat, List.append_nil]
        have y8 : ¬ 9223372036854775807 < (mkS (hd ++ tx)).size := by omega
        have y9 : ¬ 9223372036854775807 < hd.length + tx.length := by omega
        have HF := Lib.hid (show wdsV hd p [] = hd ++ tx by rw [HVV.out, if_pos rfl, List.append_nil])
        rw [mkS_nil] at hTx zd hcat y1 ⊢
        clear hq hh hlen hcat
        go_enter Tryz.func155, Tryz.ntmps155
        go_wp2_with fail
        refine (HP.out _).mono ?_
        rintro e w1 ⟨rfl, hb⟩
        have HB1 := Lib.hid (below_next HB.out hb)
        clear hb
        go_wp2_with fail
        go_ret2
        exact pp_yes HE1.out (by rw [HF.out]) HB1.out
    · have d9 : (wr != 0) = true := bne_iff_ne.2 hw
      have H0 := Lib.hid hw
      clear hw hh
      go_enter Tryz.func155, Tryz.ntmps155
      go_wp2_with fail
      refine (HP.out _).mono ?_
      rintro e w1 ⟨rfl, hb⟩
      have HB1 := Lib.hid (below_next HB.out hb)
      clear hb
      go_wp2_with fail
      go_ret2
      exact pp_no HE1.out H0.out HB1.out
  · have d9 : (R != 0) = true := bne_iff_ne.2 hR
    have HE1 := Lib.hid (show ppE p wr = R by rw [HE.out, if_neg hR])
    have H0 := Lib.hid hR
    clear hR hh HTx HE
    go_enter Tryz.func155, Tryz.ntmps155
    go_wp2_with fail
    refine (HP.out _).mono ?_
    rintro e w1 ⟨rfl, hb⟩
    have HB1 := Lib.hid (below_next HB.out hb)
    clear hb
    go_wp2_with fail
    go_ret2
    exact pp_no HE1.out H0.out HB1.out
end Go.Proofs.YtojpkbonioglbaaGreatDoor
/-
  The walk of command's printMail.
-/
namespace Go.Proofs.YtojpkbonioglbaaGreatDoor
set_option maxRecDepth 100000
open Go.RowKit Go.Shelf
theorem prMail_len {c : CL} : (printM c.m).length ≤ 1000000 := by
  by_cases h : rightM c.m = 0
  · exact printM_len h
  · unfold printM; rw [if_neg h]; exact Nat.zero_le _
set_option maxHeartbeats 8000000 in
theorem printMail_x : SaysC 128 2 := by
  intro w B c hFt hR hN hb
  have HV := Lib.hid (bE2 c)
  have HBV := Lib.hid (show bV 2 c = wdsV hFROM c.p (printM c.m) from rfl)
  have HB := Lib.hid (show KB w B c w from ⟨hb, Below.refl _ _⟩)
  have h1 := hFt.p1
  have h2 := hFt.p2
  have HRN := Lib.hid (fun w' (h : KB w B c w') => And.intro (hR.below h.below) (hN.below h.below))
  have HG := Lib.hid (fun w => host_x c.p w)
  have HM := Lib.hid (fun w (h : Ready w ∧ NotR w) => printM_x c.m w h.1)
  have HPP := Lib.hid (fun w => printPath_x [70, 82, 79, 77, 58] hFROM c.p (printM c.m) (rightM c.m) w (by omega) (by omega) (by have := @prMail_len c; omega) (by decide) rfl)
  unfold PpPost at HPP
  have HPE := Lib.hid (show ppE c.p (rightM c.m) = if P.rightE c.p = 0 then rightM c.m else P.rightE c.p from rfl)
  have HPV := Lib.hid (show ppV hFROM c.p (printM c.m) (rightM c.m) = if ppE c.p (rightM c.m) = 0 then wdsV hFROM c.p (printM c.m) else [] from rfl)
  rw [show mkS [70, 82, 79, 77, 58] = { data := #[70, 82, 79, 77, 58] } from rfl] at HPP
  have he : ∀ w, (Op.equalIn 10000 101 (.agg (CC c)) (.agg #[.string (mkS c.verb), .string { data := #[] }, .string (mkS c.p.1), .string (mkS c.p.2), .bool c.m.hs, .bool c.m.hf, .bool c.m.hu, .bool c.m.hb, .bool c.m.hp, .int .i64 c.m.sz, .int .i64 c.m.fo, .int .i64 c.m.un, .int .i64 c.m.by_, .int .i64 c.m.pr, .string (mkS c.m.body), .string (mkS c.m.ret), .string (mkS c.m.env), .string (mkS c.m.mode), .string { data := #[] }, .string { data := #[] }, .string { data := #[] }])).run Tryz.prog w = .ok (eqCL c { headC c.verb with p := c.p, m := c.m }) w := fun w => eqCmd c { headC c.verb with p := c.p, m := c.m } w
  generalize eqCL c { headC c.verb with p := c.p, m := c.m } = q at he HV
  generalize hostlB c.p = gd at HG HV
  rw [← HPE.out] at HV
  generalize ppE c.p (rightM c.m) = E at HPP HV HPV
  rw [← HBV.out] at HPV
  generalize ppV hFROM c.p (printM c.m) (rightM c.m) = t at HPP HPV
  generalize rightM c.m = wr at HM HPP
  generalize printM c.m = ws at HM HPP
  clear hFt hR hN HPE HBV
  cases q
  · clear hb
    go_enter Tryz.func128, Tryz.ntmps128
    obtain ⟨Y, F, y0, hy0, hF, hS⟩ : ∃ (Y : Type) (F : Y → World) (y0 : Y), F y0 = w.drew ∧ (∀ y, KB w B c (F y)) ∧ (∀ w', KB w B c w' → ∃ y, w' = F y) :=
      ⟨{ w' // KB w B c w' }, Subtype.val, ⟨_, HB.out.drew⟩, rfl, fun y => y.2, fun w' h => ⟨⟨w', h⟩, rfl⟩⟩
    have hne : Nonempty Y := ⟨y0⟩
    have hF0 : ∀ y, (F y).cell? ⟨B, 0, none⟩ = some (.string (mkS c.verb)) := fun y => cellOf (hF y).box 0
    have hF1 : ∀ y, (F y).cell? ⟨B, 1, none⟩ = some (.string (mkS c.arg)) := fun y => cellOf (hF y).box 1
    have HLC := Lib.hid (fun w' (h : ∃ y, w' = F y) => h.elim fun y e => e ▸ (hF y).lC)
    have HLP := Lib.hid (fun w' (h : ∃ y, w' = F y) => h.elim fun y e => e ▸ (hF y).lP)
    have HLM := Lib.hid (fun w' (h : ∃ y, w' = F y) => h.elim fun y e => e ▸ (hF y).lM)
    have HLR := Lib.hid (fun w' (h : ∃ y, w' = F y) => h.elim fun y e => e ▸ (hF y).lR)
    have HFS := Lib.hid (And.intro hF hS)
    clear hF hS
    go_wp2_with fail
    refine region_in (by kernel_rfl) (by kernel_rfl) F y0 hy0 ?_
    repeat (first
      | (refine wpQuiet_load_blk rfl 101 _ rfl B 0 (CC c) rfl HLC.out ?_; simp only [Act.put, List.setIfInBounds_toArray, List.set_cons_succ, List.set_cons_zero])
      | (refine wpQuiet_load_blk rfl 27 _ rfl B 2 #[.string (mkS c.p.1), .string (mkS c.p.2)] rfl HLP.out ?_; simp only [Act.put, List.setIfInBounds_toArray, List.set_cons_succ, List.set_cons_zero])
      | (refine wpQuiet_load_blk rfl 31 _ rfl B 4 #[.bool c.m.hs, .bool c.m.hf, .bool c.m.hu, .bool c.m.hb, .bool c.m.hp, .int .i64 c.m.sz, .int .i64 c.m.fo, .int .i64 c.m.un, .int .i64 c.m.by_, .int .i64 c.m.pr, .string (mkS c.m.body), .string (mkS c.m.ret), .string (mkS c.m.env), .string (mkS c.m.mode)] rfl HLM.out ?_; simp only [Act.put, List.setIfInBounds_toArray, List.set_cons_succ, List.set_cons_zero])
      | (refine wpQuiet_load_blk rfl 47 _ rfl B 18 #[.string (mkS c.r.no), .string (mkS c.r.kind), .string (mkS c.r.oc)] rfl HLR.out ?_; simp only [Act.put, List.setIfInBounds_toArray, List.set_cons_succ, List.set_cons_zero])
      | go_big_quiet_step (first
        | fail))
    refine wpQuiet_nil ?_
    rintro _ ⟨y, rfl⟩
    have H2 := Lib.hid (HFS.out.1 y)
    clear hF0 hF1 HLC HLP HLM HLR hy0
    have H3 := Lib.hid H2.out.below
    clear H2 HFS
    go_wp2_with fail
    go_ret2
    exact says_no (by rw [HV.out]; rfl) (by decide) H3.out
  · clear hb
    go_enter Tryz.func128, Tryz.ntmps128
    obtain ⟨Y, F, y0, hy0, hF, hS⟩ : ∃ (Y : Type) (F : Y → World) (y0 : Y), F y0 = w.drew ∧ (∀ y, KB w B c (F y)) ∧ (∀ w', KB w B c w' → ∃ y, w' = F y) :=
      ⟨{ w' // KB w B c w' }, Subtype.val, ⟨_, HB.out.drew⟩, rfl, fun y => y.2, fun w' h => ⟨⟨w', h⟩, rfl⟩⟩
    have hne : Nonempty Y := ⟨y0⟩
    have hF0 : ∀ y, (F y).cell? ⟨B, 0, none⟩ = some (.string (mkS c.verb)) := fun y => cellOf (hF y).box 0
    have hF1 : ∀ y, (F y).cell? ⟨B, 1, none⟩ = some (.string (mkS c.arg)) := fun y => cellOf (hF y).box 1
    have HLC := Lib.hid (fun w' (h : ∃ y, w' = F y) => h.elim fun y e => e ▸ (hF y).lC)
    have HLP := Lib.hid (fun w' (h : ∃ y, w' = F y) => h.elim fun y e => e ▸ (hF y).lP)
    have HLM := Lib.hid (fun w' (h : ∃ y, w' = F y) => h.elim fun y e => e ▸ (hF y).lM)
    have HLR := Lib.hid (fun w' (h : ∃ y, w' = F y) => h.elim fun y e => e ▸ (hF y).lR)
    have HFS := Lib.hid (And.intro hF hS)
    clear hF hS
    go_wp2_with fail
    refine region_in (by kernel_rfl) (by kernel_rfl) F y0 hy0 ?_
    repeat (first
      | (refine wpQuiet_load_blk rfl 101 _ rfl B 0 (CC c) rfl HLC.out ?_; simp only [Act.put, List.setIfInBounds_toArray, List.set_cons_succ, List.set_cons_zero])
      | (refine wpQuiet_load_blk rfl 27 _ rfl B 2 #[.string (mkS c.p.1), .string (mkS c.p.2)] rfl HLP.out ?_; simp only [Act.put, List.setIfInBounds_toArray, List.set_cons_succ, List.set_cons_zero])
      | (refine wpQuiet_load_blk rfl 31 _ rfl B 4 #[.bool c.m.hs, .bool c.m.hf, .bool c.m.hu, .bool c.m.hb, .bool c.m.hp, .int .i64 c.m.sz, .int .i64 c.m.fo, .int .i64 c.m.un, .int .i64 c.m.by_, .int .i64 c.m.pr, .string (mkS c.m.body), .string (mkS c.m.ret), .string (mkS c.m.env), .string (mkS c.m.mode)] rfl HLM.out ?_; simp only [Act.put, List.setIfInBounds_toArray, List.set_cons_succ, List.set_cons_zero])
      | (refine wpQuiet_load_blk rfl 47 _ rfl B 18 #[.string (mkS c.r.no), .string (mkS c.r.kind), .string (mkS c.r.oc)] rfl HLR.out ?_; simp only [Act.put, List.setIfInBounds_toArray, List.set_cons_succ, List.set_cons_zero])
      | go_big_quiet_step (first
        | (go_at_call 153; exact KB.quiet HFS.out (HG.out _))))
    refine wpQuiet_nil ?_
    rintro _ ⟨y, rfl⟩
    have H2 := Lib.hid (HFS.out.1 y)
    clear hF0 hF1 HLC HLP HLM HLR hy0
    have H3 := H2
    clear H2 HFS
    generalize F y = w2 at H3 ⊢
    cases gd
    · have HV2 := Lib.hid (show bE 2 c = E by rw [HV.out]; rfl)
      go_wp2_with (refine wpList_load_blk rfl 31 _ rfl B 4 101 (CC c) #[.bool c.m.hs, .bool c.m.hf, .bool c.m.hu, .bool c.m.hb, .bool c.m.hp, .int .i64 c.m.sz, .int .i64 c.m.fo, .int .i64 c.m.un, .int .i64 c.m.by_, .int .i64 c.m.pr, .string (mkS c.m.body), .string (mkS c.m.ret), .string (mkS c.m.env), .string (mkS c.m.mode)] _ rfl H3.out.box Tryz.underlying31 rfl (by kernel_rfl) (KB.atm c) ?_)
      refine (HM.out _ (HRN.out _ H3.out)).mono ?_
      rintro e w3 ⟨rfl, hb⟩
      have H4 := Lib.hid (H3.out.next hb)
      clear hb H3 HM
      go_wp2_with (refine wpList_load_blk rfl 27 _ rfl B 2 101 (CC c) #[.string (mkS c.p.1), .string (mkS c.p.2)] _ rfl H4.out.box Tryz.underlying27 rfl (by kernel_rfl) (KB.atp c) ?_)
      refine (HPP.out _).mono ?_
      rintro e w4 ⟨rfl, hb⟩
      have H5 := Lib.hid (H4.out.next hb).below
      clear hb
      go_wp2_with fail
      go_ret2
      exact ⟨by first | (rw [bW, HV2.out, HPV.out]; done) | (rw [bW, HV2.out, HPV.out]; rfl), H5.out⟩
    · have HBw := Lib.hid H3.out.below
      go_wp2_with fail
      go_ret2
      exact says_no (by rw [HV.out]; rfl) (by decide) HBw.out
end Go.Proofs.YtojpkbonioglbaaGreatDoor
/-
  The walk of command's printRcpt.
-/
namespace Go.Proofs.YtojpkbonioglbaaGreatDoor
set_option maxRecDepth 100000
open Go.RowKit Go.Shelf
theorem prRcpt_len {c : CL} : (printR c.r).length ≤ 1000000 := by
  by_cases h : rightR c.r = 0
  · exact printR_len h
  · unfold printR; rw [if_neg h]; exact Nat.zero_le _
set_option maxHeartbeats 8000000 in
theorem printRcpt_x : SaysC 129 3 := by
  intro w B c hFt hR hN hb
  have HV := Lib.hid (bE3 c)
  have HBV := Lib.hid (show bV 3 c = wdsV hTO c.p (printR c.r) from rfl)
  have HB := Lib.hid (show KB w B c w from ⟨hb, Below.refl _ _⟩)
  have h1 := hFt.p1
  have h2 := hFt.p2
  have HRN := Lib.hid (fun w' (h : KB w B c w') => And.intro (hR.below h.below) (hN.below h.below))
  have HG := Lib.hid (fun w => P.null_x c.p w)
  have HM := Lib.hid (fun w (h : Ready w ∧ NotR w) => printR_x c.r w h.2 (by have := hFt.kind; omega))
  have HPP := Lib.hid (fun w => printPath_x [84, 79, 58] hTO c.p (printR c.r) (rightR c.r) w (by omega) (by omega) (by have := @prRcpt_len c; omega) (by decide) rfl)
  unfold PpPost at HPP
  have HPE := Lib.hid (show ppE c.p (rightR c.r) = if P.rightE c.p = 0 then rightR c.r else P.rightE c.p from rfl)
  have HPV := Lib.hid (show ppV hTO c.p (printR c.r) (rightR c.r) = if ppE c.p (rightR c.r) = 0 then wdsV hTO c.p (printR c.r) else [] from rfl)
  rw [show mkS [84, 79, 58] = { data := #[84, 79, 58] } from rfl] at HPP
  have he : ∀ w, (Op.equalIn 10000 101 (.agg (CC c)) (.agg #[.string (mkS c.verb), .string { data := #[] }, .string (mkS c.p.1), .string (mkS c.p.2), .bool false, .bool false, .bool false, .bool false, .bool false, .int .i64 0, .int .i64 0, .int .i64 0, .int .i64 0, .int .i64 0, .string { data := #[] }, .string { data := #[] }, .string { data := #[] }, .string { data := #[] }, .string (mkS c.r.no), .string (mkS c.r.kind), .string (mkS c.r.oc)])).run Tryz.prog w = .ok (eqCL c { headC c.verb with p := c.p, r := c.r }) w := fun w => eqCmd c { headC c.verb with p := c.p, r := c.r } w
  generalize eqCL c { headC c.verb with p := c.p, r := c.r } = q at he HV
  generalize P.nullB c.p = gd at HG HV
  rw [← HPE.out] at HV
  generalize ppE c.p (rightR c.r) = E at HPP HV HPV
  rw [← HBV.out] at HPV
  generalize ppV hTO c.p (printR c.r) (rightR c.r) = t at HPP HPV
  generalize rightR c.r = wr at HM HPP
  generalize printR c.r = ws at HM HPP
  clear hFt hR hN HPE HBV
  cases q
  · clear hb
    go_enter Tryz.func129, Tryz.ntmps129
    obtain ⟨Y, F, y0, hy0, hF, hS⟩ : ∃ (Y : Type) (F : Y → World) (y0 : Y), F y0 = w.drew ∧ (∀ y, KB w B c (F y)) ∧ (∀ w', KB w B c w' → ∃ y, w' = F y) :=
      ⟨{ w' // KB w B c w' }, Subtype.val, ⟨_, HB.out.drew⟩, rfl, fun y => y.2, fun w' h => ⟨⟨w', h⟩, rfl⟩⟩
    have hne : Nonempty Y := ⟨y0⟩
    have hF0 : ∀ y, (F y).cell? ⟨B, 0, none⟩ = some (.string (mkS c.verb)) := fun y => cellOf (hF y).box 0
    have hF1 : ∀ y, (F y).cell? ⟨B, 1, none⟩ = some (.string (mkS c.arg)) := fun y => cellOf (hF y).box 1
    have HLC := Lib.hid (fun w' (h : ∃ y, w' = F y) => h.elim fun y e => e ▸ (hF y).lC)
    have HLP := Lib.hid (fun w' (h : ∃ y, w' = F y) => h.elim fun y e => e ▸ (hF y).lP)
    have HLM := Lib.hid (fun w' (h : ∃ y, w' = F y) => h.elim fun y e => e ▸ (hF y).lM)
    have HLR := Lib.hid (fun w' (h : ∃ y, w' = F y) => h.elim fun y e => e ▸ (hF y).lR)
    have HFS := Lib.hid (And.intro hF hS)
    clear hF hS
    go_wp2_with fail
    refine region_in (by kernel_rfl) (by kernel_rfl) F y0 hy0 ?_
    repeat (first
      | (refine wpQuiet_load_blk rfl 101 _ rfl B 0 (CC c) rfl HLC.out ?_; simp only [Act.put, List.setIfInBounds_toArray, List.set_cons_succ, List.set_cons_zero])
      | (refine wpQuiet_load_blk rfl 27 _ rfl B 2 #[.string (mkS c.p.1), .string (mkS c.p.2)] rfl HLP.out ?_; simp only [Act.put, List.setIfInBounds_toArray, List.set_cons_succ, List.set_cons_zero])
      | (refine wpQuiet_load_blk rfl 31 _ rfl B 4 #[.bool c.m.hs, .bool c.m.hf, .bool c.m.hu, .bool c.m.hb, .bool c.m.hp, .int .i64 c.m.sz, .int .i64 c.m.fo, .int .i64 c.m.un, .int .i64 c.m.by_, .int .i64 c.m.pr, .string (mkS c.m.body), .string (mkS c.m.ret), .string (mkS c.m.env), .string (mkS c.m.mode)] rfl HLM.out ?_; simp only [Act.put, List.setIfInBounds_toArray, List.set_cons_succ, List.set_cons_zero])
      | (refine wpQuiet_load_blk rfl 47 _ rfl B 18 #[.string (mkS c.r.no), .string (mkS c.r.kind), .string (mkS c.r.oc)] rfl HLR.out ?_; simp only [Act.put, List.setIfInBounds_toArray, List.set_cons_succ, List.set_cons_zero])
      | go_big_quiet_step (first
        | fail))
    refine wpQuiet_nil ?_
    rintro _ ⟨y, rfl⟩
    have H2 := Lib.hid (HFS.out.1 y)
    clear hF0 hF1 HLC HLP HLM HLR hy0
    have H3 := Lib.hid H2.out.below
    clear H2 HFS
    go_wp2_with fail
    go_ret2
    exact says_no (by rw [HV.out]; rfl) (by decide) H3.out
  · clear hb
    go_enter Tryz.func129, Tryz.ntmps129
    obtain ⟨Y, F, y0, hy0, hF, hS⟩ : ∃ (Y : Type) (F : Y → World) (y0 : Y), F y0 = w.drew ∧ (∀ y, KB w B c (F y)) ∧ (∀ w', KB w B c w' → ∃ y, w' = F y) :=
      ⟨{ w' // KB w B c w' }, Subtype.val, ⟨_, HB.out.drew⟩, rfl, fun y => y.2, fun w' h => ⟨⟨w', h⟩, rfl⟩⟩
    have hne : Nonempty Y := ⟨y0⟩
    have hF0 : ∀ y, (F y).cell? ⟨B, 0, none⟩ = some (.string (mkS c.verb)) := fun y => cellOf (hF y).box 0
    have hF1 : ∀ y, (F y).cell? ⟨B, 1, none⟩ = some (.string (mkS c.arg)) := fun y => cellOf (hF y).box 1
    have HLC := Lib.hid (fun w' (h : ∃ y, w' = F y) => h.elim fun y e => e ▸ (hF y).lC)
    have HLP := Lib.hid (fun w' (h : ∃ y, w' = F y) => h.elim fun y e => e ▸ (hF y).lP)
    have HLM := Lib.hid (fun w' (h : ∃ y, w' = F y) => h.elim fun y e => e ▸ (hF y).lM)
    have HLR := Lib.hid (fun w' (h : ∃ y, w' = F y) => h.elim fun y e => e ▸ (hF y).lR)
    have HFS := Lib.hid (And.intro hF hS)
    clear hF hS
    go_wp2_with fail
    refine region_in (by kernel_rfl) (by kernel_rfl) F y0 hy0 ?_
    repeat (first
      | (refine wpQuiet_load_blk rfl 101 _ rfl B 0 (CC c) rfl HLC.out ?_; simp only [Act.put, List.setIfInBounds_toArray, List.set_cons_succ, List.set_cons_zero])
      | (refine wpQuiet_load_blk rfl 27 _ rfl B 2 #[.string (mkS c.p.1), .string (mkS c.p.2)] rfl HLP.out ?_; simp only [Act.put, List.setIfInBounds_toArray, List.set_cons_succ, List.set_cons_zero])
      | (refine wpQuiet_load_blk rfl 31 _ rfl B 4 #[.bool c.m.hs, .bool c.m.hf, .bool c.m.hu, .bool c.m.hb, .bool c.m.hp, .int .i64 c.m.sz, .int .i64 c.m.fo, .int .i64 c.m.un, .int .i64 c.m.by_, .int .i64 c.m.pr, .string (mkS c.m.body), .string (mkS c.m.ret), .string (mkS c.m.env), .string (mkS c.m.mode)] rfl HLM.out ?_; simp only [Act.put, List.setIfInBounds_toArray, List.set_cons_succ, List.set_cons_zero])
      | (refine wpQuiet_load_blk rfl 47 _ rfl B 18 #[.string (mkS c.r.no), .string (mkS c.r.kind), .string (mkS c.r.oc)] rfl HLR.out ?_; simp only [Act.put, List.setIfInBounds_toArray, List.set_cons_succ, List.set_cons_zero])
      | go_big_quiet_step (first
        | (go_at_call 12; exact KB.quiet HFS.out (HG.out _))))
    refine wpQuiet_nil ?_
    rintro _ ⟨y, rfl⟩
    have H2 := Lib.hid (HFS.out.1 y)
    clear hF0 hF1 HLC HLP HLM HLR hy0
    have H3 := H2
    clear H2 HFS
    generalize F y = w2 at H3 ⊢
    cases gd
    · have HV2 := Lib.hid (show bE 3 c = E by rw [HV.out]; rfl)
      go_wp2_with (refine wpList_load_blk rfl 47 _ rfl B 18 101 (CC c) #[.string (mkS c.r.no), .string (mkS c.r.kind), .string (mkS c.r.oc)] _ rfl H3.out.box Tryz.underlying47 rfl (by kernel_rfl) (KB.atr c) ?_)
      refine (HM.out _ (HRN.out _ H3.out)).mono ?_
      rintro e w3 ⟨rfl, hb⟩
      have H4 := Lib.hid (H3.out.next hb)
      clear hb H3 HM
      go_wp2_with (refine wpList_load_blk rfl 27 _ rfl B 2 101 (CC c) #[.string (mkS c.p.1), .string (mkS c.p.2)] _ rfl H4.out.box Tryz.underlying27 rfl (by kernel_rfl) (KB.atp c) ?_)
      refine (HPP.out _).mono ?_
      rintro e w4 ⟨rfl, hb⟩
      have H5 := Lib.hid (H4.out.next hb).below
      clear hb
      go_wp2_with fail
      go_ret2
      exact ⟨by first | (rw [bW, HV2.out, HPV.out]; done) | (rw [bW, HV2.out, HPV.out]; rfl), H5.out⟩
    · have HBw := Lib.hid H3.out.below
      go_wp2_with fail
      go_ret2
      exact says_no (by rw [HV.out]; rfl) (by decide) HBw.out
end Go.Proofs.YtojpkbonioglbaaGreatDoor
