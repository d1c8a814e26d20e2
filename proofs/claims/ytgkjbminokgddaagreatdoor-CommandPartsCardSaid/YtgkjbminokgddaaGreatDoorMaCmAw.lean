/-
  CmPrint · CmAwake, in one text.
-/
import Derived.Test.YtgkjbminokgddaaGreatDoorMaCmPr
import Derived.Test.YtgkjbminokgddaaGreatDoorMaCmPq
import Derived.Test.YtgkjbminokgddaaGreatDoorMaCmPar
/-
  The walk of command's Print.
-/
namespace Go.Proofs.YtgkjbminokgddaaGreatDoor
set_option maxRecDepth 100000
open Go.RowKit Go.Shelf
attribute [local go_sem] Oper.semAt_some
theorem says_C (k : Nat) (hk : k ≠ 0) (h6 : k ≤ 6) : SaysC (prN k) k := by
  have : k = 1 ∨ k = 2 ∨ k = 3 ∨ k = 4 ∨ k = 5 ∨ k = 6 := by omega
  rcases this with rfl | rfl | rfl | rfl | rfl | rfl
  · exact printDomain_x
  · exact printMail_x
  · exact printRcpt_x
  · exact printNothing_x
  · exact printText_x
  · exact printSome_x
theorem enters_P (k : Nat) (hk : k ≠ 0) (h6 : k ≤ 6) : ∀ args w, (callFunc (prN k) args).run Tryz.prog w = .ok (.enter (prN k) args) w := by
  have : k = 1 ∨ k = 2 ∨ k = 3 ∨ k = 4 ∨ k = 5 ∨ k = 6 := by omega
  rcases this with rfl | rfl | rfl | rfl | rfl | rfl
  · exact enters_of Tryz.func33 (by kernel_rfl) rfl
  · exact enters_of Tryz.func34 (by kernel_rfl) rfl
  · exact enters_of Tryz.func35 (by kernel_rfl) rfl
  · exact enters_of Tryz.func36 (by kernel_rfl) rfl
  · exact enters_of Tryz.func37 (by kernel_rfl) rfl
  · exact enters_of Tryz.func38 (by kernel_rfl) rfl
theorem wds_len {hd ws : Txt} {p : P.Pth} (h1 : hd.length ≤ 10) (h2 : p.1.length ≤ 1000000000) (h3 : p.2.length ≤ 1000000000) (h4 : ws.length ≤ 1000000) : (wdsV hd p ws).length ≤ 4000000000 := by
  have := textL_len p
  unfold wdsV
  rw [List.length_append, List.length_append]
  split
  · simp; omega
  · rw [List.length_cons]; omega
theorem bV_len (k : Nat) {c : CL} (h : Fit c) : (bV k c).length ≤ 4000000000 := by
  have h1 := h.arg
  unfold bV
  split
  · have := domV_le c.arg
    rw [List.length_cons]; omega
  · split
    · exact wds_len (by decide) h.p1 h.p2 prMail_len
    · split
      · exact wds_len (by decide) h.p1 h.p2 prRcpt_len
      · split
        · exact Nat.zero_le _
        · split
          · exact Nat.zero_le _
          · rw [List.length_cons]; omega
theorem printers_c {W w : World} {B : Nat} {c : CL} (h : KB W B c w) (v : Txt) (hv : v.length ≤ 1000000000) : Calls Tryz.prog 16 #[] w fun e w' => ∃ M, e = .returned (.map (some M)) ∧ Hid (KB W B c w') ∧ w'.cell? ⟨B, 0, none⟩ = some (.string (mkS c.verb)) ∧
    (Instr.lookup 55 (.map (some M)) (.string (mkS v)) true).run Tryz.prog w' = .ok (.tuple #[(mapF prN v).getD .nilFunc, .bool (mapF prN v).isSome]) w' :=
  (printers_x w).mono fun _ w' ⟨M, he, hb, hm⟩ => ⟨M, he, h.next hb, cellOf (h.next hb).box 0, hm.look_ok Tryz.underlying55 (zeroFP w') hv⟩
def CrPost (c : CL) (w : World) (e : Ending) (w' : World) : Prop := e = .returned (.tuple #[.string (mkS (prV c)), .int .i64 (prE c)]) ∧ Below w.heap.size w w'
theorem cr_no {c : CL} {w w' : World} {n : Int} (h : prE c = n) (hn : n ≠ 0) (hb : Below w.heap.size w w') : CrPost c w (.returned (.tuple #[.string { data := #[] }, .int .i64 n])) w' := by
  unfold CrPost; rw [prV, h, if_neg hn]; exact ⟨rfl, hb⟩
theorem cr_yes {c : CL} {w w' : World} {s : ByteArray} (h : prE c = 0) (hs : s = mkS (c.verb ++ bV (kindV c.verb) c)) (hb : Below w.heap.size w w') : CrPost c w (.returned (.tuple #[.string s, .int .i64 0])) w' := by
  unfold CrPost; rw [prV, h, if_pos rfl, hs]; exact ⟨rfl, hb⟩
set_option maxHeartbeats 8000000 in
theorem cprint_x (c : CL) (w : World) (hF : Fit c) (hR : Ready w) (hN : NotR w) : Calls Tryz.prog 7 #[.agg #[.string (mkS c.verb), .string (mkS c.arg), .string (mkS c.p.1), .string (mkS c.p.2), .bool c.m.hs, .bool c.m.hf, .bool c.m.hu, .bool c.m.hb, .bool c.m.hp, .int .i64 c.m.sz, .int .i64 c.m.fo, .int .i64 c.m.un, .int .i64 c.m.by_, .int .i64 c.m.pr, .string (mkS c.m.body), .string (mkS c.m.ret), .string (mkS c.m.env), .string (mkS c.m.mode), .string (mkS c.r.no), .string (mkS c.r.kind), .string (mkS c.r.oc)]] w (CrPost c w) := by
  have HP := Lib.hid (fun (W w : World) (B : Nat) (h : KB W B c w) => printers_c h c.verb hF.verb)
  have H0 := Lib.hid (show KB w w.heap.size c (w.alloc (.cells #[.string (mkS c.verb), .string (mkS c.arg), .string (mkS c.p.1), .string (mkS c.p.2), .bool c.m.hs, .bool c.m.hf, .bool c.m.hu, .bool c.m.hb, .bool c.m.hp, .int .i64 c.m.sz, .int .i64 c.m.fo, .int .i64 c.m.un, .int .i64 c.m.by_, .int .i64 c.m.pr, .string (mkS c.m.body), .string (mkS c.m.ret), .string (mkS c.m.env), .string (mkS c.m.mode), .string (mkS c.r.no), .string (mkS c.r.kind), .string (mkS c.r.oc)] 31)) from ⟨newOf w _, P.below_box w _⟩)
  by_cases hk : kindV c.verb = 0
  · have HMF := Lib.hid (show mapF prN c.verb = none from if_pos hk)
    have HE := Lib.hid (show prE c = 10 from if_pos hk)
    clear hF hR hN hk
    go_enter Tryz.func7, Tryz.ntmps7
    go_wp2_with fail
    generalize w.alloc (.cells #[.string (mkS c.verb), .string (mkS c.arg), .string (mkS c.p.1), .string (mkS c.p.2), .bool c.m.hs, .bool c.m.hf, .bool c.m.hu, .bool c.m.hb, .bool c.m.hp, .int .i64 c.m.sz, .int .i64 c.m.fo, .int .i64 c.m.un, .int .i64 c.m.by_, .int .i64 c.m.pr, .string (mkS c.m.body), .string (mkS c.m.ret), .string (mkS c.m.env), .string (mkS c.m.mode), .string (mkS c.r.no), .string (mkS c.r.kind), .string (mkS c.r.oc)] 31) = w1 at H0 ⊢
    generalize hB : w.heap.size = B at H0 ⊢
    have HBB := Lib.hid hB
    clear hB
    have c0 : w1.cell? ⟨B, 0, none⟩ = some (.string (mkS c.verb)) := cellOf H0.out.box 0
    go_region_held3 (fun wr => wr.cell? ⟨B, 0, none⟩ = some (.string (mkS c.verb)))
      (first | exact cellOf H0.out.drew.box 0 | assumption)
      (first | (go_at_call 16; (with_reducible refine (HP.out w _ B H0.out.drew).mono ?_); rintro e w3 ⟨M, rfl, g0, g1, g2⟩; rw [HMF.out] at g2; simp only [Option.getD_none, Option.isSome_none] at g2))
    have H3 := Lib.hid g0.out.below
    clear g0 g1 g2 c0 H0
    go_wp2_with fail
    go_ret2
    exact cr_no HE.out (by decide) H3.out
  · have HMF := Lib.hid (show mapF prN c.verb = some (.func (.func (prN (kindV c.verb))) #[] #[]) from if_neg hk)
    have HE := Lib.hid (show prE c = if bE (kindV c.verb) c = 0 then (if 510 < c.verb.length + (bV (kindV c.verb) c).length then 3 else 0) else bE (kindV c.verb) c from if_neg hk)
    have ek := enters_P _ hk (kind_le _)
    have HS := Lib.hid (fun w B h1 h2 h3 => says_C _ hk (kind_le _) w B c hF h1 h2 h3)
    have HRN := Lib.hid (fun w' (B : Nat) (h : KB w B c w') => And.intro (hR.below h.below) (hN.below h.below))
    have hbl := bV_len (kindV c.verb) hF
    have hvl := hF.verb
    have HW := Lib.hid (show bE (kindV c.verb) c = 0 → bW (kindV c.verb) c = bV (kindV c.verb) c from fun h => if_pos h)
    have HC := Lib.hid (fun w => P.clone_x c.verb w (by omega))
    have HBV := Lib.hid (fun (w' : World) (s : ByteArray) (h : prE c = 0) (hs : s = mkS (c.verb ++ bV (kindV c.verb) c)) (hb : Below w.heap.size w w') => cr_yes (c := c) (w := w) (w' := w') (s := s) h hs hb)
    generalize kindV c.verb = k at HMF HE ek HS hbl HW hk HBV
    generalize prN k = fn at HMF ek HS
    generalize bE k c = E at HE HS HW
    generalize bW k c = t at HS HW
    generalize bV k c = u at HE HW hbl HBV
    clear hF hR hN hk
    have zv := mkS_size c.verb
    have zu := mkS_size u
    have hcat : mkS c.verb ++ mkS u = mkS (c.verb ++ u) := mkS_cat _ _
    have q1 : IntKind.i64.wrap ((c.verb.length : Int) + u.length) = c.verb.length + u.length := IntWalk.i64_in _ (by omega)
    have y1 : ¬ 9223372036854775807 < (mkS c.verb).size + (mkS u).size := by omega
    have y2 : ¬ 9223372036854775807 < c.verb.length + u.length := by omega
    go_enter Tryz.func7, Tryz.ntmps7
    go_wp2_with fail
    generalize w.alloc (.cells #[.string (mkS c.verb), .string (mkS c.arg), .string (mkS c.p.1), .string (mkS c.p.2), .bool c.m.hs, .bool c.m.hf, .bool c.m.hu, .bool c.m.hb, .bool c.m.hp, .int .i64 c.m.sz, .int .i64 c.m.fo, .int .i64 c.m.un, .int .i64 c.m.by_, .int .i64 c.m.pr, .string (mkS c.m.body), .string (mkS c.m.ret), .string (mkS c.m.env), .string (mkS c.m.mode), .string (mkS c.r.no), .string (mkS c.r.kind), .string (mkS c.r.oc)] 31) = w1 at H0 ⊢
    generalize hB : w.heap.size = B at H0 ⊢
    have HBB := Lib.hid hB
    clear hB
    have c0 : w1.cell? ⟨B, 0, none⟩ = some (.string (mkS c.verb)) := cellOf H0.out.box 0
    go_region_held3 (fun wr => wr.cell? ⟨B, 0, none⟩ = some (.string (mkS c.verb)))
      (first | exact cellOf H0.out.drew.box 0 | assumption)
      (first | (go_at_call 16; (with_reducible refine (HP.out w _ B H0.out.drew).mono ?_); rintro e w3 ⟨M, rfl, g0, g1, g2⟩; rw [HMF.out] at g2; simp only [Option.getD_some, Option.isSome_some] at g2))
    have H3 := g0
    clear g0 g1 g2 c0 H0
    go_wp2_with fail
    refine (HS.out _ B (HRN.out _ _ H3.out).1 (HRN.out _ _ H3.out).2 H3.out.box).mono ?_
    rintro e w4 ⟨rfl, hb⟩
    have H4 := Lib.hid (H3.out.next hb)
    clear hb H3
    by_cases hE : E = 0
    · subst hE
      obtain rfl := HW.out rfl
      have c0 : w4.cell? ⟨B, 0, none⟩ = some (.string (mkS c.verb)) := cellOf H4.out.box 0
      by_cases hl : 510 < c.verb.length + t.length
      · have hlI : (510 : Int) < (c.verb.length : Int) + t.length := by omega
        have HE3 := Lib.hid (show prE c = 3 by rw [HE.out, if_pos rfl, if_pos hl])
        have HB4 := Lib.hid H4.out.below
        clear hl H4
        go_wp2_with fail
        go_ret2
        exact cr_no HE3.out (by decide) HB4.out
      · have hlI : ¬ (510 : Int) < (c.verb.length : Int) + t.length := by omega
        have HE3 := Lib.hid (show prE c = 0 by rw [HE.out, if_pos rfl, if_neg hl])
        clear hl
        go_wp2_with fail
        refine (HC.out _).mono ?_
        rintro e w5 ⟨rfl, hb⟩
        have HB5 := Lib.hid (H4.out.next hb).below
        clear hb H4 c0
        go_wp2_with fail
        go_ret2
        exact HBV.out _ _ HE3.out rfl HB5.out
    · have d9 : (E != 0) = true := bne_iff_ne.2 hE
      have HE3 := Lib.hid (show prE c = E by rw [HE.out, if_neg hE])
      have H0' := Lib.hid hE
      have HB4 := Lib.hid H4.out.below
      clear hE H4
      go_wp2_with fail
      go_ret2
      exact cr_no HE3.out H0'.out HB4.out
end Go.Proofs.YtgkjbminokgddaaGreatDoor
/-
  The walk of the laws' awake; what the laws stand on.
-/
namespace Go.Proofs.YtgkjbminokgddaaGreatDoor
set_option maxRecDepth 100000
open Go.RowKit Go.Shelf
deriving instance DecidableEq for ML
deriving instance DecidableEq for RL
deriving instance DecidableEq for CL
theorem cparse_x (s : Txt) (w : World) (hs : s.length ≤ 100000) (hR : Ready w) (hN : NotR w) : Calls Tryz.prog 8 #[.string (mkS s)] w (CpPost s w) := by
  by_cases hk : kindV (vbV (trR s)) = 0
  · exact cparse_none s w hs hk
  · by_cases hE : cpE s = 0
    · exact cparse_ok s w hs hR hN hk hE
    · exact cparse_err s w hs hR hN hk hE
theorem below_sto {W w w' : World} {o : Obj} (h : Below W.heap.size W w) (hA : Apart w.heap.size (w.alloc o).heap.size (w.alloc o) w') : Below W.heap.size W w' :=
  (h.alloc h.size o).trans (hA.below (by have := h.size; simp; omega) h.size)
theorem KB.new {W w w' : World} {o : Obj} {c : CL} (h : Below W.heap.size W w) (hb : w'.heap[w.heap.size]? = some (.cells (CC c) 31 (0, 0))) (hA : Apart w.heap.size (w.alloc o).heap.size (w.alloc o) w') : KB W w.heap.size c w' := ⟨hb, below_sto h hA⟩
theorem KB.sto {W w w' : World} {o : Obj} {B : Nat} {c : CL} (h : KB W B c w) (hA : Apart w.heap.size (w.alloc o).heap.size (w.alloc o) w') : KB W B c w' :=
  ⟨(hA.block B (by have := ltOf h.box; simp; omega) (by have := ltOf h.box; omega)).trans (old_alloc h.box), below_sto h.below hA⟩
section
variable {P : Program} {ops : Array Oper} {rest : List Oper} {op : Oper} {a : Act} {w : World} {Q : Exit → Act → World → Prop}
/-- A guarded load of a block's cells, where it is wanted. -/
theorem wpList_load_want (hw : Region.wanted op (yielded ops a.tmps) = true) (ty : TypeId) (x : Operand) (ho : op.op = .load ty x) (b o : Nat) (t : TypeId) (cs vs : Array Value) (d : TypeDesc) (hx : a.eval x = .pointer (some ⟨b, o, none⟩)) (hb : w.heap[b]? = some (.cells cs t (0, 0)))
    (hu : P.underlying ty = some d) (hd : d.isRow = true) (hi : (P.info? ty).map (·.size) = some vs.size) (hc : ∀ j, j < vs.size → cs[o + j]? = vs[j]?)
    (h : wpList P ops Q rest (a.put op.dst (.agg vs)) w) : wpList P ops Q (op :: rest) a w := by
  refine wpList_step fun K hK => ?_
  rw [if_pos hw]
  refine wp_load_mid ty x ho b o hx vs.toList d (fun j v hv => ?_) hu hd (by simpa using hi) (hK _ _ (by simpa using h))
  rw [cellOf hb]
  rw [Array.getElem?_toList] at hv
  rw [hc j (Array.getElem?_eq_some_iff.1 hv).1]; exact hv
end
def verbCells : Array Value := #[.string { data := #[72, 69, 76, 79] }, .string { data := #[69, 72, 76, 79] }, .string { data := #[77, 65, 73, 76] }, .string { data := #[82, 67, 80, 84] }, .string { data := #[68, 65, 84, 65] }, .string { data := #[82, 83, 69, 84] }, .string { data := #[81, 85, 73, 84] }, .string { data := #[78, 79, 79, 80] }, .string { data := #[86, 82, 70, 89] }, .string { data := #[72, 69, 76, 80] }]
theorem verbs_x (w : World) : Calls Tryz.prog 14 #[] w fun e w' => e = .returned (.slice (some ⟨w.heap.size, 0, none⟩) 10 10) ∧ w' = w.alloc (.cells #[.string { data := #[72, 69, 76, 79] }, .string { data := #[69, 72, 76, 79] }, .string { data := #[77, 65, 73, 76] }, .string { data := #[82, 67, 80, 84] }, .string { data := #[68, 65, 84, 65] }, .string { data := #[82, 83, 69, 84] }, .string { data := #[81, 85, 73, 84] }, .string { data := #[78, 79, 79, 80] }, .string { data := #[86, 82, 70, 89] }, .string { data := #[72, 69, 76, 80] }] 9) := by
  go_enter Tryz.func14, Tryz.ntmps14
  go_wp2_with fail
  go_ret
  exact ⟨rfl, rfl⟩
def cM : CL := ⟨vMAIL, [], ([97], [98]), ⟨true, false, false, false, false, 1, 0, 0, 0, 0, [], [], [], []⟩, zeroR⟩
def cR : CL := ⟨vRCPT, [], (P.pmL, []), zeroM, zeroR⟩
def cV : CL := ⟨vVRFY, [119, 104, 111, 32, 105, 115], ([], []), zeroM, zeroR⟩
theorem aw1 : cpE [109, 97, 105, 108, 32, 102, 114, 111, 109, 58, 60, 97, 64, 66, 62, 32, 115, 105, 122, 101, 61, 49, 32] = 0 ∧ cpV [109, 97, 105, 108, 32, 102, 114, 111, 109, 58, 60, 97, 64, 66, 62, 32, 115, 105, 122, 101, 61, 49, 32] = cM := by decide +kernel
theorem aw2 : cpE [88] = 10 ∧ cpV [88] = zeroC := by decide +kernel
theorem aw3 : cpE [68, 65, 84, 65, 32, 120] = 2 ∧ cpV [68, 65, 84, 65, 32, 120] = zeroC := by decide +kernel
theorem aw4 : cpE [82, 67, 80, 84, 32, 84, 79, 58, 60, 80, 111, 115, 116, 109, 97, 115, 116, 101, 114, 62] = 0 ∧ cpV [82, 67, 80, 84, 32, 84, 79, 58, 60, 80, 111, 115, 116, 109, 97, 115, 116, 101, 114, 62] = cR := by decide +kernel
theorem aw5 : cpE [110, 111, 111, 112, 32, 32, 120] = 2 ∧ cpV [110, 111, 111, 112, 32, 32, 120] = zeroC := by decide +kernel
theorem aw6 : cpE [86, 82, 70, 89, 32, 119, 104, 111, 32, 105, 115] = 0 ∧ cpV [86, 82, 70, 89, 32, 119, 104, 111, 32, 105, 115] = cV := by decide +kernel
theorem itoa1 : Lib.itoa 1 = [49] := by simp [Lib.itoa, Lib.decDigits]
theorem awP : prE cM = 0 ∧ prV cM = [77, 65, 73, 76, 32, 70, 82, 79, 77, 58, 60, 97, 64, 98, 62, 32, 83, 73, 90, 69, 61, 49] := by
  have e1 : rightM cM.m = 0 := by decide +kernel
  have e2 : printM cM.m = [83, 73, 90, 69, 61, 49] := by
    rw [printM, if_pos e1]
    simp only [wdM, cM, wordsL, itoa1]
    decide +kernel
  have e3 : bE 2 cM = 0 := bE_2.2 ⟨⟨rfl, rfl⟩, by decide +kernel, e1⟩
  have e4 : bV 2 cM = [32, 70, 82, 79, 77, 58, 60, 97, 64, 98, 62, 32, 83, 73, 90, 69, 61, 49] := by
    show wdsV hFROM cM.p (printM cM.m) = _
    rw [e2, wdsV]
    decide +kernel
  have e5 : prE cM = 0 := by
    show (if kindV vMAIL = 0 then 10 else if bE (kindV vMAIL) cM = 0 then (if 510 < cM.verb.length + (bV (kindV vMAIL) cM).length then 3 else 0) else bE (kindV vMAIL) cM) = 0
    rw [show kindV vMAIL = 2 from rfl, if_neg (by decide), e3, if_pos rfl, e4]
    decide
  refine ⟨e5, ?_⟩
  rw [prV, if_pos e5]
  show vMAIL ++ bV 2 cM = _
  rw [e4]
  rfl
theorem ak1 (w : World) (hR : Ready w) (hN : NotR w) : Calls Tryz.prog 8 #[.string { data := #[109, 97, 105, 108, 32, 102, 114, 111, 109, 58, 60, 97, 64, 66, 62, 32, 115, 105, 122, 101, 61, 49, 32] }] w fun e w' => e = .returned (.tuple #[.agg (CC cM), .int .i64 0]) ∧ Below w.heap.size w w' :=
  (cparse_x [109, 97, 105, 108, 32, 102, 114, 111, 109, 58, 60, 97, 64, 66, 62, 32, 115, 105, 122, 101, 61, 49, 32] w (by decide) hR hN).mono fun e w' ⟨he, hb⟩ => ⟨by rw [he, aw1.1, aw1.2], hb⟩
theorem ak2 (w : World) (hR : Ready w) (hN : NotR w) : Calls Tryz.prog 8 #[.string { data := #[88] }] w fun e w' => e = .returned (.tuple #[.agg (CC zeroC), .int .i64 10]) ∧ Below w.heap.size w w' :=
  (cparse_x [88] w (by decide) hR hN).mono fun e w' ⟨he, hb⟩ => ⟨by rw [he, aw2.1, aw2.2], hb⟩
theorem ak3 (w : World) (hR : Ready w) (hN : NotR w) : Calls Tryz.prog 8 #[.string { data := #[68, 65, 84, 65, 32, 120] }] w fun e w' => e = .returned (.tuple #[.agg (CC zeroC), .int .i64 2]) ∧ Below w.heap.size w w' :=
  (cparse_x [68, 65, 84, 65, 32, 120] w (by decide) hR hN).mono fun e w' ⟨he, hb⟩ => ⟨by rw [he, aw3.1, aw3.2], hb⟩
theorem ak4 (w : World) (hR : Ready w) (hN : NotR w) : Calls Tryz.prog 8 #[.string { data := #[82, 67, 80, 84, 32, 84, 79, 58, 60, 80, 111, 115, 116, 109, 97, 115, 116, 101, 114, 62] }] w fun e w' => e = .returned (.tuple #[.agg (CC cR), .int .i64 0]) ∧ Below w.heap.size w w' :=
  (cparse_x [82, 67, 80, 84, 32, 84, 79, 58, 60, 80, 111, 115, 116, 109, 97, 115, 116, 101, 114, 62] w (by decide) hR hN).mono fun e w' ⟨he, hb⟩ => ⟨by rw [he, aw4.1, aw4.2], hb⟩
theorem ak5 (w : World) (hR : Ready w) (hN : NotR w) : Calls Tryz.prog 8 #[.string { data := #[110, 111, 111, 112, 32, 32, 120] }] w fun e w' => e = .returned (.tuple #[.agg (CC zeroC), .int .i64 2]) ∧ Below w.heap.size w w' :=
  (cparse_x [110, 111, 111, 112, 32, 32, 120] w (by decide) hR hN).mono fun e w' ⟨he, hb⟩ => ⟨by rw [he, aw5.1, aw5.2], hb⟩
theorem ak6 (w : World) (hR : Ready w) (hN : NotR w) : Calls Tryz.prog 8 #[.string { data := #[86, 82, 70, 89, 32, 119, 104, 111, 32, 105, 115] }] w fun e w' => e = .returned (.tuple #[.agg (CC cV), .int .i64 0]) ∧ Below w.heap.size w w' :=
  (cparse_x [86, 82, 70, 89, 32, 119, 104, 111, 32, 105, 115] w (by decide) hR hN).mono fun e w' ⟨he, hb⟩ => ⟨by rw [he, aw6.1, aw6.2], hb⟩
theorem akP (w : World) (hR : Ready w) (hN : NotR w) : Calls Tryz.prog 7 #[.agg (CC cM)] w fun e w' => e = .returned (.tuple #[.string { data := #[77, 65, 73, 76, 32, 70, 82, 79, 77, 58, 60, 97, 64, 98, 62, 32, 83, 73, 90, 69, 61, 49] }, .int .i64 0]) ∧ Below w.heap.size w w' :=
  (cprint_x cM w ⟨by decide, by decide, by decide, by decide, by decide⟩ hR hN).mono fun e w' ⟨he, hb⟩ => ⟨by rw [he, awP.1, awP.2]; rfl, hb⟩
theorem akV (w : World) : Calls Tryz.prog 9 #[.string { data := #[113, 117, 105, 116, 32, 110, 111, 119] }] w fun e w' => e = .returned (.string { data := #[81, 85, 73, 84] }) ∧ Below w.heap.size w w' :=
  (verb_x [113, 117, 105, 116, 32, 110, 111, 119] w (by decide)).mono fun e w' ⟨he, hb⟩ => ⟨by rw [he]; rfl, hb⟩
set_option maxHeartbeats 16000000 in
theorem awake_x (w : World) (hR : Ready w) (hN : NotR w) : Calls Tryz.prog 5 #[] w fun e w' => e = .returned (.bool true) ∧ Below w.heap.size w w' := by
  have HR := Lib.hid (fun w' (h : Below w.heap.size w w') => hR.below h)
  have HN := Lib.hid (fun w' (h : Below w.heap.size w w') => hN.below h)
  have he1 : ∀ w, (Op.equalIn 10000 31 (.agg (CC zeroC)) (.agg #[.string { data := #[] }, .string { data := #[] }, .string { data := #[] }, .string { data := #[] }, .bool false, .bool false, .bool false, .bool false, .bool false, .int .i64 0, .int .i64 0, .int .i64 0, .int .i64 0, .int .i64 0, .string { data := #[] }, .string { data := #[] }, .string { data := #[] }, .string { data := #[] }, .string { data := #[] }, .string { data := #[] }, .string { data := #[] }])).run Tryz.prog w = .ok true w := fun w => (eqCmd zeroC zeroC w).trans (by rw [eqCL_iff.2 rfl])
  have he2 : ∀ w, (Op.equalIn 10000 23 (.agg #[.string { data := #[97] }, .string { data := #[98] }]) (.agg #[.string { data := #[97] }, .string { data := #[98] }])).run Tryz.prog w = .ok true w := fun w => P.eqP ([97], [98]) ([97], [98]) w
  clear hR hN
  go_enter Tryz.func5, Tryz.ntmps5
  have HB := Lib.hid (Below.refl w.heap.size w)
  go_wp2_with fail
  refine (ak1 _ (HR.out _ HB.out) (HN.out _ HB.out)).mono ?_
  rintro e w1 ⟨rfl, hb⟩
  have HB' := Lib.hid (below_next HB.out hb)
  clear hb HB 
  go_wp2_with (first | (refine wpList_store_blk rfl 31 _ _ rfl w1.heap.size 0 31 (CC zeroC) (CC cM) (CC cM) rfl rfl (newOf w1 _) size_cmd (one_CC _) (Nat.le_of_eq rfl) (whole_CC zeroC _) ?_; intro w2 hB2 hA2) | (refine wpList_load_blk rfl 31 _ rfl w1.heap.size 0 31 (CC cM) (CC cM) _ rfl hB2 Tryz.underlying31 rfl size_cmd (fun j _ => by rw [Nat.zero_add]) ?_))
  have K0 := Lib.hid (KB.new HB'.out hB2 hA2)
  have HB := Lib.hid (below_sto HB'.out hA2)
  clear hB2 hA2 HB' 
  generalize w1.heap.size = b0 at K0 ⊢
  refine (akP _ (HR.out _ HB.out) (HN.out _ HB.out)).mono ?_
  rintro e wp ⟨rfl, hb⟩
  have HB' := Lib.hid (below_next HB.out hb)
  have K0' := Lib.hid (K0.out.next hb)
  clear hb HB K0
  have HB := HB'
  have K0 := K0'
  clear HB' K0'
  go_wp2_with fail
  refine (ak2 _ (HR.out _ HB.out) (HN.out _ HB.out)).mono ?_
  rintro e w3 ⟨rfl, hb⟩
  have HB' := Lib.hid (below_next HB.out hb)
  have K0' := Lib.hid (K0.out.next hb)
  clear hb HB K0
  go_wp2_with (refine wpList_store_blk rfl 31 _ _ rfl w3.heap.size 0 31 (CC zeroC) (CC zeroC) (CC zeroC) rfl rfl (newOf w3 _) size_cmd (one_CC _) (Nat.le_of_eq rfl) (whole_CC zeroC _) ?_; intro w4 hB2 hA2)
  have K0 := Lib.hid (K0'.out.sto hA2)
  have K1 := Lib.hid (KB.new HB'.out hB2 hA2)
  have HB := Lib.hid (below_sto HB'.out hA2)
  clear hB2 hA2 HB' K0'
  generalize w3.heap.size = b1 at K1 ⊢
  go_wp2_with fail
  refine (ak3 _ (HR.out _ HB.out) (HN.out _ HB.out)).mono ?_
  rintro e w5 ⟨rfl, hb⟩
  have HB' := Lib.hid (below_next HB.out hb)
  have K0' := Lib.hid (K0.out.next hb)
  have K1' := Lib.hid (K1.out.next hb)
  clear hb HB K0 K1
  go_wp2_with (refine wpList_store_blk rfl 31 _ _ rfl w5.heap.size 0 31 (CC zeroC) (CC zeroC) (CC zeroC) rfl rfl (newOf w5 _) size_cmd (one_CC _) (Nat.le_of_eq rfl) (whole_CC zeroC _) ?_; intro w6 hB2 hA2)
  have K0 := Lib.hid (K0'.out.sto hA2)
  have K1 := Lib.hid (K1'.out.sto hA2)
  have K2 := Lib.hid (KB.new HB'.out hB2 hA2)
  have HB := Lib.hid (below_sto HB'.out hA2)
  clear hB2 hA2 HB' K0' K1'
  generalize w5.heap.size = b2 at K2 ⊢
  go_wp2_with fail
  refine (ak4 _ (HR.out _ HB.out) (HN.out _ HB.out)).mono ?_
  rintro e w7 ⟨rfl, hb⟩
  have HB' := Lib.hid (below_next HB.out hb)
  have K0' := Lib.hid (K0.out.next hb)
  have K1' := Lib.hid (K1.out.next hb)
  have K2' := Lib.hid (K2.out.next hb)
  clear hb HB K0 K1 K2
  go_wp2_with (refine wpList_store_blk rfl 31 _ _ rfl w7.heap.size 0 31 (CC zeroC) (CC cR) (CC cR) rfl rfl (newOf w7 _) size_cmd (one_CC _) (Nat.le_of_eq rfl) (whole_CC zeroC _) ?_; intro w8 hB2 hA2)
  have K0 := Lib.hid (K0'.out.sto hA2)
  have K1 := Lib.hid (K1'.out.sto hA2)
  have K2 := Lib.hid (K2'.out.sto hA2)
  have K3 := Lib.hid (KB.new HB'.out hB2 hA2)
  have HB := Lib.hid (below_sto HB'.out hA2)
  clear hB2 hA2 HB' K0' K1' K2'
  generalize w7.heap.size = b3 at K3 ⊢
  go_wp2_with fail
  refine (ak5 _ (HR.out _ HB.out) (HN.out _ HB.out)).mono ?_
  rintro e w9 ⟨rfl, hb⟩
  have HB' := Lib.hid (below_next HB.out hb)
  have K0' := Lib.hid (K0.out.next hb)
  have K1' := Lib.hid (K1.out.next hb)
  have K2' := Lib.hid (K2.out.next hb)
  have K3' := Lib.hid (K3.out.next hb)
  clear hb HB K0 K1 K2 K3
  go_wp2_with (refine wpList_store_blk rfl 31 _ _ rfl w9.heap.size 0 31 (CC zeroC) (CC zeroC) (CC zeroC) rfl rfl (newOf w9 _) size_cmd (one_CC _) (Nat.le_of_eq rfl) (whole_CC zeroC _) ?_; intro w10 hB2 hA2)
  have K0 := Lib.hid (K0'.out.sto hA2)
  have K1 := Lib.hid (K1'.out.sto hA2)
  have K2 := Lib.hid (K2'.out.sto hA2)
  have K3 := Lib.hid (K3'.out.sto hA2)
  have K4 := Lib.hid (KB.new HB'.out hB2 hA2)
  have HB := Lib.hid (below_sto HB'.out hA2)
  clear hB2 hA2 HB' K0' K1' K2' K3'
  generalize w9.heap.size = b4 at K4 ⊢
  clear K1 K2
  go_wp2_with fail
  refine (ak6 _ (HR.out _ HB.out) (HN.out _ HB.out)).mono ?_
  rintro e w11 ⟨rfl, hb⟩
  have HB' := Lib.hid (below_next HB.out hb)
  have K0' := Lib.hid (K0.out.next hb)
  have K3' := Lib.hid (K3.out.next hb)
  have K4' := Lib.hid (K4.out.next hb)
  clear hb HB K0 K3 K4
  go_wp2_with (first | (refine wpList_store_blk rfl 31 _ _ rfl w11.heap.size 0 31 (CC zeroC) (CC cV) (CC cV) rfl rfl (newOf w11 _) size_cmd (one_CC _) (Nat.le_of_eq rfl) (whole_CC zeroC _) ?_; intro wl hB2 hA2; have c0 : wl.cell? ⟨b0, 0, none⟩ = some (.string { data := #[77, 65, 73, 76] }) := cellOf (K0'.out.sto hA2).box 0; have c1 : wl.cell? ⟨b0, 2, none⟩ = some (.string { data := #[97] }) := cellOf (K0'.out.sto hA2).box 2; have c2 : wl.cell? ⟨b0, 3, none⟩ = some (.string { data := #[98] }) := cellOf (K0'.out.sto hA2).box 3; have c3 : wl.cell? ⟨b0, 9, none⟩ = some (.int .i64 1) := cellOf (K0'.out.sto hA2).box 9; have c4 : wl.cell? ⟨b3, 2, none⟩ = some (.string { data := #[112, 111, 115, 116, 109, 97, 115, 116, 101, 114] }) := cellOf (K3'.out.sto hA2).box 2; have e1 : wl.cell? ⟨w11.heap.size, 1, none⟩ = some (.string { data := #[119, 104, 111, 32, 105, 115] }) := cellOf hB2 1; have hK4 := (K4'.out.sto hA2).box; have HB := Lib.hid (below_sto HB'.out hA2); clear hB2 hA2 HB' K0' K3' K4') | (refine wpList_load_want rfl 31 _ rfl b4 0 31 (CC zeroC) (CC zeroC) _ rfl hK4 Tryz.underlying31 rfl size_cmd (fun j _ => by rw [Nat.zero_add]) ?_))
  clear c0 c1 c2 c3 c4 e1 hK4
  refine (verbs_x _).mono ?_
  rintro e wv ⟨rfl, hw⟩
  have HB' := Lib.hid (show Below w.heap.size w wv by rw [hw]; exact HB.out.alloc HB.out.size _)
  clear hw
  go_wp2_with fail
  refine (akV _).mono ?_
  rintro e wz ⟨rfl, hb⟩
  have HBz := Lib.hid (below_next HB'.out hb)
  clear hb
  go_wp2_with fail
  go_ret
  exact ⟨rfl, HBz.out⟩
end Go.Proofs.YtgkjbminokgddaaGreatDoor
