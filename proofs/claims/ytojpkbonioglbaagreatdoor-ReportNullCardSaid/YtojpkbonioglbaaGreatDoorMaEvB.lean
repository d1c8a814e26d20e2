import Derived.Test.YtojpkbonioglbaaGreatDoorMaCmA
import Derived.Test.YtojpkbonioglbaaGreatDoorMaCmPr
import Derived.Test.YtojpkbonioglbaaGreatDoorMaCmPq
import Derived.Test.YtojpkbonioglbaaGreatDoorMaEvA
import Derived.Lib.AtoiErrMem
import Derived.Test.YtojpkbonioglbaaGreatDoorMaPaR
import Derived.Test.YtojpkbonioglbaaGreatDoorMaBuild
namespace Go.Proofs.YtojpkbonioglbaaGreatDoor
set_option maxRecDepth 100000
open Go.RowKit Go.Shelf
attribute [local go_sem] Oper.semAt_some
end Go.Proofs.YtojpkbonioglbaaGreatDoor
namespace Go.Proofs.YtojpkbonioglbaaGreatDoor
set_option maxRecDepth 100000
open Go.RowKit Go.Shelf
attribute [local go_sem] Oper.semAt_some
end Go.Proofs.YtojpkbonioglbaaGreatDoor
namespace Go.Proofs.YtojpkbonioglbaaGreatDoor
set_option maxRecDepth 100000
open Go.RowKit Go.Shelf
attribute [local go_sem] Oper.semAt_some
end Go.Proofs.YtojpkbonioglbaaGreatDoor
namespace Go.Proofs.YtojpkbonioglbaaGreatDoor
set_option maxRecDepth 100000
open Go.RowKit Go.Shelf
attribute [local go_sem] Oper.semAt_some
theorem says_C (k : Nat) (hk : k ≠ 0) (h6 : k ≤ 6) : SaysC (prN k) k := by
 have : k = 1 ∨ k = 2 ∨ k = 3 ∨ k = 4 ∨ k = 5 ∨ k = 6 := by omega
 rcases this with rfl | rfl | rfl | rfl | rfl | rfl
 ·exact printDomain_x
 ·exact printMail_x
 ·exact printRcpt_x
 ·exact printNothing_x
 ·exact printText_x
 ·exact printSome_x
theorem enters_P (k : Nat) (hk : k ≠ 0) (h6 : k ≤ 6) : ∀ args w, (callFunc (prN k) args).run Tryz.prog w = .ok (.enter (prN k) args) w := by
 have : k = 1 ∨ k = 2 ∨ k = 3 ∨ k = 4 ∨ k = 5 ∨ k = 6 := by omega
 rcases this with rfl | rfl | rfl | rfl | rfl | rfl
 ·exact enters_of Tryz.func127 (by kernel_rfl) rfl
 ·exact enters_of Tryz.func128 (by kernel_rfl) rfl
 ·exact enters_of Tryz.func129 (by kernel_rfl) rfl
 ·exact enters_of Tryz.func130 (by kernel_rfl) rfl
 ·exact enters_of Tryz.func131 (by kernel_rfl) rfl
 ·exact enters_of Tryz.func132 (by kernel_rfl) rfl
theorem wds_len {hd ws : Txt} {p : P.Pth} (h1 : hd.length ≤ 10) (h2 : p.1.length ≤ 1000000000) (h3 : p.2.length ≤ 1000000000) (h4 : ws.length ≤ 1000000) : (wdsV hd p ws).length ≤ 4000000000 := by
 have := textL_len p
 unfold wdsV
 rw [List.length_append, List.length_append]
 split
 ·simp; omega
 ·rw [List.length_cons]; omega
theorem bV_len (k : Nat) {c : CL} (h : Fit c) : (bV k c).length ≤ 4000000000 := by
 have h1 := h.arg
 unfold bV
 split
 ·have := domV_le c.arg
  rw [List.length_cons]; omega
 ·split
  ·exact wds_len (by decide) h.p1 h.p2 prMail_len
  ·split
   ·exact wds_len (by decide) h.p1 h.p2 prRcpt_len
   ·split
    ·exact Nat.zero_le _
    ·split
     ·exact Nat.zero_le _
     ·rw [List.length_cons]; omega
theorem printers_c {W w : World} {B : Nat} {c : CL} (h : KB W B c w) (v : Txt) (hv : v.length ≤ 1000000000) : Calls Tryz.prog 97 #[] w fun e w' => ∃ M, e = .returned (.map (some M)) ∧ Hid (KB W B c w') ∧ w'.cell? ⟨B, 0, none⟩ = some (.string (mkS c.verb)) ∧
  (Instr.lookup 137 (.map (some M)) (.string (mkS v)) true).run Tryz.prog w' = .ok (.tuple #[(mapF prN v).getD .nilFunc, .bool (mapF prN v).isSome]) w' :=
 (printers_x w).mono fun _ w' ⟨M, he, hb, hm⟩ => ⟨M, he, h.next hb, cellOf (h.next hb).box 0, hm.look_ok Tryz.underlying137 (zeroFP w') hv⟩
def CrPost (c : CL) (w : World) (e : Ending) (w' : World) : Prop := e = .returned (.tuple #[.string (mkS (prV c)), .int .i64 (prE c)]) ∧ Below w.heap.size w w'
theorem cr_no {c : CL} {w w' : World} {n : Int} (h : prE c = n) (hn : n ≠ 0) (hb : Below w.heap.size w w') : CrPost c w (.returned (.tuple #[.string { data := #[] }, .int .i64 n])) w' := by
 unfold CrPost; rw [prV, h, if_neg hn]; exact ⟨rfl, hb⟩
theorem cr_yes {c : CL} {w w' : World} {s : ByteArray} (h : prE c = 0) (hs : s = mkS (c.verb ++ bV (kindV c.verb) c)) (hb : Below w.heap.size w w') : CrPost c w (.returned (.tuple #[.string s, .int .i64 0])) w' := by
 unfold CrPost; rw [prV, h, if_pos rfl, hs]; exact ⟨rfl, hb⟩
set_option maxHeartbeats 8000000 in
theorem cprint_x (c : CL) (w : World) (hF : Fit c) (hR : Ready w) (hN : NotR w) : Calls Tryz.prog 72 #[.agg #[.string (mkS c.verb), .string (mkS c.arg), .string (mkS c.p.1), .string (mkS c.p.2), .bool c.m.hs, .bool c.m.hf, .bool c.m.hu, .bool c.m.hb, .bool c.m.hp, .int .i64 c.m.sz, .int .i64 c.m.fo, .int .i64 c.m.un, .int .i64 c.m.by_, .int .i64 c.m.pr, .string (mkS c.m.body), .string (mkS c.m.ret), .string (mkS c.m.env), .string (mkS c.m.mode), .string (mkS c.r.no), .string (mkS c.r.kind), .string (mkS c.r.oc)]] w (CrPost c w) := by
 have HP := Lib.hid (fun (W w : World) (B : Nat) (h : KB W B c w) => printers_c h c.verb hF.verb)
 have H0 := Lib.hid (show KB w w.heap.size c (w.alloc (.cells #[.string (mkS c.verb), .string (mkS c.arg), .string (mkS c.p.1), .string (mkS c.p.2), .bool c.m.hs, .bool c.m.hf, .bool c.m.hu, .bool c.m.hb, .bool c.m.hp, .int .i64 c.m.sz, .int .i64 c.m.fo, .int .i64 c.m.un, .int .i64 c.m.by_, .int .i64 c.m.pr, .string (mkS c.m.body), .string (mkS c.m.ret), .string (mkS c.m.env), .string (mkS c.m.mode), .string (mkS c.r.no), .string (mkS c.r.kind), .string (mkS c.r.oc)] 101)) from ⟨newOf w _, P.below_box w _⟩)
 by_cases hk : kindV c.verb = 0
 ·have HMF := Lib.hid (show mapF prN c.verb = none from if_pos hk)
  have HE := Lib.hid (show prE c = 10 from if_pos hk)
  clear hF hR hN hk
  go_enter Tryz.func72, Tryz.ntmps72
  go_wp2_with fail
  generalize w.alloc (.cells #[.string (mkS c.verb), .string (mkS c.arg), .string (mkS c.p.1), .string (mkS c.p.2), .bool c.m.hs, .bool c.m.hf, .bool c.m.hu, .bool c.m.hb, .bool c.m.hp, .int .i64 c.m.sz, .int .i64 c.m.fo, .int .i64 c.m.un, .int .i64 c.m.by_, .int .i64 c.m.pr, .string (mkS c.m.body), .string (mkS c.m.ret), .string (mkS c.m.env), .string (mkS c.m.mode), .string (mkS c.r.no), .string (mkS c.r.kind), .string (mkS c.r.oc)] 101) = w1 at H0 ⊢
  generalize hB : w.heap.size = B at H0 ⊢
  have HBB := Lib.hid hB
  clear hB
  have c0 : w1.cell? ⟨B, 0, none⟩ = some (.string (mkS c.verb)) := cellOf H0.out.box 0
  go_region_held3 (fun wr => wr.cell? ⟨B, 0, none⟩ = some (.string (mkS c.verb)))
   (first | exact cellOf H0.out.drew.box 0 | assumption)
   (first | (go_at_call 97; (with_reducible refine (HP.out w _ B H0.out.drew).mono ?_); rintro e w3 ⟨M, rfl, g0, g1, g2⟩; rw [HMF.out] at g2; simp only [Option.getD_none, Option.isSome_none] at g2))
  have H3 := Lib.hid g0.out.below
  clear g0 g1 g2 c0 H0
  go_wp2_with fail
  go_ret2
  exact cr_no HE.out (by decide) H3.out
 ·have HMF := Lib.hid (show mapF prN c.verb = some (.func (.func (prN (kindV c.verb))) #[] #[]) from if_neg hk)
  have HE := Lib.hid (show prE c = if bE (kindV c.verb) c = 0 then (if 510 < c.verb.length + (bV (kindV c.verb) c).length then 3 else 0) else bE (kindV c.verb) c from if_neg hk)
  have ek := enters_P _ hk (kind_le _)
  have HS := Lib.hid (fun w B h1 h2 h3 => says_C _ hk (kind_le _) w B c hF h1 h2 h3)
  have HRN := Lib.hid (fun w' (B : Nat) (h : KB w B c w') => And.intro (hR.below h.below) (hN.below h.below))
  have hbl := bV_len (kindV c.verb) hF
  have hvl := hF.verb
  have HW := Lib.hid (show bE (kindV c.verb) c = 0 → bW (kindV c.verb) c = bV (kindV c.verb) c from fun h => if_pos h)
  have HC := Lib.hid (fun w => P.clone_x c.verb w (by omega))
  have HBV := Lib.hid (fun (w' : World) (s : ByteArray) (h : prE c = 0) (hs : s = mkS (c.verb ++ bV (kindV c.verb) c)) (hb : Below w.heap.size w w') => cr_yes (c := c) (w := w) (w' := w') (s := s) h hs hb)
  generalize kindV c.verb = k at HMF HE ek HS hbl HW hk HBV
  generalize prN k = fn at HMF ek HS
  generalize bE k c = E at HE HS HW
  generalize bW k c = t at HS HW
  generalize bV k c = u at HE HW hbl HBV
  clear hF hR hN hk
  have zv := mkS_size c.verb
  have zu := mkS_size u
  have hcat : mkS c.verb ++ mkS u = mkS (c.verb ++ u) := mkS_cat _ _
  have q1 : IntKind.i64.wrap ((c.verb.length : Int) + u.length) = c.verb.length + u.length := IntWalk.i64_in _ (by omega)
  have y1 : ¬ 9223372036854775807 < (mkS c.verb).size + (mkS u).size := by omega
  have y2 : ¬ 9223372036854775807 < c.verb.length + u.length := by omega
  go_enter Tryz.func72, Tryz.ntmps72
  go_wp2_with fail
  generalize w.alloc (.cells #[.string (mkS c.verb), .string (mkS c.arg), .string (mkS c.p.1), .string (mkS c.p.2), .bool c.m.hs, .bool c.m.hf, .bool c.m.hu, .bool c.m.hb, .bool c.m.hp, .int .i64 c.m.sz, .int .i64 c.m.fo, .int .i64 c.m.un, .int .i64 c.m.by_, .int .i64 c.m.pr, .string (mkS c.m.body), .string (mkS c.m.ret), .string (mkS c.m.env), .string (mkS c.m.mode), .string (mkS c.r.no), .string (mkS c.r.kind), .string (mkS c.r.oc)] 101) = w1 at H0 ⊢
  generalize hB : w.heap.size = B at H0 ⊢
  have HBB := Lib.hid hB
  clear hB
  have c0 : w1.cell? ⟨B, 0, none⟩ = some (.string (mkS c.verb)) := cellOf H0.out.box 0
  go_region_held3 (fun wr => wr.cell? ⟨B, 0, none⟩ = some (.string (mkS c.verb)))
   (first | exact cellOf H0.out.drew.box 0 | assumption)
   (first | (go_at_call 97; (with_reducible refine (HP.out w _ B H0.out.drew).mono ?_); rintro e w3 ⟨M, rfl, g0, g1, g2⟩; rw [HMF.out] at g2; simp only [Option.getD_some, Option.isSome_some] at g2))
  have H3 := g0
  clear g0 g1 g2 c0 H0
  go_wp2_with fail
  refine (HS.out _ B (HRN.out _ _ H3.out).1 (HRN.out _ _ H3.out).2 H3.out.box).mono ?_
  rintro e w4 ⟨rfl, hb⟩
  have H4 := Lib.hid (H3.out.next hb)
  clear hb H3
  by_cases hE : E = 0
  ·subst hE
   obtain rfl := HW.out rfl
   have c0 : w4.cell? ⟨B, 0, none⟩ = some (.string (mkS c.verb)) := cellOf H4.out.box 0
   by_cases hl : 510 < c.verb.length + t.length
   ·have hlI : (510 : Int) < (c.verb.length : Int) + t.length := by omega
    have HE3 := Lib.hid (show prE c = 3 by rw [HE.out, if_pos rfl, if_pos hl])
    have HB4 := Lib.hid H4.out.below
    clear hl H4
    go_wp2_with fail
    go_ret2
    exact cr_no HE3.out (by decide) HB4.out
   ·have hlI : ¬ (510 : Int) < (c.verb.length : Int) + t.length := by omega
    have HE3 := Lib.hid (show prE c = 0 by rw [HE.out, if_pos rfl, if_neg hl])
    clear hl
    go_wp2_with fail
    refine (HC.out _).mono ?_
    rintro e w5 ⟨rfl, hb⟩
    have HB5 := Lib.hid (H4.out.next hb).below
    clear hb H4 c0
    go_wp2_with fail
    go_ret2
    exact HBV.out _ _ HE3.out rfl HB5.out
  ·have d9 : (E != 0) = true := bne_iff_ne.2 hE
   have HE3 := Lib.hid (show prE c = E by rw [HE.out, if_neg hE])
   have H0' := Lib.hid hE
   have HB4 := Lib.hid H4.out.below
   clear hE H4
   go_wp2_with fail
   go_ret2
   exact cr_no HE3.out H0'.out HB4.out
end Go.Proofs.YtojpkbonioglbaaGreatDoor
namespace Go.Proofs.YtojpkbonioglbaaGreatDoor.E
set_option maxRecDepth 100000
open Go.RowKit Go.Shelf
theorem cell_lt {w : World} {b o : Nat} {v : Value} (h : w.cell? ⟨b, o, none⟩ = some v) : b < w.heap.size := World.block_lt_of_cell? w ⟨b, o, none⟩ h
theorem cell_keep {w w' : World} {b o : Nat} {v : Value} (h : w.cell? ⟨b, o, none⟩ = some v) (hb : Below w.heap.size w w') : w'.cell? ⟨b, o, none⟩ = some v := (hb.cell (p := ⟨b, o, none⟩) (cell_lt h)).trans h
structure Rdy (w : World) : Prop where
 r : Ready w
 n : NotR w
 mx : ∃ m, w.cell? ⟨3, 0, none⟩ = some (.int .i64 m)
theorem Rdy.below {w w' : World} (h : Rdy w) (hb : Below w.heap.size w w') : Rdy w' := by
 obtain ⟨h1, h2, ⟨m, h3⟩⟩ := h
 exact ⟨h1.below hb, h2.below hb, ⟨m, cell_keep h3 hb⟩⟩
theorem grown_below {w w' : World} {r : Option Nat} (h : w.grownBy w' r) {B : Nat} (hB : B ≤ w.heap.size) (hr : ∀ k, r = some k → B ≤ k) : Below B w w' :=
 (Below.refl B w).grown h hB hr
set_option maxHeartbeats 1000000 in
theorem within_x (n a b : Int) (w : World) : Calls Tryz.prog 48 #[.int .i64 n, .int .i64 a, .int .i64 b] w fun e w' => e = .returned (.bool (decide (a ≤ n) && decide (n ≤ b))) ∧ w = w' := by
 cases h1 : decide (a ≤ n) <;> cases h2 : decide (n ≤ b)
 all_goals
  go_enter Tryz.func48, Tryz.ntmps48
  go_wp2_with fail
  go_ret
  exact ⟨rfl, rfl⟩
end Go.Proofs.YtojpkbonioglbaaGreatDoor.E
namespace Go.Proofs.YtojpkbonioglbaaGreatDoor.E
set_option maxRecDepth 100000
open Go.RowKit Go.Shelf
theorem itoa_w (n : Int) (w : World) (h0 : -9223372036854775808 ≤ n) (h1 : n ≤ 9223372036854775807) (hR : Rdy w) : Calls Tryz.prog 22 #[.int .i64 n] w fun e w' => e = .returned (.string (mkS (Lib.itoa n))) ∧ Below w.heap.size w w' :=
 (Tryz.strconv_Itoa n h0 h1 w hR.r.2).mono fun _ _ ⟨he, k, os, hw⟩ => ⟨he, by rw [hw]; exact Lib.below_grow _ w (Nat.le_refl _) k os⟩
structure WB (W : World) (a b c : Int) (l : List Txt) (v : Value) (w : World) : Prop where
 box : w.heap[W.heap.size]? = some (.cells #[.int .i64 a, .int .i64 b, .int .i64 c] 35 (0, 0))
 row : w.ownsRow (W.heap.size + 1) 9 1 v l.length (strsV l)
 below : Below W.heap.size W w
theorem WB.next {W w w' : World} {a b c : Int} {l : List Txt} {v : Value} (h : WB W a b c l v w) (hb : Below w.heap.size w w') : WB W a b c l v w' :=
 ⟨(hb.block _ (ltOf h.box)).trans h.box, own_below h.row hb, below_next h.below hb⟩
theorem WB.app {W w w' : World} {a b c : Int} {l l' : List Txt} {v v' : Value} {o : Obj} (h : WB W a b c l v w) {n : Nat} (hown : w'.ownsRow (W.heap.size + 1) 9 1 v' n (strsV l')) (hn : n = l'.length) (hg : (w.alloc o).grownBy w' v.ownBlock) : WB W a b c l' v' w' := by
 subst hn
 have hlt := ltOf h.box
 have hne : ∀ k, v.ownBlock = some k → W.heap.size + 1 ≤ k := fun k hk => (h.row.lt k hk).1
 refine ⟨?_, hown, ?_⟩
 ·refine (hg.block _ (by simp; omega) (fun e => ?_)).trans ((Below.heap_alloc w o _ hlt).trans h.box)
  have := hne _ e.symm; omega
 ·exact (h.below.alloc h.below.size o).grown hg (by have := h.below.size; simp; omega) (fun k hk => by have := hne k hk; omega)
def numL (a b c : Int) : List Txt := [Lib.itoa a, Lib.itoa b, Lib.itoa c]
theorem words_join (a b c : Int) : joinC 32 (numL a b c) = wordsI a b c := rfl
def I64 (n : Int) : Prop := -9223372036854775808 ≤ n ∧ n ≤ 9223372036854775807
theorem itoa_20 {n : Int} (h : I64 n) : (Lib.itoa n).length ≤ 21 := by
 unfold I64 at h
 unfold Lib.itoa
 split
 ·have := (dd_all 19 n.natAbs (by omega)).2.1
  simp only [List.length_cons]; omega
 ·have := (dd_all 19 n.toNat (by omega)).2.1
  omega
set_option maxHeartbeats 4000000 in
theorem words_x (a b c : Int) (w : World) (ha : I64 a) (hb : I64 b) (hc : I64 c) (hR : Rdy w) : Calls Tryz.prog 50 #[.agg #[.int .i64 a, .int .i64 b, .int .i64 c]] w fun e w' => e = .returned (.string (mkS (wordsI a b c))) ∧ Below w.heap.size w w' := by
 have h0 := Lib.hid (show WB w a b c [] (.slice none 0 0) (w.alloc (.cells #[.int .i64 a, .int .i64 b, .int .i64 c] 35)) from ⟨newOf w _, strs_nil _ _, (Below.refl _ w).alloc (Nat.le_refl _) _⟩)
 have HR := Lib.hid (fun w' (h : Below w.heap.size w w') => hR.below h)
 have HA := Lib.hid ha
 have HB := Lib.hid hb
 have HC := Lib.hid hc
 have la := itoa_20 ha
 have lb := itoa_20 hb
 have lc := itoa_20 hc
 have HL := Lib.hid (show Lib.lens (numL a b c) ≤ 1000 by simp only [numL, Lib.lens, List.map_cons, List.map_nil, List.sum_cons, List.sum_nil]; omega)
 have HJ := Lib.hid (words_join a b c)
 clear hR ha hb hc la lb lc
 go_enter Tryz.func50, Tryz.ntmps50
 go_wp2_with fail
 go_loopw [3, 5] (fun v i wr => ∃ k : Nat, k ≤ 3 ∧ i = .int .i64 k ∧ Hid (WB w a b c ((numL a b c).take k) v wr)) (fun _ i _ => 3 - (intOf i).toNat)
 case atStart => exact ⟨0, Nat.zero_le _, rfl, h0.out⟩
 case round =>
  obtain ⟨k, hk, rfl, HW⟩ := hrel
  obtain ⟨A, cp, rfl⟩ := strs_slice HW.out.row
  have hkk : k = 3 ∨ (k < 3 ∧ ∃ n, I64 n ∧ (#[.int .i64 a, .int .i64 b, .int .i64 c] : Array Value)[k]? = some (.int .i64 n) ∧ (numL a b c).take (k + 1) = (numL a b c).take k ++ [Lib.itoa n]) := by
   have : k = 0 ∨ k = 1 ∨ k = 2 ∨ k = 3 := by omega
   rcases this with rfl | rfl | rfl | rfl
   ·exact .inr ⟨by omega, a, HA.out, rfl, rfl⟩
   ·exact .inr ⟨by omega, b, HB.out, rfl, rfl⟩
   ·exact .inr ⟨by omega, c, HC.out, rfl, rfl⟩
   ·exact .inl rfl
  rcases hkk with rfl | ⟨hlt, n, hn, hcn, htk⟩
  ·have HJN := Lib.hid (fun w' (h : WB w a b c ((numL a b c).take 3) (.slice A ((numL a b c).take 3).length cp) w') => join_x 32 _ _ ((numL a b c).take 3) w' h.row (by simp [numL]) (by have := HL.out; rw [show (numL a b c).take 3 = numL a b c from rfl]; omega))
   go_wp2_with fail
   refine (HJN.out _ HW.out).mono ?_
   rintro e w1 ⟨rfl, hb1⟩
   go_wp2_with fail
   go_ret
   exact ⟨rfl, below_next HW.out.below hb1⟩
  ·have hcl : wr.cell? ⟨w.heap.size, k, none⟩ = some (.int .i64 n) := (cellOf HW.out.box k).trans hcn
   have HI := Lib.hid (itoa_w n wr hn.1 hn.2 (HR.out _ HW.out.below))
   have HT := Lib.hid htk
   have hll : ((numL a b c).take k).length ≤ 3 := by rw [List.length_take]; simp [numL]; omega
   clear hn hcn htk
   generalize (numL a b c).take k = P at HW HT hll ⊢
   go_wp2_with fail
   refine HI.out.mono ?_
   rintro e w1 ⟨rfl, hb1⟩
   have HW1 := Lib.hid (HW.out.next hb1)
   clear hb1
   go_wp2_with (at_builtin; refine app_strs rfl (.tmp 8) (.tmp 13) rfl (w.heap.size + 1) (.slice A P.length cp) P rfl (HW1.out.row.alloc _) ⟨w1.heap.size, 0, none⟩ 1 1 [Lib.itoa n] rfl rfl ?a1 ?a2 ?a3 ?_)
   case a1 => exact news_one w1 _
   case a2 => omega
   case a3 => have := HW1.out.below.size; have := ltOf HW1.out.box; simp; omega
   intro v1 w2 hown hg _
   have HW2 := Lib.hid (HW1.out.app (l' := P ++ [Lib.itoa n]) hown (by simp) hg)
   clear hown hg
   go_wp2_with fail
   go_roundw
   case rel => exact ⟨k + 1, by omega, by go_num, by rw [HT.out]; exact HW2⟩
   case measure => simp [intOf]; omega
end Go.Proofs.YtojpkbonioglbaaGreatDoor.E
namespace Go.Proofs.YtojpkbonioglbaaGreatDoor.E
set_option maxRecDepth 100000
open Go.RowKit Go.Shelf
abbrev TC (t : ST) : Array Value := #[.int .i64 t.pl, .string (mkS t.st), .int .i64 t.tr, .int .i64 t.ne, .int .i64 t.told]
def StPost (t : ST) (w : World) (e : Ending) (w' : World) : Prop := e = .returned (.tuple #[.string (mkS (stV t)), .int .i64 (stE t)]) ∧ Below w.heap.size w w'
theorem st_post_10 {t : ST} {w w' : World} (h : stateB t.st = false) (hb : Below w.heap.size w w') : StPost t w (.returned (.tuple #[.string { data := #[] }, .int .i64 10])) w' := by
 have e : stE t = 10 := by unfold stE; rw [if_pos h]
 unfold StPost stV
 rw [e, if_neg (by decide)]
 exact ⟨rfl, hb⟩
theorem st_post_1 {t : ST} {w w' : World} (h : stateB t.st = true) (hi : (inI t.pl 0 7 && inI t.tr 0 1000 && inI t.ne 0 2199023255552 && inI t.told 0 7) = false) (hb : Below w.heap.size w w') : StPost t w (.returned (.tuple #[.string { data := #[] }, .int .i64 1])) w' := by
 have e : stE t = 1 := by unfold stE; rw [h, if_neg (by decide), if_pos hi]
 unfold StPost stV
 rw [e, if_neg (by decide)]
 exact ⟨rfl, hb⟩
theorem st_post_0 {t : ST} {w w' : World} {s : ByteArray} (h : stateB t.st = true) (hi : (inI t.pl 0 7 && inI t.tr 0 1000 && inI t.ne 0 2199023255552 && inI t.told 0 7) = true) (hs : s = mkS (bytesT t)) (hb : Below w.heap.size w w') : StPost t w (.returned (.tuple #[.string s, .int .i64 0])) w' := by
 have e : stE t = 0 := by unfold stE; rw [h, if_neg (by decide), hi, if_neg (by decide)]
 unfold StPost stV
 rw [e, if_pos rfl, hs]
 exact ⟨rfl, hb⟩
theorem within_i (n a b : Int) (w : World) : Calls Tryz.prog 48 #[.int .i64 n, .int .i64 a, .int .i64 b] w fun e w' => e = .returned (.bool (inI n a b)) ∧ w = w' := within_x n a b w
theorem cat_t (si ss sw : Txt) : ({ data := #[83, 32] } ++ mkS si ++ { data := #[32] } ++ mkS ss ++ { data := #[32] } ++ mkS sw : ByteArray) = mkS (83 :: 32 :: (si ++ (32 :: (ss ++ (32 :: sw))))) := by
 rw [show ({ data := #[83, 32] } : ByteArray) = mkS [83, 32] from rfl, show ({ data := #[32] } : ByteArray) = mkS [32] from rfl, mkS_cat, mkS_cat, mkS_cat, mkS_cat, mkS_cat]
 simp
theorem in_bd {n a b : Int} (h : inI n a b = true) : a ≤ n ∧ n ≤ b := by
 unfold inI at h
 simpa using h
end Go.Proofs.YtojpkbonioglbaaGreatDoor.E
namespace Go.Proofs.YtojpkbonioglbaaGreatDoor.E
set_option maxRecDepth 100000
open Go.RowKit Go.Shelf
def RC (c : Rc) : Array Value := #[.string (mkS c.p.1), .string (mkS c.p.2), .string (mkS c.r.no), .string (mkS c.r.kind), .string (mkS c.r.oc)]
def EC (x : EM) (vr vl : Value) : Array Value := #[.int .i64 x.id, .int .i64 x.at_, .int .i64 x.rel, .string (mkS x.fr.1), .string (mkS x.fr.2), .bool x.m.hs, .bool x.m.hf, .bool x.m.hu, .bool x.m.hb, .bool x.m.hp, .int .i64 x.m.sz, .int .i64 x.m.fo, .int .i64 x.m.un, .int .i64 x.m.by_, .int .i64 x.m.pr, .string (mkS x.m.body), .string (mkS x.m.ret), .string (mkS x.m.env), .string (mkS x.m.mode), vr, vl]
structure RcAt (w : World) (A : Addr) (c : Rc) : Prop where
 lt : A.block < w.heap.size
 c0 : w.cell? A = some (.string (mkS c.p.1))
 c1 : w.cell? ⟨A.block, A.off + 1, none⟩ = some (.string (mkS c.p.2))
 c2 : w.cell? ⟨A.block, A.off + 2, none⟩ = some (.string (mkS c.r.no))
 c3 : w.cell? ⟨A.block, A.off + 3, none⟩ = some (.string (mkS c.r.kind))
 c4 : w.cell? ⟨A.block, A.off + 4, none⟩ = some (.string (mkS c.r.oc))
def RcsAt (w : World) (v : Value) (l : List Rc) : Prop := ∃ (a : Option Addr) (cap : Nat), v = .slice a l.length cap ∧ l.length ≤ cap ∧ (a = none → cap = 0) ∧ ∀ i c, l[i]? = some c → ∃ A, a = some A ∧ A.block < w.heap.size ∧ RcAt w (A.add (i * 5)) c
theorem RcAt.below {w w' : World} {B : Nat} {A : Addr} {c : Rc} (h : RcAt w A c) (hb : Below B w w') (hB : A.block < B) : RcAt w' A c :=
 ⟨Nat.lt_of_lt_of_le h.lt hb.size, (hb.cell (p := A) hB).trans h.c0, (hb.cell (p := ⟨A.block, A.off + 1, none⟩) hB).trans h.c1, (hb.cell (p := ⟨A.block, A.off + 2, none⟩) hB).trans h.c2, (hb.cell (p := ⟨A.block, A.off + 3, none⟩) hB).trans h.c3, (hb.cell (p := ⟨A.block, A.off + 4, none⟩) hB).trans h.c4⟩
theorem RcsAt.below {w w' : World} {v : Value} {l : List Rc} (h : RcsAt w v l) (hb : Below w.heap.size w w') : RcsAt w' v l := by
 obtain ⟨a, cap, hv, hc, hn, hx⟩ := h
 refine ⟨a, cap, hv, hc, hn, fun i c hi => ?_⟩
 obtain ⟨A, hA, hl, hat⟩ := hx i c hi
 exact ⟨A, hA, Nat.lt_of_lt_of_le hl hb.size, hat.below hb hat.lt⟩
theorem rcs_nil (w : World) : RcsAt w (.slice none 0 0) [] := ⟨none, 0, rfl, Nat.le_refl _, fun _ => rfl, fun i t h => by simp at h⟩
theorem add_at (g o n : Nat) : (⟨g, o, none⟩ : Addr).add n = ⟨g, o + n, none⟩ := by
 unfold Addr.add
 split
 ·rename_i h; rw [h]; rfl
 ·rfl
theorem size_msg : (Tryz.prog.info? 34).map (·.size) = some 21 := by kernel_rfl
structure EAt (w : World) (x : EM) (vr vl : Value) : Prop where
 rc : RcsAt w vr x.rc
 ls : TxtsAt w vl x.ls
theorem EAt.below {w w' : World} {x : EM} {vr vl : Value} (h : EAt w x vr vl) (hb : Below w.heap.size w w') : EAt w' x vr vl := ⟨h.rc.below hb, h.ls.below hb⟩
theorem one_EC {x : EM} {vr vl : Value} {w : World} (h : EAt w x vr vl) : (EC x vr vl).all (·.oneCell') = true := by
 obtain ⟨a, c, rfl, _⟩ := h.rc
 obtain ⟨b, d, rfl, _⟩ := h.ls
 kernel_rfl
theorem whole_EC (cs : Array Value) (x : EM) (vr vl : Value) (h : cs.size = 21) : EC x vr vl = (cs.toList.take 0 ++ (EC x vr vl).toList ++ cs.toList.drop (0 + (EC x vr vl).size)).toArray := by
 have e : (EC x vr vl).size = 21 := rfl
 rw [e, List.drop_of_length_le (by simp [h])]
 simp
theorem Tryz.infoCmd : (Tryz.prog.info? 101).map (fun i => (i.zero, i.size, i.bytes)) = some (some (.agg (CC zeroC)), 21, 224) := by kernel_rfl
def cmdsV (l : List CL) : List Value := l.flatMap fun c => (CC c).toList
theorem CC_len (c : CL) : (CC c).toList.length = 21 := rfl
theorem cmdsV_length (l : List CL) : (cmdsV l).length = l.length * 21 := by
 induction l with
 | nil => rfl
 | cons c l ih =>
  rw [cmdsV, List.flatMap_cons, List.length_append, CC_len]
  rw [cmdsV] at ih
  rw [ih, List.length_cons]; omega
theorem cmdsV_append (l m : List CL) : cmdsV (l ++ m) = cmdsV l ++ cmdsV m := by simp [cmdsV]
theorem app_cmds {w : World} {ops : Array Oper} {rest : List Oper} {o : Oper} {a : Act} {Q : Exit → Act → World → Prop} (hgd : o.guard = none) (s x : Operand)
  (ho : o.op = .call { callee := .builtin .append, args := #[s, x], argTypes := #[102, 102] }) (base : Nat) (v : Value) (l : List CL) (hs : a.eval s = v) (hown : w.ownsRow base 101 21 v l.length (cmdsV l))
  (b : Nat) (c : CL) (hx : a.eval x = .slice (some ⟨b, 0, none⟩) 1 1) (hb : w.heap[b]? = some (.cells (CC c) 101 (0, 0))) (h9 : l.length ≤ 1000000) (hbase : base ≤ w.heap.size)
  (h : ∀ v' w', w'.ownsRow base 101 21 v' (l ++ [c]).length (cmdsV (l ++ [c])) → w.grownBy w' v.ownBlock → wpList Tryz.prog ops Q rest (a.put o.dst v') w') :
  wpList Tryz.prog ops Q (o :: rest) a w := by
 obtain ⟨i0, hi, hz0, hz1, hz2⟩ := info_parts Tryz.infoCmd
 refine wpList_append_own_at (w := w) hgd s x 102 ho base 101 i0 (.agg (CC zeroC)) 21 224 Tryz.underlying102 hi hz0 hz1 hz2 rfl (by decide) v l.length (cmdsV l) hs hown ⟨b, 0, none⟩ 1 1 (CC c).toList hx rfl ?_ ?_ (by unfold maxLen; omega) (by omega) hbase ?_
 ·intro j u hj
  rw [add_at, Nat.zero_add, cellOf hb]
  rw [Array.getElem?_toList] at hj
  exact hj
 ·intro u hu
  have := one_CC c
  rw [Array.all_eq_true'] at this
  exact this u (by simpa using hu)
 ·intro v' w' h1 h2 _ _
  refine h v' w' ?_ h2
  rw [List.length_append, cmdsV_append]
  simpa [cmdsV] using h1
theorem own_cmd {w : World} {B : Nat} {v : Value} {l : List CL} (h : w.ownsRow B 101 21 v l.length (cmdsV l)) {k : Nat} {c : CL} (hk : l[k]? = some c) : ∃ g cap cur, v = .slice (some ⟨g, 0, none⟩) l.length cap ∧ B ≤ g ∧ w.heap[g]? = some (.cells cur 101 (0, 0)) ∧ ∀ j, j < (CC c).size → cur[k * 21 + j]? = (CC c)[j]? := by
 obtain ⟨hlt, hc⟩ := List.getElem?_eq_some_iff.1 hk
 rcases h.2 with ⟨_, h0⟩ | ⟨g, cap, cur, hv, hB, hh, hn, _, hsz, htk⟩
 ·omega
 ·refine ⟨g, cap, cur, hv, hB, hh, fun j hj => ?_⟩
  have hj21 : j < 21 := hj
  have e1 : (cmdsV l)[k * 21 + j]? = (CC c)[j]? := by
   have hs : l = l.take k ++ c :: l.drop (k + 1) := by
    rw [← hc, ← List.drop_eq_getElem_cons hlt, List.take_append_drop]
   have e2 : cmdsV l = cmdsV (l.take k) ++ ((CC c).toList ++ cmdsV (l.drop (k + 1))) := by
    conv => lhs; rw [hs, cmdsV_append]
    rfl
   have e3 : (cmdsV (l.take k)).length = k * 21 := by rw [cmdsV_length, List.length_take]; rw [Nat.min_eq_left (by omega)]
   rw [e2, List.getElem?_append_right (by omega), e3, Nat.add_sub_cancel_left, List.getElem?_append_left (by rw [CC_len]; exact hj21), Array.getElem?_toList]
  rw [← e1, ← htk, List.getElem?_take, if_pos (by omega), Array.getElem?_toList]
theorem Tryz.infoRc : (Tryz.prog.info? 49).map (fun i => (i.zero, i.size, i.bytes)) = some (some (.agg #[.string { data := #[] }, .string { data := #[] }, .string { data := #[] }, .string { data := #[] }, .string { data := #[] }]), 5, 80) := by kernel_rfl
def rcV (l : List Rc) : List Value := l.flatMap fun c => (RC c).toList
theorem RC_len (c : Rc) : (RC c).toList.length = 5 := rfl
theorem rcV_length (l : List Rc) : (rcV l).length = l.length * 5 := by
 induction l with
 | nil => rfl
 | cons c l ih =>
  rw [rcV, List.flatMap_cons, List.length_append, RC_len]
  rw [rcV] at ih
  rw [ih, List.length_cons]; omega
theorem rcV_append (l m : List Rc) : rcV (l ++ m) = rcV l ++ rcV m := by simp [rcV]
theorem app_rcs {w : World} {ops : Array Oper} {rest : List Oper} {o : Oper} {a : Act} {Q : Exit → Act → World → Prop} (hgd : o.guard = none) (s x : Operand)
  (ho : o.op = .call { callee := .builtin .append, args := #[s, x], argTypes := #[32, 32] }) (base : Nat) (v : Value) (l : List Rc) (hs : a.eval s = v) (hown : w.ownsRow base 49 5 v l.length (rcV l))
  (A : Addr) (c : Rc) (n : Nat) (hx : a.eval x = .slice (some A) 1 n) (hb : ∀ j u, (RC c).toList[j]? = some u → w.cell? (A.add j) = some u) (h9 : l.length ≤ 1000000) (hbase : base ≤ w.heap.size)
  (h : ∀ v' w', w'.ownsRow base 49 5 v' (l ++ [c]).length (rcV (l ++ [c])) → w.grownBy w' v.ownBlock → wpList Tryz.prog ops Q rest (a.put o.dst v') w') :
  wpList Tryz.prog ops Q (o :: rest) a w := by
 obtain ⟨i0, hi, hz0, hz1, hz2⟩ := info_parts Tryz.infoRc
 refine wpList_append_own_at (w := w) hgd s x 32 ho base 49 i0 _ 5 80 Tryz.underlying32 hi hz0 hz1 hz2 rfl (by decide) v l.length (rcV l) hs hown A 1 n (RC c).toList hx rfl hb ?_ (by unfold maxLen; omega) (by omega) hbase ?_
 ·intro u hu
  have hu' : u ∈ [Value.string (mkS c.p.1), .string (mkS c.p.2), .string (mkS c.r.no), .string (mkS c.r.kind), .string (mkS c.r.oc)] := hu
  simp only [List.mem_cons, List.not_mem_nil, or_false] at hu'
  rcases hu' with rfl | rfl | rfl | rfl | rfl <;> rfl
 ·intro v' w' h1 h2 _ _
  refine h v' w' ?_ h2
  rw [List.length_append, rcV_append]
  simpa [rcV] using h1
theorem own_rcs {w : World} {B : Nat} {v : Value} {l : List Rc} (h : w.ownsRow B 49 5 v l.length (rcV l)) : RcsAt w v l := by
 rcases h.2 with ⟨rfl, h0⟩ | ⟨g, cap, cur, hv, hB, hh, hn, _, hsz, htk⟩
 ·have e : l = [] := List.eq_nil_of_length_eq_zero h0
  subst e
  exact rcs_nil w
 ·refine ⟨some ⟨g, 0, none⟩, cap, hv, hn, fun e => (by cases e), fun i c hi => ⟨_, rfl, ltOf hh, ?_⟩⟩
  obtain ⟨hlt, hc⟩ := List.getElem?_eq_some_iff.1 hi
  have key : ∀ j, j < 5 → cur[i * 5 + j]? = (RC c)[j]? := fun j hj => by
   have e1 : (rcV l)[i * 5 + j]? = (RC c)[j]? := by
    have hs : l = l.take i ++ c :: l.drop (i + 1) := by
     rw [← hc, ← List.drop_eq_getElem_cons hlt, List.take_append_drop]
    have e2 : rcV l = rcV (l.take i) ++ ((RC c).toList ++ rcV (l.drop (i + 1))) := by
     conv => lhs; rw [hs, rcV_append]
     rfl
    have e3 : (rcV (l.take i)).length = i * 5 := by rw [rcV_length, List.length_take]; rw [Nat.min_eq_left (by omega)]
    rw [e2, List.getElem?_append_right (by omega), e3, Nat.add_sub_cancel_left, List.getElem?_append_left (by rw [RC_len]; exact hj), Array.getElem?_toList]
   rw [← e1, ← htk, List.getElem?_take, if_pos (by omega), Array.getElem?_toList]
  rw [add_at, Nat.zero_add]
  refine ⟨ltOf hh, ?_, ?_, ?_, ?_, ?_⟩
  ·rw [cellOf hh]; exact key 0 (by decide)
  ·rw [cellOf hh]; exact key 1 (by decide)
  ·rw [cellOf hh]; exact key 2 (by decide)
  ·rw [cellOf hh]; exact key 3 (by decide)
  ·rw [cellOf hh]; exact key 4 (by decide)
structure FitE (x : EM) : Prop where
 fr : x.fr.1.length ≤ 1000000000 ∧ x.fr.2.length ≤ 1000000000
 rc : ∀ c ∈ x.rc, c.p.1.length ≤ 1000000000 ∧ c.p.2.length ≤ 1000000000 ∧ c.r.kind.length ≤ 1000000000
 rn : x.rc.length ≤ 100000
 ls : (L.joinB (bs x.ls)).length ≤ 1000000000
 ln : x.ls.length ≤ 1000000
theorem fit_cmds {x : EM} (h : FitE x) : ∀ c ∈ cmds x, Fit c := by
 intro c hc
 rcases List.mem_cons.1 hc with rfl | hc
 ·exact ⟨by simp [cmdM, vMAIL], by simp [cmdM], h.fr.1, h.fr.2, by simp [cmdM, zeroR]⟩
 ·obtain ⟨d, hd, rfl⟩ := List.mem_map.1 hc
  obtain ⟨h1, h2, h3⟩ := h.rc d hd
  exact ⟨by simp [cmdR, vRCPT], by simp [cmdR], h1, h2, h3⟩
theorem txts_strs {w : World} {a : Option Addr} {n cap : Nat} {l : List Txt} (h : TxtsAt w (.slice a n cap) l) : L.Strs w a n (bs l) := by
 obtain ⟨a', cap', hv, _, hn, hc⟩ := h
 injection hv with h1 h2 h3
 subst h1 h2 h3
 refine ⟨by simp [bs], fun h0 => ?_⟩
 cases l with
 | nil => simp at h0
 | cons t l =>
  obtain ⟨A, hA, hlt, _⟩ := hc 0 t rfl
  refine ⟨A, hA, hlt, fun j p hj => ?_⟩
  rw [bs, List.getElem?_map, Option.map_eq_some_iff] at hj
  obtain ⟨u, hu, rfl⟩ := hj
  obtain ⟨A', hA', _, hcu⟩ := hc j u hu
  rw [hA] at hA'
  injection hA' with hA'
  rw [hA']; exact hcu
theorem sayE_at : ∀ {l : List CL} {k : Nat} {c : CL}, (∀ d ∈ l.take k, prE d = 0) → l[k]? = some c → prE c ≠ 0 → sayE l = prE c
 | [], k, c, _, h, _ => by simp at h
 | a :: l, 0, c, _, h, hne => by
  simp at h
  subst h
  rw [sayE, if_neg hne]
 | a :: l, k + 1, c, ha, h, hne => by
  rw [sayE, if_pos (ha a (by simp))]
  exact sayE_at (k := k) (fun d hd => ha d (by rw [List.take_succ_cons]; exact List.mem_cons_of_mem _ hd)) (by simpa using h) hne
end Go.Proofs.YtojpkbonioglbaaGreatDoor.E
namespace Go.Proofs.YtojpkbonioglbaaGreatDoor.E
set_option maxRecDepth 100000
open Go.RowKit Go.Shelf
structure GB (W : World) (x : EM) (vr vl : Value) (l : List CL) (v : Value) (w : World) : Prop where
 box : w.heap[W.heap.size]? = some (.cells (EC x vr vl) 34 (0, 0))
 row : w.ownsRow (W.heap.size + 1) 101 21 v l.length (cmdsV l)
 below : Below W.heap.size W w
theorem GB.next {W w w' : World} {x : EM} {vr vl : Value} {l : List CL} {v : Value} (h : GB W x vr vl l v w) (hb : Below w.heap.size w w') : GB W x vr vl l v w' :=
 ⟨(hb.block _ (ltOf h.box)).trans h.box, own_below h.row hb, below_next h.below hb⟩
theorem GB.app {W w w' : World} {x : EM} {vr vl : Value} {l l' : List CL} {v v' : Value} {n : Nat} (h : GB W x vr vl l v w) (hown : w'.ownsRow (W.heap.size + 1) 101 21 v' n (cmdsV l')) (hn : n = l'.length) (hg : w.grownBy w' v.ownBlock) : GB W x vr vl l' v' w' := by
 subst hn
 have hlt := ltOf h.box
 have hne : ∀ k, v.ownBlock = some k → W.heap.size + 1 ≤ k := fun k hk => (h.row.lt k hk).1
 refine ⟨?_, hown, ?_⟩
 ·refine (hg.block _ hlt (fun e => ?_)).trans h.box
  have := hne _ e.symm; omega
 ·exact h.below.grown hg h.below.size (fun k hk => by have := hne k hk; omega)
theorem cmd_slice {w : World} {B : Nat} {v : Value} {l : List CL} (h : w.ownsRow B 101 21 v l.length (cmdsV l)) : ∃ A c, v = .slice A l.length c := own_slice h
structure SB (W : World) (b : Nat) (l : List CL) (v : Value) (t : Txt) (w : World) : Prop where
 row : w.ownsRow (W.heap.size + 1) 101 21 v l.length (cmdsV l)
 lt : ∀ k, v.ownBlock = some k → k < b
 bld : Bld b t w
 below : Below W.heap.size W w
 ge : W.heap.size ≤ b
theorem SB.start {W w : World} {x : EM} {vr vl : Value} {l : List CL} {v : Value} (h : GB W x vr vl l v w) : SB W w.heap.size l v [] (w.alloc (.cells #[.pointer none, .slice none 0 0] 105)) :=
 ⟨h.row.alloc _, fun k hk => (h.row.lt k hk).2, bld_new w, h.below.alloc h.below.size _, h.below.size⟩
theorem SB.next {W w w' : World} {b : Nat} {l : List CL} {v : Value} {t : Txt} (h : SB W b l v t w) (hb : Below w.heap.size w w') : SB W b l v t w' :=
 ⟨own_below h.row hb, h.lt, h.bld.below hb, below_next h.below hb, h.ge⟩
theorem SB.write {W w w' : World} {b : Nat} {l : List CL} {v : Value} {t u : Txt} (h : SB W b l v t w) (hu : Bld b u w') (hb : Below b w w') : SB W b l v u w' :=
 ⟨own_of h.row fun k hk => hb.block k (h.lt k hk), h.lt, hu, h.below.trans (hb.mono h.ge), h.ge⟩
theorem SB.apart {W w w' : World} {o : Obj} {b : Nat} {l : List CL} {v : Value} {t : Txt} (h : SB W b l v t w) (hA : Apart w.heap.size (w.alloc o).heap.size (w.alloc o) w') : SB W b l v t w' := by
 have hb : Below w.heap.size w w' := ((Below.refl _ w).alloc (Nat.le_refl _) o).trans (hA.below (by simp) (Nat.le_refl _))
 exact h.next hb
def CmsPost (x : EM) (w : World) (e : Ending) (w' : World) : Prop := e = .returned (.tuple #[.string (mkS (if sayE (cmds x) = 0 then sayV (cmds x) else [])), .int .i64 (sayE (cmds x))]) ∧ Below w.heap.size w w'
theorem sayV_take {l : List CL} {k : Nat} {c : CL} (h : l[k]? = some c) : sayV (l.take (k + 1)) = sayV (l.take k) ++ (prV c ++ [13, 10]) := by
 obtain ⟨hk, rfl⟩ := List.getElem?_eq_some_iff.1 h
 rw [List.take_succ_eq_append_getElem hk, sayV, sayV, List.flatMap_append]
 simp
theorem sayV_le : ∀ (l : List CL), (sayV l).length ≤ 512 * l.length
 | [] => by simp [sayV]
 | c :: l => by
  have ih := sayV_le l
  have := prV_len (c := c)
  have e : sayV (c :: l) = prV c ++ [13, 10] ++ sayV l := by simp [sayV]
  rw [e]
  simp only [List.length_append, List.length_cons, List.length_nil]
  omega
theorem cms_err {x : EM} {c : CL} {k : Nat} {w w' : World} (h1 : ∀ d ∈ (cmds x).take k, prE d = 0) (h2 : (cmds x)[k]? = some c) (h3 : prE c ≠ 0) (hb : Below w.heap.size w w') : CmsPost x w (.returned (.tuple #[.string { data := #[] }, .int .i64 (prE c)])) w' := by
 unfold CmsPost
 rw [sayE_at h1 h2 h3, if_neg h3]
 exact ⟨rfl, hb⟩
theorem cms_ok {x : EM} {w w' : World} {t : Txt} (h1 : ∀ d ∈ cmds x, prE d = 0) (ht : t = sayV (cmds x)) (hb : Below w.heap.size w w') : CmsPost x w (.returned (.tuple #[.string (mkS t), .int .i64 0])) w' := by
 unfold CmsPost
 rw [sayE_of h1, if_pos rfl, ht]
 exact ⟨rfl, hb⟩
theorem take_all {l : List CL} {k : Nat} {c : CL} (h : l[k]? = some c) (ha : ∀ d ∈ l.take k, prE d = 0) (hc : prE c = 0) : ∀ d ∈ l.take (k + 1), prE d = 0 := by
 obtain ⟨hk, rfl⟩ := List.getElem?_eq_some_iff.1 h
 rw [List.take_succ_eq_append_getElem hk]
 intro d hd
 rcases List.mem_append.1 hd with hd | hd
 ·exact ha d hd
 ·rw [List.mem_singleton.1 hd]; exact hc
theorem new_two (w : World) (o p : Obj) : ((w.alloc o).alloc p).heap[w.heap.size + 1]? = some p := by
 have := newOf (w.alloc o) p
 rwa [show (w.alloc o).heap.size = w.heap.size + 1 by simp] at this
set_option maxHeartbeats 8000000 in
theorem commands_x (x : EM) (vr vl : Value) (w : World) (hE : EAt w x vr vl) (hF : FitE x) (hR : Rdy w) : Calls Tryz.prog 47 #[.agg #[.int .i64 x.id, .int .i64 x.at_, .int .i64 x.rel, .string (mkS x.fr.1), .string (mkS x.fr.2), .bool x.m.hs, .bool x.m.hf, .bool x.m.hu, .bool x.m.hb, .bool x.m.hp, .int .i64 x.m.sz, .int .i64 x.m.fo, .int .i64 x.m.un, .int .i64 x.m.by_, .int .i64 x.m.pr, .string (mkS x.m.body), .string (mkS x.m.ret), .string (mkS x.m.env), .string (mkS x.m.mode), vr, vl]] w (CmsPost x w) := by
 have hE' := hE.rc
 obtain ⟨ra, rcap, rfl, _, _, hrc⟩ := hE'
 have HF := Lib.hid (fun c (hc : c ∈ cmds x) => fit_cmds hF c hc)
 have hrn := hF.rn
 have HR := Lib.hid (fun w' (h : Below w.heap.size w w') => hR.below h)
 have HRC := Lib.hid hrc
 have HG0 := Lib.hid (show GB w x (.slice ra x.rc.length rcap) vl [cmdM x] (.slice (some ⟨w.heap.size + 1, 0, none⟩) 1 1) ((w.alloc (.cells (EC x (.slice ra x.rc.length rcap) vl) 34)).alloc (.cells (CC (cmdM x)) 101)) from
  ⟨(Below.heap_alloc _ _ _ (by simp)).trans (newOf w _), by
   have := World.ownsRow_lit (w.alloc (.cells (EC x (.slice ra x.rc.length rcap) vl) 34)) (CC (cmdM x)) 1 (base := w.heap.size + 1) (e := 101) (size := 21) (by simp) (by unfold maxLen; omega) rfl
   simpa [cmdsV] using this, ((Below.refl _ w).alloc (Nat.le_refl _) _).alloc (by simp) _⟩)
 have HN := Lib.hid (show (cmds x).length = x.rc.length + 1 by simp [cmds])
 clear hE hF hR hrc
 go_enter Tryz.func47, Tryz.ntmps47
 go_wp2_with fail
 go_loopw [4, 21] (fun v i wr => ∃ k : Nat, k ≤ x.rc.length ∧ i = .int .i64 k ∧ Hid (GB w x (.slice ra x.rc.length rcap) vl (cmdM x :: (x.rc.take k).map cmdR) v wr)) (fun _ i _ => x.rc.length - (intOf i).toNat)
 case atStart => exact ⟨0, Nat.zero_le _, rfl, HG0.out⟩
 case round =>
  obtain ⟨k, hk, rfl, HG⟩ := hrel
  by_cases hlt : k < x.rc.length
  ·obtain ⟨c, hc⟩ : ∃ c, x.rc[k]? = some c := ⟨_, List.getElem?_eq_getElem hlt⟩
   obtain ⟨A, rfl, hab, hat0⟩ := HRC.out k c hc
   have hat := hat0.below HG.out.below (by rw [add_block]; exact hab)
   obtain ⟨al, d0, d1, d2, d3, d4⟩ := hat
   have HTK := Lib.hid (show cmdM x :: (x.rc.take (k + 1)).map cmdR = (cmdM x :: (x.rc.take k).map cmdR) ++ [cmdR c] by
    obtain ⟨h1, h2⟩ := List.getElem?_eq_some_iff.1 hc
    rw [List.take_succ_eq_append_getElem h1, h2]; simp)
   have hpl : (cmdM x :: (x.rc.take k).map cmdR).length ≤ 1000000 := by simp; omega
   obtain ⟨A1, cp, rfl⟩ := cmd_slice HG.out.row
   generalize cmdM x :: (x.rc.take k).map cmdR = P at HG HTK hpl ⊢
   clear hat0 hc
   go_wp2_with (at_builtin; refine app_cmds rfl (.tmp 25) (.tmp 31) rfl (w.heap.size + 1) (.slice A1 P.length cp) P rfl ((HG.out.row.alloc _).alloc _) (wr.heap.size + 1) (cmdR c) rfl ?a1 hpl ?a2 ?_)
   case a1 => exact new_two wr _ _
   case a2 => have := HG.out.below.size; have := ltOf HG.out.box; simp; omega
   intro v1 w2 hown hg
   have HG2 := Lib.hid ((HG.out.next (((Below.refl _ wr).alloc (Nat.le_refl _) _).alloc (by simp) _)).app (l' := P ++ [cmdR c]) hown (by simp) hg)
   clear hown hg
   go_wp2_with fail
   go_roundw
   case rel => exact ⟨k + 1, by omega, by go_num, by rw [HTK.out]; exact HG2⟩
   case measure => simp [intOf]; omega
  ·have hke : k = x.rc.length := by omega
   subst hke
   rw [List.take_length] at HG
   change Hid (GB w x (.slice ra x.rc.length rcap) vl (cmds x) _ wr) at HG
   clear HG0 HRC
   have hlen : (cmds x).length ≤ x.rc.length + 1 := Nat.le_of_eq HN.out
   obtain ⟨A1, cp, rfl⟩ := cmd_slice HG.out.row
   have HS0 := Lib.hid (SB.start HG.out)
   have HSV := Lib.hid (fun k => sayV_le ((cmds x).take k))
   go_wp2_with fail
   generalize wr.heap.size = b at HS0 ⊢
   go_loopw [36] (fun i wr => ∃ k : Nat, k ≤ (cmds x).length ∧ i = .int .i64 k ∧ Hid (SB w b (cmds x) (.slice A1 (cmds x).length cp) (sayV ((cmds x).take k)) wr ∧ ∀ d ∈ (cmds x).take k, prE d = 0)) (fun i _ => (cmds x).length - (intOf i).toNat)
   case atStart => exact ⟨0, Nat.zero_le _, rfl, HS0.out, by simp⟩
   case round =>
    obtain ⟨k, hk, rfl, HS⟩ := hrel
    clear HS0 HG
    by_cases hlt : k < (cmds x).length
    ·obtain ⟨c, hc⟩ : ∃ c, (cmds x)[k]? = some c := ⟨_, List.getElem?_eq_getElem hlt⟩
     obtain ⟨g, cap, cur, hv, hgB, hgh, hcur⟩ := own_cmd HS.out.1.row hc
     injection hv with hv1 hv2 hv3
     subst hv1
     clear hv2 hv3
     have hF := HF.out c (List.mem_of_getElem? hc)
     have HC := Lib.hid hc
     have HPr := Lib.hid (fun w' (h : Below w.heap.size w w') => cprint_x c w' hF (HR.out w' h).r (HR.out w' h).n)
     have hpl := prV_len (c := c)
     have htl := HSV.out k
     have htn : ((cmds x).take k).length ≤ 200000 := by rw [List.length_take]; omega
     have HTK := Lib.hid (sayV_take hc)
     clear hc hF
     generalize hT : sayV ((cmds x).take k) = T at HS HTK htl
     clear hT
     go_wp2_with (first | (refine wpList_load_blk rfl 101 (.tmp 38) rfl g (k * 21) 101 cur (CC c) _ rfl hgh Tryz.underlying101 rfl size_cmd hcur ?_) | (refine wpList_store_blk rfl 101 (.tmp 9) _ rfl wr.heap.size 0 101 (CC zeroC) (CC c) (CC c) rfl rfl (newOf wr _) size_cmd (one_CC _) (Nat.le_of_eq rfl) (whole_CC zeroC _) ?_; intro w2 hB2 hA2) | (refine wpList_load_blk rfl 101 (.tmp 9) rfl wr.heap.size 0 101 (CC c) (CC c) _ rfl hB2 Tryz.underlying101 rfl size_cmd (fun j _ => by rw [Nat.zero_add]) ?_))
     have HS2 := Lib.hid (HS.out.1.apart hA2)
     have HAL := Lib.hid HS.out.2
     clear hB2 hA2 HS hgh hcur
     refine (HPr.out _ HS2.out.below).mono ?_
     rintro e w3 ⟨rfl, hb3⟩
     have HS3 := Lib.hid (HS2.out.next hb3)
     clear hb3 HS2
     by_cases h0 : prE c = 0
     ·have H0 := Lib.hid h0
      rw [h0]
      clear h0
      have HW1 := Lib.hid (bld_str HS3.out.bld (prV c) (by omega))
      go_wp2_with fail
      refine HW1.out.mono ?_
      rintro e w4 ⟨rfl, hu, hb4⟩
      have HS4 := Lib.hid (HS3.out.write hu hb4)
      clear hu hb4 HS3 HW1
      have HW2 := Lib.hid (bld_str HS4.out.bld [13, 10] (by simp; omega))
      go_wp2_with fail
      refine HW2.out.mono ?_
      rintro e w5 ⟨rfl, hu, hb5⟩
      have HS5 := Lib.hid (HS4.out.write hu hb5)
      clear hu hb5 HS4 HW2
      go_wp2_with fail
      go_roundw
      case rel => exact ⟨k + 1, by omega, by go_num, by rw [HTK.out, ← List.append_assoc]; exact HS5.out, take_all HC.out HAL.out H0.out⟩
      case measure => simp [intOf]; omega
     ·have hne : (prE c != 0) = true := by rw [bne_iff_ne]; exact h0
      have H0 := Lib.hid h0
      clear h0
      go_wp2_with fail
      go_ret2
      exact cms_err HAL.out HC.out H0.out HS3.out.below
    ·have hke : k = (cmds x).length := by omega
     subst hke
     rw [List.take_length] at HS
     have HST := Lib.hid (bld_string HS.out.1.bld)
     go_wp2_with fail
     refine HST.out.mono ?_
     rintro e w2 ⟨rfl, _, hb2⟩
     have HX := Lib.hid (show Below w.heap.size w w2 from HS.out.1.below.trans (hb2.mono HS.out.1.ge))
     clear hb2
     go_wp2_with fail
     go_ret2
     exact cms_ok HS.out.2 rfl HX.out
end Go.Proofs.YtojpkbonioglbaaGreatDoor.E
