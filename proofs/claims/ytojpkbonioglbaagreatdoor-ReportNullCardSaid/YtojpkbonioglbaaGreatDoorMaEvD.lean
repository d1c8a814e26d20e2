import Derived.Test.YtojpkbonioglbaaGreatDoorMaEvB
import Derived.Test.YtojpkbonioglbaaGreatDoorMaEvA
import Derived.Test.YtojpkbonioglbaaGreatDoorMaEvC
import Derived.Test.YtojpkbonioglbaaGreatDoorCmEq
import Derived.Deep.QuietTactic
import Derived.BigQuiet
import Derived.Test.YtojpkbonioglbaaGreatDoorMaDate
import Derived.Test.YtojpkbonioglbaaGreatDoorMaPaD
import Derived.Test.YtojpkbonioglbaaGreatDoorMaPure
import Derived.Test.YtojpkbonioglbaaGreatDoorCards
import Derived.Test.YtojpkbonioglbaaGreatDoorTie
import Derived.HandedShaped
import Derived.ProofKit
import Derived.SizedLaws
import Derived.Deep.DeepHandedRow
import Derived.Lib.SmallJoins
import Derived.Stop.LaidErr
import Derived.Deep.Slices
import Derived.Test.YtojpkbonioglbaaGreatDoorMaPaR
import Derived.Deep.RegionHeld3
namespace Go.Proofs.YtojpkbonioglbaaGreatDoor.E
set_option maxRecDepth 100000
open Go.RowKit Go.Shelf
theorem ranged_and (x : EM) : rangedB x = (inI x.id 1 2147483647 && (inI x.at_ 0 1099511627776 && inI x.rel x.at_ (x.at_ + 1048576))) := rfl
structure MB (W : World) (x : EM) (vr vl : Value) (w : World) : Prop where
 box : w.heap[W.heap.size]? = some (.cells (EC x vr vl) 34 (0, 0))
 below : Below W.heap.size W w
theorem MB.next {W w w' : World} {x : EM} {vr vl : Value} (h : MB W x vr vl w) (hb : Below w.heap.size w w') : MB W x vr vl w' := ⟨(hb.block _ (ltOf h.box)).trans h.box, below_next h.below hb⟩
theorem MB.new (w : World) (x : EM) (vr vl : Value) : MB w x vr vl (w.alloc (.cells (EC x vr vl) 34)) := ⟨newOf w _, (Below.refl _ w).alloc (Nat.le_refl _) _⟩
set_option maxHeartbeats 4000000 in
theorem ranged_x (x : EM) (vr vl : Value) (w : World) : Calls Tryz.prog 46 #[.agg #[.int .i64 x.id, .int .i64 x.at_, .int .i64 x.rel, .string (mkS x.fr.1), .string (mkS x.fr.2), .bool x.m.hs, .bool x.m.hf, .bool x.m.hu, .bool x.m.hb, .bool x.m.hp, .int .i64 x.m.sz, .int .i64 x.m.fo, .int .i64 x.m.un, .int .i64 x.m.by_, .int .i64 x.m.pr, .string (mkS x.m.body), .string (mkS x.m.ret), .string (mkS x.m.env), .string (mkS x.m.mode), vr, vl]] w fun e w' => e = .returned (.bool (rangedB x)) ∧ Below w.heap.size w w' := by
 have HB := Lib.hid (MB.new w x vr vl)
 have c0 : (w.alloc (.cells (EC x vr vl) 34)).cell? ⟨w.heap.size, 0, none⟩ = some (.int .i64 x.id) := cellOf HB.out.box 0
 have c1 : (w.alloc (.cells (EC x vr vl) 34)).cell? ⟨w.heap.size, 1, none⟩ = some (.int .i64 x.at_) := cellOf HB.out.box 1
 have c2 : (w.alloc (.cells (EC x vr vl) 34)).cell? ⟨w.heap.size, 2, none⟩ = some (.int .i64 x.rel) := cellOf HB.out.box 2
 have HW1 := Lib.hid (fun w => within_i x.id 1 2147483647 w)
 have HW2 := Lib.hid (fun w => within_i x.at_ 0 1099511627776 w)
 have HW3 := Lib.hid (fun w => within_i x.rel x.at_ (x.at_ + 1048576) w)
 have B2 := Lib.hid (fun h => in_bd (n := x.at_) (a := 0) (b := 1099511627776) h)
 rw [ranged_and]
 unfold EC at HB c0 c1 c2
 generalize inI x.id 1 2147483647 = q1 at HW1 ⊢
 generalize inI x.at_ 0 1099511627776 = q2 at HW2 B2 ⊢
 generalize inI x.rel x.at_ (x.at_ + 1048576) = q3 at HW3 ⊢
 have HBB := Lib.hid HB.out.below
 clear HB
 cases q1
 ·go_enter Tryz.func46, Tryz.ntmps46
  go_wp2_with (first | (go_at_call 48; (with_reducible refine (HW1.out _).mono ?_); rintro e w' ⟨rfl, rfl⟩))
  go_ret
  exact ⟨rfl, HBB.out⟩
 ·cases q2
  ·go_enter Tryz.func46, Tryz.ntmps46
   go_wp2_with (first | (go_at_call 48; (with_reducible refine (HW1.out _).mono ?_); rintro e w' ⟨rfl, rfl⟩) | (go_at_call 48; (with_reducible refine (HW2.out _).mono ?_); rintro e w' ⟨rfl, rfl⟩))
   go_ret
   exact ⟨rfl, HBB.out⟩
  ·have b2 := B2.out rfl
   have q1 : IntKind.i64.wrap (x.at_ + 1048576) = x.at_ + 1048576 := IntWalk.i64_in _ (by omega)
   go_enter Tryz.func46, Tryz.ntmps46
   go_wp2_with (first | (go_at_call 48; (with_reducible refine (HW1.out _).mono ?_); rintro e w' ⟨rfl, rfl⟩) | (go_at_call 48; (with_reducible refine (HW2.out _).mono ?_); rintro e w' ⟨rfl, rfl⟩) | (go_at_call 48; (with_reducible refine (HW3.out _).mono ?_); rintro e w' ⟨rfl, rfl⟩))
   go_ret
   exact ⟨by simp, HBB.out⟩
def EnPost (x : EM) (w : World) (e : Ending) (w' : World) : Prop := e = .returned (.tuple #[.string (mkS (enV x)), .int .i64 (enE x)]) ∧ Below w.heap.size w w'
theorem en_post {x : EM} {w w' : World} {n : Int} (h : enE x = n) (hn : n ≠ 0) (hb : Below w.heap.size w w') : EnPost x w (.returned (.tuple #[.string { data := #[] }, .int .i64 n])) w' := by
 unfold EnPost
 rw [en_no (by omega), h]
 exact ⟨rfl, hb⟩
theorem en_post0 {x : EM} {w w' : World} {s : ByteArray} (h : enE x = 0) (hs : s = mkS (bytesE x)) (hb : Below w.heap.size w w') : EnPost x w (.returned (.tuple #[.string s, .int .i64 0])) w' := by
 unfold EnPost
 rw [en_yes h, h, hs]
 exact ⟨rfl, hb⟩
theorem cat_e (h s d : Txt) : (({ data := #[81, 32] } ++ mkS h ++ { data := #[13, 10] }) ++ mkS s ++ { data := #[13, 10] } ++ mkS d : ByteArray) = mkS ((81 :: 32 :: h) ++ [13, 10] ++ s ++ [13, 10] ++ d) := by
 rw [show ({ data := #[81, 32] } : ByteArray) = mkS [81, 32] from rfl, show ({ data := #[13, 10] } : ByteArray) = mkS [13, 10] from rfl, mkS_cat, mkS_cat, mkS_cat, mkS_cat, mkS_cat]
 simp
set_option maxHeartbeats 8000000 in
theorem print_x (x : EM) (vr vl : Value) (w : World) (hE : EAt w x vr vl) (hF : FitE x) (hR : Rdy w) : Calls Tryz.prog 29 #[.agg #[.int .i64 x.id, .int .i64 x.at_, .int .i64 x.rel, .string (mkS x.fr.1), .string (mkS x.fr.2), .bool x.m.hs, .bool x.m.hf, .bool x.m.hu, .bool x.m.hb, .bool x.m.hp, .int .i64 x.m.sz, .int .i64 x.m.fo, .int .i64 x.m.un, .int .i64 x.m.by_, .int .i64 x.m.pr, .string (mkS x.m.body), .string (mkS x.m.ret), .string (mkS x.m.env), .string (mkS x.m.mode), vr, vl]] w (EnPost x w) := by
 have HB := Lib.hid (MB.new w x vr vl)
 have hE1 := hE.below HB.out.below
 have HE := Lib.hid (fun w' (h : Below w.heap.size w w') => hE.below h)
 have HR := Lib.hid (fun w' (h : Below w.heap.size w w') => hR.below h)
 have HF := Lib.hid hF
 have HRG := Lib.hid (fun w => ranged_x x vr vl w)
 have HCM := Lib.hid (fun w' (h : Below w.heap.size w w') => commands_x x vr vl w' (hE.below h) hF (hR.below h))
 unfold CmsPost at HCM
 obtain ⟨ra, rcap, rfl, _, _, _⟩ := hE.rc
 obtain ⟨la, lcap, rfl, _, _, _⟩ := hE.ls
 have HD := Lib.hid (fun w' (h : Below w.heap.size w w') => L.data_x x.ls.length lcap (bs x.ls) la w' (txts_strs (hE.ls.below h)) hF.ls (Nat.le_trans hF.ln (by decide)))
 unfold L.DataPost at HD
 have hsz := sayV_le (cmds x)
 have hcn : (cmds x).length ≤ x.rc.length + 1 := by simp [cmds]
 have hrn := hF.rn
 have HEQ := Lib.hid (show enE x = if rangedB x = false then 1 else if sayE (cmds x) ≠ 0 then sayE (cmds x) else if x.rc.length < 1 ∨ 8 < x.rc.length then 3 else if L.wrongOf 998 (bs x.ls) ≠ 0 then L.wrongOf 998 (bs x.ls) else if 4096 < (L.dataOf (bs x.ls)).length then 3 else 0 from rfl)
 have HBY := Lib.hid (show bytesE x = headE x ++ [13, 10] ++ sayV (cmds x) ++ [13, 10] ++ L.dataOf (bs x.ls) from rfl)
 have HHD := Lib.hid (show headE x = 81 :: 32 :: wordsI x.id x.at_ x.rel from rfl)
 have HWD := Lib.hid (fun (h : rangedB x = true) w' (hb : Below w.heap.size w w') => by
  obtain ⟨h1, h2, h3⟩ := ranged_iff.1 h
  exact words_x x.id x.at_ x.rel w' ⟨by omega, by omega⟩ ⟨by omega, by omega⟩ ⟨by omega, by omega⟩ (hR.below hb))
 have HWL := Lib.hid (fun (h : rangedB x = true) => by
  obtain ⟨h1, h2, h3⟩ := ranged_iff.1 h
  have z1 := itoa_20 (n := x.id) ⟨by omega, by omega⟩
  have z2 := itoa_20 (n := x.at_) ⟨by omega, by omega⟩
  have z3 := itoa_20 (n := x.rel) ⟨by omega, by omega⟩
  show (wordsI x.id x.at_ x.rel).length ≤ 65
  unfold wordsI
  simp only [List.length_cons, List.length_append]
  omega)
 clear hE hR hF hE1
 have HSZ := Lib.hid hsz
 clear hsz
 go_enter Tryz.func29, Tryz.ntmps29
 go_wp2_with (first | (refine wpList_load_blk rfl 34 (.tmp 1) rfl w.heap.size 0 34 (EC x _ _) (EC x _ _) _ rfl HB.out.box Tryz.underlying34 rfl size_msg (fun j _ => by rw [Nat.zero_add]) ?_))
 refine (HRG.out _).mono ?_
 rintro e w1 ⟨rfl, hb⟩
 have HB1 := Lib.hid (HB.out.next hb)
 clear hb HB
 cases hq : rangedB x
 ·have HQ := Lib.hid (show enE x = 1 by rw [HEQ.out, hq, if_pos rfl])
  clear hq
  go_wp2_with fail
  go_ret2
  exact en_post HQ.out (by decide) HB1.out.below
 ·have HW := Lib.hid (fun w' hb => HWD.out hq w' hb)
  have hwl := HWL.out hq
  have HEQ2 := Lib.hid (show enE x = if sayE (cmds x) ≠ 0 then sayE (cmds x) else if x.rc.length < 1 ∨ 8 < x.rc.length then 3 else if L.wrongOf 998 (bs x.ls) ≠ 0 then L.wrongOf 998 (bs x.ls) else if 4096 < (L.dataOf (bs x.ls)).length then 3 else 0 by rw [HEQ.out, hq, if_neg (by decide)])
  clear hq HEQ HWD HWL
  go_wp2_with (first | (refine wpList_load_blk rfl 34 (.tmp 1) rfl w.heap.size 0 34 (EC x _ _) (EC x _ _) _ rfl HB1.out.box Tryz.underlying34 rfl size_msg (fun j _ => by rw [Nat.zero_add]) ?_))
  refine (HCM.out _ HB1.out.below).mono ?_
  rintro e w2 ⟨rfl, hb⟩
  have HB2 := Lib.hid (HB1.out.next hb)
  clear hb HB1 HCM
  by_cases hs : sayE (cmds x) = 0
  ·have HEQ3 := Lib.hid (show enE x = if x.rc.length < 1 ∨ 8 < x.rc.length then 3 else if L.wrongOf 998 (bs x.ls) ≠ 0 then L.wrongOf 998 (bs x.ls) else if 4096 < (L.dataOf (bs x.ls)).length then 3 else 0 by rw [HEQ2.out, hs, if_neg (by decide)])
   rw [hs]
   clear hs HEQ2
   simp only [if_true]
   have hsv := HSZ.out
   clear HSZ
   generalize sayV (cmds x) = sv at hsv HBY ⊢
   have c19 : w2.cell? ⟨w.heap.size, 19, none⟩ = some (.slice ra x.rc.length rcap) := cellOf HB2.out.box 19
   have HWI := Lib.hid (fun w => within_i (x.rc.length : Int) 1 8 w)
   have HIN := Lib.hid (show inI (x.rc.length : Int) 1 8 = !decide (x.rc.length < 1 ∨ 8 < x.rc.length) by
    unfold inI
    by_cases h : x.rc.length < 1 ∨ 8 < x.rc.length
    ·rw [decide_eq_true h]
     rcases h with h | h
     ·rw [decide_eq_false (by omega : ¬ (1 : Int) ≤ (x.rc.length : Int))]; rfl
     ·rw [decide_eq_false (by omega : ¬ (x.rc.length : Int) ≤ 8), Bool.and_false]; rfl
    ·rw [decide_eq_false h, decide_eq_true (by omega : (1 : Int) ≤ (x.rc.length : Int)), decide_eq_true (by omega : (x.rc.length : Int) ≤ 8)]; rfl)
   by_cases hl : x.rc.length < 1 ∨ 8 < x.rc.length
   ·have HQ := Lib.hid (show enE x = 3 by rw [HEQ3.out, if_pos hl])
    rw [HIN.out, decide_eq_true hl] at HWI
    clear hl
    go_wp2_with (first | (go_at_call 48; (with_reducible refine (HWI.out _).mono ?_); rintro e w' ⟨rfl, rfl⟩))
    go_ret2
    exact en_post HQ.out (by decide) HB2.out.below
   ·have HEQ4 := Lib.hid (show enE x = if L.wrongOf 998 (bs x.ls) ≠ 0 then L.wrongOf 998 (bs x.ls) else if 4096 < (L.dataOf (bs x.ls)).length then 3 else 0 by rw [HEQ3.out, if_neg hl])
    rw [HIN.out, decide_eq_false hl] at HWI
    clear hl HEQ3 HIN
    have c20 : w2.cell? ⟨w.heap.size, 20, none⟩ = some (.slice la x.ls.length lcap) := cellOf HB2.out.box 20
    go_wp2_with (first | (go_at_call 48; (with_reducible refine (HWI.out _).mono ?_); rintro e w' ⟨rfl, rfl⟩))
    refine (HD.out _ HB2.out.below).mono ?_
    rintro e w3 ⟨rfl, hb⟩
    have HB3 := Lib.hid (HB2.out.next hb)
    clear hb HB2 HD c19 c20
    by_cases hw : L.wrongOf 998 (bs x.ls) = 0
    ·have HEQ5 := Lib.hid (show enE x = if 4096 < (L.dataOf (bs x.ls)).length then 3 else 0 by rw [HEQ4.out, hw, if_neg (by decide)])
     rw [hw]
     clear hw HEQ4
     simp only [if_true]
     rw [show (⟨(L.dataOf (bs x.ls)).toArray⟩ : ByteArray) = mkS (L.dataOf (bs x.ls)) from rfl]
     generalize L.dataOf (bs x.ls) = dv at HEQ5 HBY ⊢
     have m1 := mkS_size dv
     by_cases hd : 4096 < dv.length
     ·have HQ := Lib.hid (show enE x = 3 by rw [HEQ5.out, if_pos hd])
      go_wp2_with fail
      go_ret2
      exact en_post HQ.out (by decide) HB3.out.below
     ·have HQ := Lib.hid (show enE x = 0 by rw [HEQ5.out, if_neg hd])
      have c0 : w3.cell? ⟨w.heap.size, 0, none⟩ = some (.int .i64 x.id) := cellOf HB3.out.box 0
      have c1 : w3.cell? ⟨w.heap.size, 1, none⟩ = some (.int .i64 x.at_) := cellOf HB3.out.box 1
      have c2 : w3.cell? ⟨w.heap.size, 2, none⟩ = some (.int .i64 x.rel) := cellOf HB3.out.box 2
      generalize wordsI x.id x.at_ x.rel = wv at HW hwl HHD
      have m2 := mkS_size sv
      have m3 := mkS_size wv
      go_wp2_with fail
      refine (HW.out _ HB3.out.below).mono ?_
      rintro e w4 ⟨rfl, hb⟩
      have HB4 := Lib.hid (HB3.out.next hb)
      clear hb HB3 c0 c1 c2
      go_wp2_with fail
      go_ret2
      exact en_post0 HQ.out (by rw [HBY.out, HHD.out]; exact cat_e _ _ _) HB4.out.below
    ·have HQ := Lib.hid (show enE x = L.wrongOf 998 (bs x.ls) by rw [HEQ4.out, if_pos hw])
     have hne : (L.wrongOf 998 (bs x.ls) != 0) = true := by rw [bne_iff_ne]; exact hw
     have H0 := Lib.hid hw
     rw [if_neg hw]
     clear hw HEQ4
     go_wp2_with fail
     go_ret2
     exact en_post HQ.out H0.out HB3.out.below
  ·have HQ := Lib.hid (show enE x = sayE (cmds x) by rw [HEQ2.out, if_pos hs])
   have hne : (sayE (cmds x) != 0) = true := by rw [bne_iff_ne]; exact hs
   have H0 := Lib.hid hs
   rw [if_neg hs]
   clear hs HEQ2
   go_wp2_with fail
   go_ret2
   exact en_post HQ.out H0.out HB2.out.below
set_option maxHeartbeats 4000000 in
theorem right_x (x : EM) (vr vl : Value) (w : World) (hE : EAt w x vr vl) (hF : FitE x) (hR : Rdy w) : Calls Tryz.prog 11 #[.agg #[.int .i64 x.id, .int .i64 x.at_, .int .i64 x.rel, .string (mkS x.fr.1), .string (mkS x.fr.2), .bool x.m.hs, .bool x.m.hf, .bool x.m.hu, .bool x.m.hb, .bool x.m.hp, .int .i64 x.m.sz, .int .i64 x.m.fo, .int .i64 x.m.un, .int .i64 x.m.by_, .int .i64 x.m.pr, .string (mkS x.m.body), .string (mkS x.m.ret), .string (mkS x.m.env), .string (mkS x.m.mode), vr, vl]] w fun e w' => e = .returned (.int .i64 (enE x)) ∧ Below w.heap.size w w' := by
 have HB := Lib.hid (MB.new w x vr vl)
 have HP := Lib.hid (print_x x vr vl _ (hE.below HB.out.below) hF (hR.below HB.out.below))
 unfold EnPost at HP
 clear hE hF hR
 go_enter Tryz.func11, Tryz.ntmps11
 go_wp2_with (first | (refine wpList_load_blk rfl 34 (.tmp 1) rfl w.heap.size 0 34 (EC x _ _) (EC x _ _) _ rfl HB.out.box Tryz.underlying34 rfl size_msg (fun j _ => by rw [Nat.zero_add]) ?_))
 refine HP.out.mono ?_
 rintro e w1 ⟨rfl, hb⟩
 have HB1 := Lib.hid (HB.out.next hb)
 clear hb HB HP
 go_wp2_with fail
 go_ret
 exact ⟨rfl, HB1.out.below⟩
end Go.Proofs.YtojpkbonioglbaaGreatDoor.E
namespace Go.Proofs.YtojpkbonioglbaaGreatDoor.E
set_option maxRecDepth 100000
open Go.RowKit Go.Shelf
theorem right_short {p : P.Pth} (h : P.rightE p = 0) : p.1.length ≤ 1000000000 ∧ p.2.length ≤ 1000000000 := by
 have := (P.right_ok h).1
 unfold P.longB at this
 simp only [Bool.or_eq_false_iff, decide_eq_false_iff_not] at this
 omega
theorem short_of {c : CL} (hk : kindV c.verb ≠ 0) (h : bE (kindV c.verb) c = 0) : c.p.1.length ≤ 1000000000 ∧ c.p.2.length ≤ 1000000000 ∧ c.r.kind.length ≤ 1000000000 := by
 have hle := kind_le c.verb
 generalize kindV c.verb = k at hk h hle
 have hk6 : k = 1 ∨ k = 2 ∨ k = 3 ∨ k = 4 ∨ k = 5 ∨ k = 6 := by omega
 have z : ∀ {c : CL}, c.p = ([], []) → c.r = zeroR → c.p.1.length ≤ 1000000000 ∧ c.p.2.length ≤ 1000000000 ∧ c.r.kind.length ≤ 1000000000 := fun h1 h2 => by rw [h1, h2]; decide
 rcases hk6 with rfl | rfl | rfl | rfl | rfl | rfl
 ·have e := (bE_1.1 h).1
  exact z (c := c) (by rw [e]; rfl) (by rw [e]; rfl)
 ·obtain ⟨⟨e, _⟩, hp, _⟩ := bE_2.1 h
  obtain ⟨a1, a2⟩ := right_short hp
  exact ⟨a1, a2, by rw [show c.r = zeroR by rw [show c = _ from e]; rfl]; decide⟩
 ·obtain ⟨_, hp, hr⟩ := bE_3.1 h
  obtain ⟨a1, a2⟩ := right_short hp
  refine ⟨a1, a2, ?_⟩
  obtain ⟨_, h2, _⟩ := rightR_iff.1 hr
  by_cases hk : c.r.kind = []
  ·rw [hk]; decide
  ·obtain ⟨_, k2, _⟩ := kindB_yes h2 hk
   unfold isKind at k2
   simp only [Bool.and_eq_true, decide_eq_true_eq] at k2
   omega
 ·have e := bE_4.1 h
  exact z (c := c) (by rw [show c = _ from e]; rfl) (by rw [show c = _ from e]; rfl)
 ·have e := (bE_5.1 h).1
  exact z (c := c) (by rw [show c = _ from e]; rfl) (by rw [show c = _ from e]; rfl)
 ·have e := (bE_6.1 h).2.1
  exact z (c := c) (by rw [show c = _ from e]; rfl) (by rw [show c = _ from e]; rfl)
theorem cp_short (s : Txt) : (cpV s).p.1.length ≤ 1000000000 ∧ (cpV s).p.2.length ≤ 1000000000 ∧ (cpV s).r.kind.length ≤ 1000000000 := by
 by_cases h : cpE s = 0
 ·obtain ⟨h1, h2⟩ := cp_right h
  exact short_of h1 h2
 ·have e : cpV s = zeroC := if_neg h
  rw [e]; decide
theorem rcs_len : ∀ (f : Nat) (r : Txt), (rcs f r).1.length ≤ r.length ∧ (rcs f r).2.length ≤ r.length ∧ ∀ c ∈ (rcs f r).1, ∃ t, c = cpV t
 | 0, r => ⟨Nat.zero_le _, Nat.le_refl _, fun c hc => by simp [rcs] at hc⟩
 | f + 1, r => by
  by_cases h : ln r = []
  ·rw [rcs_no h]
   exact ⟨Nat.zero_le _, lx_le r, fun c hc => by simp at hc⟩
  ·rw [rcs_yes h]
   obtain ⟨h1, h2, h3⟩ := rcs_len f (lx r)
   have hl := lx_less h
   refine ⟨by simp only [List.length_cons]; omega, by simp only; omega, fun c hc => ?_⟩
   rcases List.mem_cons.1 hc with rfl | hc
   ·exact ⟨_, rfl⟩
   ·exact h3 c hc
theorem joinB_le {N : Nat} : ∀ (l : List Txt), (∀ t ∈ l, t.length ≤ N) → (L.joinB (bs l)).length ≤ l.length * N
 | [], _ => by simp [bs, L.joinB]
 | t :: l, h => by
  have ih := joinB_le l (fun u hu => h u (by simp [hu]))
  have ht := h t (by simp)
  have e : L.joinB (bs (t :: l)) = t ++ L.joinB (bs l) := by simp [bs, L.joinB, mkS]
  rw [e, List.length_append, List.length_cons, Nat.succ_mul]
  omega
theorem fit_read {s : Txt} (hs : s.length ≤ 9728) : FitE (readE s) := by
 obtain ⟨h1, h2, h3⟩ := rcs_len ((lx (lx s)).length + 1) (lx (lx s))
 have l1 := lx_le s
 have l2 := lx_le (lx s)
 obtain ⟨u1, u2⟩ := undata_len (rcsV (lx (lx s))).2
 have hr : (rcsV (lx (lx s))).2.length ≤ 9728 := Nat.le_trans h2 (by omega)
 refine ⟨⟨(cp_short _).1, (cp_short _).2.1⟩, fun c hc => ?_, ?_, ?_, ?_⟩
 ·obtain ⟨d, hd, rfl⟩ := List.mem_map.1 hc
  obtain ⟨t, rfl⟩ := h3 d hd
  exact cp_short t
 ·show ((rcsV (lx (lx s))).1.map _).length ≤ _
  rw [List.length_map]
  exact Nat.le_trans h1 (by omega)
 ·have hj := joinB_le (N := 9728) (L.undata (rcsV (lx (lx s))).2).1 (fun t ht => Nat.le_trans (u1 t ht) hr)
  have hm : (L.undata (rcsV (lx (lx s))).2).1.length * 9728 ≤ 9728 * 9728 := Nat.mul_le_mul_right _ (Nat.le_trans u2 hr)
  exact Nat.le_trans hj (Nat.le_trans hm (by decide))
 ·exact Nat.le_trans u2 (Nat.le_trans hr (by decide))
def PaPost (s : Txt) (w : World) (e : Ending) (w' : World) : Prop := ∃ vr vl, e = .returned (.tuple #[.agg (EC (paV s) vr vl), .int .i64 (paE s)]) ∧ EAt w' (paV s) vr vl ∧ Below w.heap.size w w'
def PaOwn (s : Txt) (w : World) (e : Ending) (w' : World) : Prop := ∃ vr vl, e = .returned (.tuple #[.agg (EC (paV s) vr vl), .int .i64 (paE s)]) ∧ EAt w' (paV s) vr vl ∧ Below w.heap.size w w' ∧ (∀ k, vr.ownBlock = some k → w.heap.size ≤ k) ∧ (∀ k, vl.ownBlock = some k → w.heap.size ≤ k)
theorem pa_no {s : Txt} {w w' : World} (h : ¬ (s.length ≤ 9728 ∧ enE (readE s) = 0 ∧ enV (readE s) = s)) (hb : Below w.heap.size w w') : PaOwn s w (.returned (.tuple #[.agg (EC zeroE nilS nilS), .int .i64 2])) w' := by
 have e : paE s = 2 := if_neg h
 unfold PaOwn paV
 rw [e, if_neg (by decide)]
 exact ⟨_, _, rfl, EAt.nil w' _ rfl rfl, hb, fun k h => (by cases h), fun k h => (by cases h)⟩
theorem pa_yes {s : Txt} {vr vl : Value} {w w' : World} (h : s.length ≤ 9728 ∧ enE (readE s) = 0 ∧ enV (readE s) = s) (hE : EAt w' (readE s) vr vl) (hb : Below w.heap.size w w') (f1 : ∀ k, vr.ownBlock = some k → w.heap.size < k) (f2 : ∀ k, vl.ownBlock = some k → w.heap.size < k) : PaOwn s w (.returned (.tuple #[.agg (EC (readE s) vr vl), .int .i64 0])) w' := by
 have e : paE s = 0 := if_pos h
 unfold PaOwn paV
 rw [e, if_pos rfl]
 exact ⟨_, _, rfl, hE, hb, fun k h => Nat.le_of_lt (f1 k h), fun k h => Nat.le_of_lt (f2 k h)⟩
structure QB (W w : World) : Prop where
 res : w.heap[W.heap.size]? = some (.cells (EC zeroE nilS nilS) 34 (0, 0))
 below : Below W.heap.size W w
theorem QB.next {W w w' : World} (h : QB W w) (hb : Below w.heap.size w w') : QB W w' := ⟨(hb.block _ (ltOf h.res)).trans h.res, below_next h.below hb⟩
theorem QB.new (w : World) : QB w (w.alloc (.cells (EC zeroE nilS nilS) 34)) := ⟨newOf w _, (Below.refl _ w).alloc (Nat.le_refl _) _⟩
theorem RcsAt.slice {w : World} {v : Value} {l : List Rc} (h : RcsAt w v l) : ∃ a c, v = .slice a l.length c := by obtain ⟨a, c, hv, _⟩ := h; exact ⟨a, c, hv⟩
theorem txts_slice {w : World} {v : Value} {l : List Txt} (h : TxtsAt w v l) : ∃ a c, v = .slice a l.length c := by obtain ⟨a, c, hv, _⟩ := h; exact ⟨a, c, hv⟩
theorem RcsAt.apart {w w' : World} {v : Value} {l : List Rc} {B : Nat} (h : RcsAt w v l) (hA : Apart B w.heap.size w w') (hB : ∀ k, v.ownBlock = some k → k ≠ B) : RcsAt w' v l := by
 obtain ⟨a, cap, rfl, hc, hn, hx⟩ := h
 refine ⟨a, cap, rfl, hc, hn, fun i c hi => ?_⟩
 obtain ⟨A, rfl, hl, hat⟩ := hx i c hi
 have e := hA.block A.block hl (hB A.block rfl)
 obtain ⟨b0, b1, b2, b3, b4, b5⟩ := hat
 have eb : (A.add (i * 5)).block = A.block := add_block _ _
 have key : ∀ p : Addr, p.block = A.block → w'.cell? p = w.cell? p := fun p hp => World.cell?_of_block (by rw [hp]; exact e)
 exact ⟨A, rfl, Nat.lt_of_lt_of_le hl hA.size, ⟨by rw [eb]; exact Nat.lt_of_lt_of_le hl hA.size, (key _ eb).trans b1, (key ⟨(A.add (i * 5)).block, (A.add (i * 5)).off + 1, none⟩ eb).trans b2, (key ⟨(A.add (i * 5)).block, (A.add (i * 5)).off + 2, none⟩ eb).trans b3, (key ⟨(A.add (i * 5)).block, (A.add (i * 5)).off + 3, none⟩ eb).trans b4, (key ⟨(A.add (i * 5)).block, (A.add (i * 5)).off + 4, none⟩ eb).trans b5⟩⟩
theorem txts_apart {w w' : World} {v : Value} {l : List Txt} {B : Nat} (h : TxtsAt w v l) (hA : Apart B w.heap.size w w') (hB : ∀ k, v.ownBlock = some k → k ≠ B) : TxtsAt w' v l := by
 obtain ⟨a, cap, rfl, hc, hn, hx⟩ := h
 refine ⟨a, cap, rfl, hc, hn, fun i c hi => ?_⟩
 obtain ⟨A, rfl, hl, c0⟩ := hx i c hi
 have e := hA.block A.block hl (hB A.block rfl)
 have eb : (A.add i).block = A.block := add_block _ _
 exact ⟨A, rfl, Nat.lt_of_lt_of_le hl hA.size, (World.cell?_of_block (by rw [eb]; exact e)).trans c0⟩
theorem EAt.apart {w w' : World} {x : EM} {vr vl : Value} {B : Nat} (h : EAt w x vr vl) (hA : Apart B w.heap.size w w') (h1 : ∀ k, vr.ownBlock = some k → B < k) (h2 : ∀ k, vl.ownBlock = some k → B < k) : EAt w' x vr vl :=
 ⟨h.rc.apart hA fun k hk => by have := h1 k hk; omega, txts_apart h.ls hA fun k hk => by have := h2 k hk; omega⟩
theorem EAt.slices {w : World} {x : EM} {vr vl : Value} (h : EAt w x vr vl) : ∃ a n c b m d, vr = .slice a n c ∧ vl = .slice b m d := by
 obtain ⟨a, c, hv⟩ := h.rc.slice
 obtain ⟨b, d, hu⟩ := txts_slice h.ls
 exact ⟨a, _, c, b, _, d, hv, hu⟩
end Go.Proofs.YtojpkbonioglbaaGreatDoor.E
namespace Go.Proofs.YtojpkbonioglbaaGreatDoor.E
set_option maxRecDepth 100000
open Go.RowKit Go.Shelf
theorem same_no {ps qs : List Txt} {k : Nat} {p q : Txt} (h : ps[k]? = some p) (h' : qs[k]? = some q) (hne : (p == q) = false) : (ps == qs) = false :=
 beq_eq_false_iff_ne.2 fun e => by
  rw [e, h'] at h
  injection h with h
  rw [h] at hne
  simp at hne
theorem take_more {α : Type} {ps qs : List α} {k : Nat} {p : α} (h : ps[k]? = some p) (h' : qs[k]? = some p) (ht : ps.take k = qs.take k) : ps.take (k + 1) = qs.take (k + 1) := by
 obtain ⟨hk, e⟩ := List.getElem?_eq_some_iff.1 h
 obtain ⟨hk', e'⟩ := List.getElem?_eq_some_iff.1 h'
 rw [List.take_succ_eq_append_getElem hk, List.take_succ_eq_append_getElem hk', ht, e, e']
def eqRcB (a b : Rc) : Bool := (a.p.1 == b.p.1 && a.p.2 == b.p.2) && eqRL a.r b.r
theorem eqRc_iff {a b : Rc} : eqRcB a b = true ↔ a = b := by
 obtain ⟨⟨a1, a2⟩, a3⟩ := a
 obtain ⟨⟨b1, b2⟩, b3⟩ := b
 simp only [eqRcB, Bool.and_eq_true, beq_iff_eq, eqRL_iff, Rc.mk.injEq, Prod.mk.injEq]
set_option maxHeartbeats 4000000 in
theorem eqRc (a b : Rc) (w : World) : (Op.equalIn 10000 49 (.agg (RC a)) (.agg (RC b))).run Tryz.prog w = .ok (eqRcB a b) w := by
 show (Op.equalIn 10000 49 (.agg #[.string (mkS a.p.1), .string (mkS a.p.2), .string (mkS a.r.no), .string (mkS a.r.kind), .string (mkS a.r.oc)]) (.agg #[.string (mkS b.p.1), .string (mkS b.p.2), .string (mkS b.r.no), .string (mkS b.r.kind), .string (mkS b.r.oc)])).run Tryz.prog w = _
 have aP := Tryz.isAgg27
 have zP := Tryz.sizeOf27
 have aR := Tryz.isAgg47
 have zR := Tryz.sizeOf47
 have hS : Tryz.prog.underlying 49 = some (.struct (Tryz.prog.fieldsOf 49)) := by kernel_rfl
 have hp : Tryz.prog.stoodInHeld 49 = false := by kernel_rfl
 have pP : ∀ (cs : Array Value), (part 27 cs 0).run Tryz.prog w = .ok (.agg (cs.extract 0 2)) w := fun cs => by unfold part; go_simp
 have pR : ∀ (cs : Array Value), (part 47 cs 2).run Tryz.prog w = .ok (.agg (cs.extract 2 5)) w := fun cs => by unfold part; go_simp
 rw [show (10000 : Nat) = 9999 + 1 from rfl, run_equalIn_agg w 9999 49 _ _ hS hp]
 have key := (eqF_cons (P := Tryz.prog) (w := w) (d := 9999) (f := (Tryz.prog.fieldsOf 49)[0]!) (by decide) (pP #[.string (mkS a.p.1), .string (mkS a.p.2), .string (mkS a.r.no), .string (mkS a.r.kind), .string (mkS a.r.oc)]) (pP #[.string (mkS b.p.1), .string (mkS b.p.2), .string (mkS b.r.no), .string (mkS b.r.kind), .string (mkS b.r.oc)]) (eqP9 a.p b.p w)
  (eqF_cons (f := (Tryz.prog.fieldsOf 49)[1]!) (by decide) (pR _) (pR _) (eqRcpt9 a.r b.r w)
  (show (Op.eqFields 9999 #[.string (mkS a.p.1), .string (mkS a.p.2), .string (mkS a.r.no), .string (mkS a.r.kind), .string (mkS a.r.oc)] #[.string (mkS b.p.1), .string (mkS b.p.2), .string (mkS b.r.no), .string (mkS b.r.kind), .string (mkS b.r.oc)] []).run Tryz.prog w = .ok true w from rfl)))
 refine key.trans ?_
 simp [eqRcB]
deriving instance DecidableEq for RL
deriving instance DecidableEq for Rc
def sameRc (ps qs : List Rc) : Bool := decide (ps = qs)
theorem sameRc_iff {ps qs : List Rc} : sameRc ps qs = true ↔ ps = qs := decide_eq_true_iff
theorem sameRc_no {ps qs : List Rc} {k : Nat} {p q : Rc} (h : ps[k]? = some p) (h' : qs[k]? = some q) (hne : eqRcB p q = false) : sameRc ps qs = false :=
 Bool.eq_false_iff.2 fun e => by
  rw [sameRc_iff.1 e, h'] at h
  injection h with h
  rw [h, eqRc_iff.2 rfl] at hne
  cases hne
theorem EM_iff {a b : EM} : a = b ↔ a.id = b.id ∧ a.at_ = b.at_ ∧ a.rel = b.rel ∧ a.fr = b.fr ∧ a.m = b.m ∧ a.rc = b.rc ∧ a.ls = b.ls := by
 cases a; cases b
 simp only [EM.mk.injEq]
def sameE (a b : EM) : Bool := a.id == b.id && (a.at_ == b.at_ && (a.rel == b.rel && ((a.fr.1 == b.fr.1 && a.fr.2 == b.fr.2) && (eqML a.m b.m && (sameRc a.rc b.rc && a.ls == b.ls)))))
theorem sameE_iff {a b : EM} : sameE a b = true ↔ a = b := by
 rw [EM_iff]
 unfold sameE
 simp only [Bool.and_eq_true, beq_iff_eq, eqML_iff, sameRc_iff, Prod.ext_iff]
structure DB (W : World) (a b : EM) (va la vb lb : Value) (w : World) : Prop where
 a : w.heap[W.heap.size]? = some (.cells (EC a va la) 34 (0, 0))
 b : w.heap[W.heap.size + 1]? = some (.cells (EC b vb lb) 34 (0, 0))
 below : Below W.heap.size W w
theorem DB.new (w : World) (a b : EM) (va la vb lb : Value) : DB w a b va la vb lb ((w.alloc (.cells (EC a va la) 34)).alloc (.cells (EC b vb lb) 34)) :=
 ⟨(Below.heap_alloc _ _ _ (by simp)).trans (newOf w _), heap_alloc2_new w _ _, ((Below.refl _ w).alloc (Nat.le_refl _) _).alloc (by simp) _⟩
theorem DB.drewN {W w : World} {a b : EM} {va la vb lb : Value} (h : DB W a b va la vb lb w) (n : Nat) : DB W a b va la vb lb (w.drewN n) := ⟨h.a, h.b, below_drewN h.below n⟩
end Go.Proofs.YtojpkbonioglbaaGreatDoor.E
namespace Go.Proofs.YtojpkbonioglbaaGreatDoor.E
set_option maxRecDepth 100000
open Go.RowKit Go.Shelf
def rA : Rc := ⟨([99], [100]), zeroR⟩
def mA : EM := ⟨1, 2, 3, ([97], [98]), zeroM, [rA], [[46, 120]]⟩
def tQ : Txt := [81, 32, 49, 32, 50, 32, 51, 13, 10, 77, 65, 73, 76, 32, 70, 82, 79, 77, 58, 60, 97, 64, 98, 62, 13, 10, 82, 67, 80, 84, 32, 84, 79, 58, 60, 99, 64, 100, 62, 13, 10, 13, 10, 46, 46, 120, 13, 10, 46, 13, 10]
theorem it (n : Nat) (h : n < 10) : Lib.itoa (n : Int) = [UInt8.ofNat (48 + n)] := by
 rw [itoa_nat, Lib.decDigits, dif_pos h]
theorem it0 : Lib.itoa 0 = [48] := it 0 (by decide)
theorem it1 : Lib.itoa 1 = [49] := it 1 (by decide)
theorem it2 : Lib.itoa 2 = [50] := it 2 (by decide)
theorem it3 : Lib.itoa 3 = [51] := it 3 (by decide)
theorem it5 : Lib.itoa 5 = [53] := it 5 (by decide)
theorem pM0 : printM zeroM = [] := by
 rw [printM, if_pos (by decide +kernel)]
 simp [wdM, zeroM, wordsL, joinC]
theorem pr_m : prE (cmdM mA) = 0 ∧ prV (cmdM mA) = [77, 65, 73, 76, 32, 70, 82, 79, 77, 58, 60, 97, 64, 98, 62] := by
 have e3 : bE 2 (cmdM mA) = 0 := bE_2.2 ⟨⟨rfl, rfl⟩, by decide +kernel, by decide +kernel⟩
 have e4 : bV 2 (cmdM mA) = [32, 70, 82, 79, 77, 58, 60, 97, 64, 98, 62] := by
  show wdsV hFROM (cmdM mA).p (printM zeroM) = _
  rw [pM0, wdsV]
  decide +kernel
 have e5 : prE (cmdM mA) = 0 := by
  show (if kindV vMAIL = 0 then 10 else if bE (kindV vMAIL) (cmdM mA) = 0 then (if 510 < (cmdM mA).verb.length + (bV (kindV vMAIL) (cmdM mA)).length then 3 else 0) else bE (kindV vMAIL) (cmdM mA)) = 0
  rw [show kindV vMAIL = 2 from rfl, if_neg (by decide), e3, if_pos rfl, e4]
  decide
 refine ⟨e5, ?_⟩
 rw [prV, if_pos e5]
 show vMAIL ++ bV 2 (cmdM mA) = _
 rw [e4]
 rfl
theorem pr_r : prE (cmdR rA) = 0 ∧ prV (cmdR rA) = [82, 67, 80, 84, 32, 84, 79, 58, 60, 99, 64, 100, 62] := by
 have e3 : bE 3 (cmdR rA) = 0 := bE_3.2 ⟨⟨rfl, rfl⟩, by decide +kernel, by decide +kernel⟩
 have e4 : bV 3 (cmdR rA) = [32, 84, 79, 58, 60, 99, 64, 100, 62] := by
  show wdsV hTO (cmdR rA).p (printR zeroR) = _
  rw [wdsV]
  decide +kernel
 have e5 : prE (cmdR rA) = 0 := by
  show (if kindV vRCPT = 0 then 10 else if bE (kindV vRCPT) (cmdR rA) = 0 then (if 510 < (cmdR rA).verb.length + (bV (kindV vRCPT) (cmdR rA)).length then 3 else 0) else bE (kindV vRCPT) (cmdR rA)) = 0
  rw [show kindV vRCPT = 3 from rfl, if_neg (by decide), e3, if_pos rfl, e4]
  decide
 refine ⟨e5, ?_⟩
 rw [prV, if_pos e5]
 show vRCPT ++ bV 3 (cmdR rA) = _
 rw [e4]
 rfl
theorem en_A : enE mA = 0 ∧ enV mA = tQ := by
 have h : enE mA = 0 := en_iff.2 ⟨by decide, by decide, by decide, fun c hc => by
  have hc' : c = cmdM mA ∨ c = cmdR rA := by simpa [cmds, mA] using hc
  rcases hc' with rfl | rfl
  ·exact pr_m.1
  ·exact pr_r.1, by decide, by decide +kernel, by decide +kernel⟩
 refine ⟨h, ?_⟩
 rw [en_yes h]
 have e : bytesE mA = (81 :: 32 :: (Lib.itoa 1 ++ (32 :: (Lib.itoa 2 ++ (32 :: Lib.itoa 3))))) ++ [13, 10] ++ (prV (cmdM mA) ++ [13, 10] ++ (prV (cmdR rA) ++ [13, 10] ++ [])) ++ [13, 10] ++ L.dataOf (bs [[46, 120]]) := rfl
 rw [e, it1, it2, it3, pr_m.2, pr_r.2]
 decide +kernel
theorem fit_A : FitE mA := ⟨by decide, by decide, by decide, by decide +kernel, by decide⟩
theorem fit_0 : FitE zeroE := ⟨by decide, by decide, by decide, by decide +kernel, by decide⟩
theorem en_0 : enE zeroE = 1 := by
 unfold enE
 rw [if_pos (by decide)]
theorem pa_Q : paE [81] = 2 := by
 have h : enE (readE [81]) = 1 := by
  unfold enE
  rw [if_pos (by decide +kernel)]
 unfold paE
 rw [if_neg (by rw [h]; intro hh; exact absurd hh.2.1 (by decide))]
def tR : ST := ⟨0, [82], 0, 5, 0⟩
theorem st_R : stE tR = 0 ∧ stV tR = [83, 32, 48, 32, 82, 32, 48, 32, 53, 32, 48] := by
 have h : stE tR = 0 := by decide
 refine ⟨h, ?_⟩
 rw [st_yes h]
 have e : bytesT tR = 83 :: 32 :: (Lib.itoa 0 ++ (32 :: ([82] ++ (32 :: (Lib.itoa 0 ++ (32 :: (Lib.itoa 5 ++ (32 :: Lib.itoa 0)))))))) := rfl
 rw [e, it0, it5]
 rfl
theorem st_0 : stE zeroT = 10 ∧ stV zeroT = [] := by
 have h : stE zeroT = 10 := by decide
 exact ⟨h, if_neg (by rw [h]; decide)⟩
theorem pt_05 : ptE [83, 32, 48, 32, 82, 32, 48, 32, 48, 53, 32, 48] = 2 := by
 have h : readT [83, 32, 48, 32, 82, 32, 48, 32, 48, 53, 32, 48] = tR := by
  have : (⟨(readT [83, 32, 48, 32, 82, 32, 48, 32, 48, 53, 32, 48]).pl, (readT [83, 32, 48, 32, 82, 32, 48, 32, 48, 53, 32, 48]).st, (readT [83, 32, 48, 32, 82, 32, 48, 32, 48, 53, 32, 48]).tr, (readT [83, 32, 48, 32, 82, 32, 48, 32, 48, 53, 32, 48]).ne, (readT [83, 32, 48, 32, 82, 32, 48, 32, 48, 53, 32, 48]).told⟩ : ST) = ⟨0, [82], 0, 5, 0⟩ := by
   rw [ST.mk.injEq]
   decide +kernel
  exact this
 unfold ptE
 rw [h, st_R.1, st_R.2, if_neg (by decide)]
structure AS (W : World) (g : Nat) (va la : Value) (w : World) : Prop where
 box : w.heap[g]? = some (.cells (EC mA va la) 34 (0, 0))
 at_ : EAt w mA va la
 below : Below W.heap.size W w
theorem AS.next {W w w' : World} {g : Nat} {va la : Value} (h : AS W g va la w) (hb : Below w.heap.size w w') : AS W g va la w' := ⟨(hb.block _ (ltOf h.box)).trans h.box, h.at_.below hb, below_next h.below hb⟩
theorem new_three (w : World) (a b c : Obj) : (((w.alloc a).alloc b).alloc c).heap[w.heap.size + 1 + 1]? = some c :=
 (show ((w.alloc a).alloc b).heap.size = w.heap.size + 1 + 1 by simp) ▸ newOf _ _
theorem AS.start {w w' : World} {o : Obj} (hB : w'.heap[w.heap.size + 1 + 1]? = some (.cells (EC mA (.slice (some ⟨w.heap.size, 0, none⟩) 1 1) (.slice (some ⟨w.heap.size + 1, 0, none⟩) 1 1)) 34 (0, 0))) (hA : Apart (w.heap.size + 1 + 1) (((w.alloc (.cells (RC rA) 49)).alloc (.cells #[.string (mkS [46, 120])] 9)).alloc o).heap.size (((w.alloc (.cells (RC rA) 49)).alloc (.cells #[.string (mkS [46, 120])] 9)).alloc o) w') :
  AS w (w.heap.size + 1 + 1) (.slice (some ⟨w.heap.size, 0, none⟩) 1 1) (.slice (some ⟨w.heap.size + 1, 0, none⟩) 1 1) w' := by
 have h1 := World.ownsRow_lit w (RC rA) 1 (base := w.heap.size) (e := 49) (size := 5) (Nat.le_refl _) (by unfold maxLen; omega) rfl
 have h2 := World.ownsRow_lit (w.alloc (.cells (RC rA) 49)) #[.string (mkS [46, 120])] 1 (base := w.heap.size) (e := 9) (size := 1) (by simp) (by unfold maxLen; omega) rfl
 have h1' := (h1.alloc (.cells #[.string (mkS [46, 120])] 9)).alloc o
 have h2' := h2.alloc o
 rw [show (w.alloc (.cells (RC rA) 49)).heap.size = w.heap.size + 1 by simp] at h2'
 have hs : (((w.alloc (.cells (RC rA) 49)).alloc (.cells #[.string (mkS [46, 120])] 9)).alloc o).heap.size = w.heap.size + 1 + 1 + 1 := by simp
 refine ⟨hB, ⟨own_rcs (l := [rA]) (own_of h1' fun k hk => hA.block k (by simp [Value.ownBlock] at hk; omega) (by simp [Value.ownBlock] at hk; omega)), own_txts (l := [[46, 120]]) (own_of h2' fun k hk => hA.block k (by simp [Value.ownBlock] at hk; omega) (by simp [Value.ownBlock] at hk; omega))⟩, ?_⟩
 exact ((((Below.refl _ w).alloc (Nat.le_refl _) _).alloc (by simp) _).alloc (by simp; try omega) _).trans (hA.below (by omega) (by omega))
theorem AS.fresh {W w w' : World} {o : Obj} {g : Nat} {va la : Value} (h : AS W g va la w) (hA : Apart w.heap.size (w.alloc o).heap.size (w.alloc o) w') : AS W g va la w' := h.next (far_apart hA)
theorem EAt.fresh {w w' : World} {o : Obj} {x : EM} {va la : Value} (h : EAt w x va la) (hA : Apart w.heap.size (w.alloc o).heap.size (w.alloc o) w') : EAt w' x va la := h.below (far_apart hA)
section
variable {P : Program} {ops : Array Oper} {rest : List Oper} {op : Oper} {a : Act} {w : World} {Q : Exit → Act → World → Prop}
theorem wpList_load_want (hw : Region.wanted op (yielded ops a.tmps) = true) (ty : TypeId) (x : Operand) (ho : op.op = .load ty x) (b o : Nat) (t : TypeId) (cs vs : Array Value) (d : TypeDesc) (hx : a.eval x = .pointer (some ⟨b, o, none⟩)) (hb : w.heap[b]? = some (.cells cs t (0, 0)))
  (hu : P.underlying ty = some d) (hd : d.isRow = true) (hi : (P.info? ty).map (·.size) = some vs.size) (hc : ∀ j, j < vs.size → cs[o + j]? = vs[j]?)
  (h : wpList P ops Q rest (a.put op.dst (.agg vs)) w) : wpList P ops Q (op :: rest) a w := by
 refine wpList_step fun K hK => ?_
 rw [if_pos hw]
 refine wp_load_mid ty x ho b o hx vs.toList d (fun j v hv => ?_) hu hd (by simpa using hi) (hK _ _ (by simpa using h))
 rw [cellOf hb]
 rw [Array.getElem?_toList] at hv
 rw [hc j (Array.getElem?_eq_some_iff.1 hv).1]; exact hv
end
theorem aw_P (va la : Value) (w : World) (hE : EAt w mA va la) (hR : Rdy w) : Calls Tryz.prog 29 #[.agg (EC mA va la)] w fun e w' => e = .returned (.tuple #[.string (mkS tQ), .int .i64 0]) ∧ Below w.heap.size w w' :=
 (print_x mA va la w hE fit_A hR).mono fun e w' ⟨he, hb⟩ => ⟨by rw [he, en_A.1, en_A.2], hb⟩
theorem aw_R (va la : Value) (w : World) (hE : EAt w mA va la) (hR : Rdy w) : Calls Tryz.prog 11 #[.agg (EC mA va la)] w fun e w' => e = .returned (.int .i64 0) ∧ Below w.heap.size w w' :=
 (right_x mA va la w hE fit_A hR).mono fun e w' ⟨he, hb⟩ => ⟨by rw [he, en_A.1], hb⟩
theorem aw_R0 (w : World) (hR : Rdy w) : Calls Tryz.prog 11 #[.agg (EC zeroE nilS nilS)] w fun e w' => e = .returned (.int .i64 1) ∧ Below w.heap.size w w' :=
 (right_x zeroE nilS nilS w (EAt.nil w _ rfl rfl) fit_0 hR).mono fun e w' ⟨he, hb⟩ => ⟨by rw [he, en_0], hb⟩
end Go.Proofs.YtojpkbonioglbaaGreatDoor.E
namespace Go.Proofs.YtojpkbonioglbaaGreatDoor.E
set_option maxRecDepth 100000
open Go.RowKit Go.Shelf
end Go.Proofs.YtojpkbonioglbaaGreatDoor.E
namespace Go.Proofs.YtojpkbonioglbaaGreatDoor
set_option maxRecDepth 100000
open Go.ChangeShapes Go.WideShapes Go.ChangeAt Go.RowKit
open Go.ChangeMaps (open_string shut_string)
theorem Tryz.own : ownKnob Tryz.prog.godebug = none := by kernel_rfl
theorem Tryz.laidOut : laidOutB Tryz.prog = true := by kernel_rfl
theorem Tryz.cells9 : Tryz.prog.cellsOf 9 = 1 := by kernel_rfl
theorem gPow : Tryz.prog.globalNamed "internal/strconv.uint64pow10" = some 0 := by kernel_rfl
theorem gNot : Tryz.prog.globalNamed "duepost/param.notices" = some 8 := by kernel_rfl
theorem gLenType : (Tryz.prog.globals[2]?).map (·.type) = some 179 := by kernel_rfl
theorem gPowType : (Tryz.prog.globals[0]?).map (·.type) = some 157 := by kernel_rfl
theorem gNotType : (Tryz.prog.globals[8]?).map (·.type) = some 207 := by kernel_rfl
theorem cellsLen : Tryz.prog.cellsOf 179 = 12 := by kernel_rfl
theorem cellsPow : Tryz.prog.cellsOf 157 = 20 := by kernel_rfl
theorem cellsNot : Tryz.prog.cellsOf 207 = 3 := by kernel_rfl
theorem cells3 : Tryz.prog.cellsOf 3 = 1 := by kernel_rfl
theorem cellsU64 : Tryz.prog.cellsOf 129 = 1 := by kernel_rfl
def tabs : List (String × DataW Unit) := [("math/bits.deBruijn32tab", Rows.laid_math_bits_deBruijn32tab), ("math/bits.deBruijn64tab", Rows.laid_math_bits_deBruijn64tab), ("internal/strconv.uint64pow10", Rows.laid_internal_strconv_uint64pow10), ("unicode/utf8.acceptRanges", Rows.laid_unicode_utf8_acceptRanges), ("duepost/date.lengths", Rows.laid_duepost_date_lengths), ("duepost/param.notices", Rows.laid_duepost_param_notices), ("unicode/utf8.first", Rows.laid_unicode_utf8_first)]
theorem cells_of_strs {H : Type} {enc : TypeId × Value → H} {P : Program} {w : World} {base : Nat} {sp : Nat → Bool} {held : Bool} {fuel : Nat} {t e : TypeId} {n : Nat} {cs : List Value} {zs : List (List UInt8)} {p : List MemPlace}
  (ht : P.underlying t = some (.array n e)) (he : P.underlying e = some .string) (hce : P.cellsOf e = 1) (hct : P.cellsOf t = n)
  (h : DataW.trod enc P w base sp held fuel t cs = some (.agg (zs.map fun z => .lit (.string z)), p)) : cs = zs.map fun z => Value.string (mkS z) := by
 cases fuel with
 | zero => simp [DataW.trod] at h
 | succ fuel =>
  simp only [DataW.trod, ht, hce, hct, Nat.mul_one] at h
  split at h
  ·rename_i hl
   obtain ⟨xs, hm, hx⟩ := Option.map_eq_some_iff.1 h
   have hxs : xs.map (·.1) = zs.map fun z => (DataW.lit (.string z) : DataW H) := by
    have := congrArg Prod.fst hx
    simpa using this
   have hxl : xs.length = n := by simpa using Lib.mapM_length hm
   have hzl : zs.length = n := by
    have := congrArg List.length hxs
    simp at this
    omega
   apply List.ext_getElem?
   intro i
   by_cases hi : i < n
   ·obtain ⟨b, hb, hf⟩ := Lib.mapM_at hm i i (by simp [hi])
    obtain ⟨z, hc, rfl, _⟩ := DataW.trod_string he hf
    have h1 : cs[i]? = some (.string z) := by
     have := congrArg (·[0]?) hc
     simpa [List.getElem?_take, List.getElem?_drop] using this
    have h2 : (xs.map (·.1))[i]? = some (DataW.lit (.string z.data.toList) : DataW H) := by simp [hb]
    rw [hxs] at h2
    simp only [List.getElem?_map, Option.map_eq_some_iff, DataW.lit.injEq, Lit.string.injEq] at h2
    obtain ⟨z', hz', hzz⟩ := h2
    obtain ⟨l, rfl⟩ := mkS_of z
    rw [mkS_data] at hzz
    subst hzz
    simp [h1, hz']
   ·rw [List.getElem?_eq_none (by omega), List.getElem?_eq_none (by simp; omega)]
  ·cases h
theorem ready_of {W : World} (h : laidMetH Tryz.prog tabs W) : Ready W ∧ NotR W := by
 have h0 : laidMet Tryz.prog tabs W := h
 have h1 : laidMet Tryz.prog (("internal/strconv.uint64pow10", Lib.tabData .u64 Lib.pow10Tab) :: tabs.drop 3) W := laidMet.tail (laidMet.tail h0)
 have h2 : laidMet Tryz.prog (("duepost/date.lengths", Lib.tabData .i64 tabD) :: tabs.drop 5) W := laidMet.tail (laidMet.tail h1)
 have h3 : laidMet Tryz.prog (tabs.drop 5) W := laidMet.tail h2
 refine ⟨⟨Lib.tabIs_of_head gLen gLenType Tryz.underlying179 Tryz.underlying3 cells3 cellsLen h2, Lib.tabIs_of_head gPow gPowType Tryz.underlying157 Tryz.underlying129 cellsU64 cellsPow h1⟩, ?_⟩
 obtain ⟨ps, ⟨g', t', cs, fuel, p, q, hg', ht', hvar, hd, _, _⟩, _⟩ := h3
 obtain rfl := Option.some.inj (gNot.symm.trans hg')
 obtain rfl := Option.some.inj (gNotType.symm.trans ht')
 have hcs := cells_of_strs (zs := [tSU, tFA, tDE]) Tryz.underlying207 Tryz.underlying9 Tryz.cells9 cellsNot hd
 have hc := fun i => World.var?_cell gNot hvar i
 have e0 := hc 0
 have e1 := hc 1
 have e2 := hc 2
 rw [← Array.getElem?_toList, hcs] at e0 e1 e2
 exact ⟨e0, e1, e2⟩
def tab32 : List Int := [0, 1, 28, 2, 29, 14, 24, 3, 30, 22, 20, 15, 25, 17, 4, 8, 31, 27, 13, 23, 21, 19, 16, 7, 26, 12, 18, 6, 11, 5, 10, 9]
def tab64 : List Int := [0, 1, 56, 2, 57, 49, 28, 3, 61, 58, 42, 50, 38, 29, 17, 4, 62, 47, 59, 36, 45, 43, 51, 22, 53, 39, 33, 30, 24, 18, 12, 5, 63, 55, 48, 27, 60, 41, 37, 16, 46, 35, 44, 21, 52, 32, 23, 11, 54, 26, 40, 15, 34, 20, 31, 10, 25, 14, 19, 9, 13, 8, 7, 6]
def ranges : List Int := [128, 191, 160, 191, 128, 159, 144, 191, 128, 143] ++ List.replicate 22 0
def cellsAt (cs : List Value) : Obj → Obj
 | .cells _ t frozen => .cells cs.toArray t frozen
 | o => o
noncomputable def low : Nat := (World.holding Tryz.prog default ⟨#[], #[], []⟩).heap.size
noncomputable def laidWorld (os : Os) : World :=
 let w0 := World.holding Tryz.prog os ⟨#[], #[], []⟩
 { w0 with heap := ((((((w0.heap.modify 2 (cellsAt (tabD.map (Value.int .i64)))).modify 0 (cellsAt (Lib.pow10Tab.map (Value.int .u64)))).modify 6 (cellsAt (tab32.map (Value.int .u8)))).modify 7 (cellsAt (tab64.map (Value.int .u8)))).modify 8 (cellsAt [.string (mkS tSU), .string (mkS tFA), .string (mkS tDE)])).modify 5 (cellsAt (ranges.map (Value.int .u8)))).modify 4 (cellsAt (Pinned.utf8FirstZ.map fun n : Nat => Value.int .u8 (n : Int))) }
theorem laid_met (os : Os) (args : Array Value) : laidMet Tryz.prog tabs ((laidWorld os).forCall (fun _ _ => 0) ⟨#[], args, []⟩).memory :=
 laidMet_of_run' 8 (by kernel_rfl) (by kernel_rfl)
theorem arg_str {H : Type} {enc : TypeId × Value → H} {W : World} {base : Nat} {v : Value} {d : DataW H} {p : List MemPlace} {ts : List TypeId} {ds : List (DataW H)} {j : Nat} (hv : Value.okWide Tryz.prog W .any base 9 v) (h : DataW.Trod enc Tryz.prog W 0 (fun _ => true) true 9 v d p)
  (hsz : (DataW.weightsEach Tryz.prog ts ds).all (· ≤ reachBytes) = true) (ht : ts[j]? = some 9) (hd : ds[j]? = some d) : ∃ l : List UInt8, v = .string (mkS l) ∧ l.length ≤ 140737488355328 := by
 obtain ⟨s, rfl, rfl, _, _⟩ := open_string Tryz.underlying9 hv h
 have h2 := sized_string hsz ht hd
 have h3 := reachBytes_lt
 obtain ⟨l, rfl⟩ := mkS_of s
 exact ⟨l, rfl, by rw [← mkS_size, Lib.size_eq]; omega⟩
theorem arg_int {H : Type} {enc : TypeId × Value → H} {W : World} {base : Nat} {v : Value} {d : DataW H} {p : List MemPlace} {t : TypeId} {k : IntKind} (ht : Tryz.prog.underlying t = some (.int k)) (hv : Value.okWide Tryz.prog W .any base t v) (h : DataW.Trod enc Tryz.prog W 0 (fun _ => true) true t v d p) :
  ∃ n, v = .int k n ∧ k.min ≤ n ∧ n ≤ k.max := by
 obtain ⟨n, rfl, _, _, wa⟩ := open_int ht hv h
 rw [Lit.wf, Bool.and_eq_true, decide_eq_true_eq, decide_eq_true_eq] at wa
 exact ⟨n, rfl, wa⟩
end Go.Proofs.YtojpkbonioglbaaGreatDoor
namespace Go.Proofs.YtojpkbonioglbaaGreatDoor.E
set_option maxRecDepth 100000
open Go.ChangeShapes Go.WideShapes Go.ChangeAt Go.RowKit
open Go.ChangeMaps (open_string shut_string)
theorem list21 {α : Type} {l : List α} (h : l.length = 21) : ∃ c0 c1 c2 c3 c4 c5 c6 c7 c8 c9 c10 c11 c12 c13 c14 c15 c16 c17 c18 c19 c20, l = [c0, c1, c2, c3, c4, c5, c6, c7, c8, c9, c10, c11, c12, c13, c14, c15, c16, c17, c18, c19, c20] := by
 match l, h with
 | [c0, c1, c2, c3, c4, c5, c6, c7, c8, c9, c10, c11, c12, c13, c14, c15, c16, c17, c18, c19, c20], _ => exact ⟨c0, c1, c2, c3, c4, c5, c6, c7, c8, c9, c10, c11, c12, c13, c14, c15, c16, c17, c18, c19, c20, rfl⟩
theorem array21 {α : Type} {cs : Array α} (h : cs.size = 21) : ∃ c0 c1 c2 c3 c4 c5 c6 c7 c8 c9 c10 c11 c12 c13 c14 c15 c16 c17 c18 c19 c20, cs = #[c0, c1, c2, c3, c4, c5, c6, c7, c8, c9, c10, c11, c12, c13, c14, c15, c16, c17, c18, c19, c20] := by
 obtain ⟨l⟩ := cs
 obtain ⟨c0, c1, c2, c3, c4, c5, c6, c7, c8, c9, c10, c11, c12, c13, c14, c15, c16, c17, c18, c19, c20, rfl⟩ := list21 (by simpa using h)
 exact ⟨c0, c1, c2, c3, c4, c5, c6, c7, c8, c9, c10, c11, c12, c13, c14, c15, c16, c17, c18, c19, c20, rfl⟩
section
variable {H : Type} {enc : TypeId × Value → H} {W : World}
def Wt (t : TypeId) (d : DataW H) : Prop := ∀ n ∈ d.weights Tryz.prog t, n ≤ reachBytes
theorem wt_arg {ts : List TypeId} {ds : List (DataW H)} {j : Nat} {t : TypeId} {d : DataW H} (hsz : (DataW.weightsEach Tryz.prog ts ds).all (· ≤ reachBytes) = true) (ht : ts[j]? = some t) (hd : ds[j]? = some d) : Wt t d := fun n hn => by
 have := List.all_eq_true.1 hsz n (DataW.weights_mem_each ht hd n hn)
 simpa using this
theorem wt_str {b : List UInt8} (h : Wt (H := H) 9 (.lit (.string b))) : b.length ≤ 281474976710656 := by
 have := h b.length (by simp [DataW.weights])
 have h3 := reachBytes_lt
 omega
theorem wt_field {t tf : TypeId} {fs : Array Field} {xs : List (DataW H × List MemPlace)} (hw : Wt t (.agg (xs.map (·.1)))) (hu : Tryz.prog.underlying t = some (.struct fs)) {i : Nat} (hi : i < xs.length) {f : Field} (hf : fs[i]? = some f) (hft : f.type = tf) : ∃ y, xs[i]? = some y ∧ Wt tf y.1 := by
 refine ⟨xs[i], List.getElem?_eq_getElem hi, fun n hn => hw n ?_⟩
 simp only [DataW.weights, hu]
 exact DataW.weights_mem_each (j := i) (t := tf) (by rw [List.getElem?_map, Array.getElem?_toList, hf]; exact congrArg some hft) (by rw [List.getElem?_map, List.getElem?_eq_getElem hi]; rfl) n hn
theorem weights_all {e : TypeId} : ∀ {ds : List (DataW H)} {d : DataW H} {n : Nat}, d ∈ ds → n ∈ d.weights Tryz.prog e → n ∈ DataW.weightsAll Tryz.prog e ds
 | [], _, _, h, _ => by simp at h
 | d0 :: ds, d, n, h, hn => by
  simp only [DataW.weightsAll, List.mem_append]
  rcases List.mem_cons.1 h with rfl | h
  ·exact .inl hn
  ·exact .inr (weights_all h hn)
theorem wt_elem {t e : TypeId} {a b : List (DataW H)} (hw : Wt t (.slice a b)) (hu : Tryz.prog.underlying t = some (.slice e)) {d : DataW H} (hd : d ∈ a) : Wt e d := fun n hn => hw n (by
 simp only [DataW.weights, hu, List.mem_cons, List.mem_append]
 exact .inr (.inl (weights_all hd hn)))
noncomputable abbrev Tr (enc : TypeId × Value → H) (W : World) (n : Nat) (t : TypeId) (cs : List Value) : Option (DataW H × List MemPlace) := DataW.trod enc Tryz.prog W 0 (fun _ => true) true n t cs
theorem rd_str {n : Nat} {c : Value} {x : DataW H × List MemPlace} (h : Tr enc W n 9 [c] = some x) (hw : Wt 9 x.1) : ∃ l : Txt, c = .string (mkS l) ∧ l.length ≤ 281474976710656 := by
 obtain ⟨s, e, ey, _⟩ := DataW.trod_string Tryz.underlying9 h
 injection e with e
 obtain ⟨l, rfl⟩ := mkS_of s
 rw [ey, mkS_data] at hw
 exact ⟨l, e, wt_str hw⟩
theorem rd_int {n : Nat} {c : Value} {x : DataW H × List MemPlace} (h : Tr enc W n 3 [c] = some x) : ∃ b, c = .int .i64 b := by
 obtain ⟨b, e, _⟩ := DataW.trod_int Tryz.underlying3 h
 injection e with e
 exact ⟨b, e⟩
theorem rd_bool {n : Nat} {c : Value} {x : DataW H × List MemPlace} (h : Tr enc W n 4 [c] = some x) : ∃ b, c = .bool b := by
 obtain ⟨b, e, _⟩ := DataW.trod_bool Tryz.underlying4 h
 injection e with e
 exact ⟨b, e⟩
theorem kH : Tryz.prog.cellsOf 29 = 5 := by kernel_rfl
theorem kM : Tryz.prog.cellsOf 31 = 14 := by kernel_rfl
theorem kR : Tryz.prog.cellsOf 47 = 3 := by kernel_rfl
theorem kP : Tryz.prog.cellsOf 27 = 2 := by kernel_rfl
theorem kE : Tryz.prog.cellsOf 34 = 21 := by kernel_rfl
theorem kC : Tryz.prog.cellsOf 49 = 5 := by kernel_rfl
theorem k3 : Tryz.prog.cellsOf 3 = 1 := by kernel_rfl
theorem k4 : Tryz.prog.cellsOf 4 = 1 := by kernel_rfl
theorem k9 : Tryz.prog.cellsOf 9 = 1 := by kernel_rfl
theorem kLr : Tryz.prog.cellsOf 32 = 1 := by kernel_rfl
theorem kLs : Tryz.prog.cellsOf 22 = 1 := by kernel_rfl
def ShP (p : P.Pth) : Prop := p.1.length ≤ 281474976710656 ∧ p.2.length ≤ 281474976710656
theorem rd_path {n : Nat} {c0 c1 : Value} {x : DataW H × List MemPlace} (h : Tr enc W n 27 [c0, c1] = some x) (hw : Wt 27 x.1) : ∃ p : P.Pth, c0 = .string (mkS p.1) ∧ c1 = .string (mkS p.2) ∧ ShP p := by
 obtain ⟨xs, m, _, hx, _, hlen, hfs⟩ := DataW.trod_struct Tryz.underlying27 h
 rw [hx] at hw
 have hl : xs.length = 2 := hlen
 obtain ⟨y0, e0, w0⟩ := wt_field (tf := 9) hw Tryz.underlying27 (i := 0) (by omega) rfl rfl
 obtain ⟨y1, e1, w1⟩ := wt_field (tf := 9) hw Tryz.underlying27 (i := 1) (by omega) rfl rfl
 have s0 : DataW.trod enc Tryz.prog W 0 (fun _ => true) true m 9 (([c0, c1].drop 0).take (Tryz.prog.cellsOf 9)) = xs[0]? := hfs 0 _ rfl
 have s1 : DataW.trod enc Tryz.prog W 0 (fun _ => true) true m 9 (([c0, c1].drop 1).take (Tryz.prog.cellsOf 9)) = xs[1]? := hfs 1 _ rfl
 rw [k9, e0] at s0
 rw [k9, e1] at s1
 obtain ⟨l0, q0, z0⟩ := rd_str (c := c0) s0 w0
 obtain ⟨l1, q1, z1⟩ := rd_str (c := c1) s1 w1
 exact ⟨(l0, l1), q0, q1, z0, z1⟩
theorem rd_rcpt {n : Nat} {c0 c1 c2 : Value} {x : DataW H × List MemPlace} (h : Tr enc W n 47 [c0, c1, c2] = some x) (hw : Wt 47 x.1) : ∃ r : RL, c0 = .string (mkS r.no) ∧ c1 = .string (mkS r.kind) ∧ c2 = .string (mkS r.oc) ∧ ShortR r := by
 obtain ⟨xs, m, _, hx, _, hlen, hfs⟩ := DataW.trod_struct Tryz.underlying47 h
 rw [hx] at hw
 have hl : xs.length = 3 := hlen
 obtain ⟨y0, e0, w0⟩ := wt_field (tf := 9) hw Tryz.underlying47 (i := 0) (by omega) rfl rfl
 obtain ⟨y1, e1, w1⟩ := wt_field (tf := 9) hw Tryz.underlying47 (i := 1) (by omega) rfl rfl
 obtain ⟨y2, e2, w2⟩ := wt_field (tf := 9) hw Tryz.underlying47 (i := 2) (by omega) rfl rfl
 have s0 : DataW.trod enc Tryz.prog W 0 (fun _ => true) true m 9 (([c0, c1, c2].drop 0).take (Tryz.prog.cellsOf 9)) = xs[0]? := hfs 0 _ rfl
 have s1 : DataW.trod enc Tryz.prog W 0 (fun _ => true) true m 9 (([c0, c1, c2].drop 1).take (Tryz.prog.cellsOf 9)) = xs[1]? := hfs 1 _ rfl
 have s2 : DataW.trod enc Tryz.prog W 0 (fun _ => true) true m 9 (([c0, c1, c2].drop 2).take (Tryz.prog.cellsOf 9)) = xs[2]? := hfs 2 _ rfl
 rw [k9, e0] at s0
 rw [k9, e1] at s1
 rw [k9, e2] at s2
 obtain ⟨l0, q0, z0⟩ := rd_str (c := c0) s0 w0
 obtain ⟨l1, q1, z1⟩ := rd_str (c := c1) s1 w1
 obtain ⟨l2, q2, z2⟩ := rd_str (c := c2) s2 w2
 exact ⟨⟨l0, l1, l2⟩, q0, q1, q2, z0, z1, z2⟩
theorem rd_has {n : Nat} {c0 c1 c2 c3 c4 : Value} {x : DataW H × List MemPlace} (h : Tr enc W n 29 [c0, c1, c2, c3, c4] = some x) : ∃ b0 b1 b2 b3 b4, c0 = .bool b0 ∧ c1 = .bool b1 ∧ c2 = .bool b2 ∧ c3 = .bool b3 ∧ c4 = .bool b4 := by
 obtain ⟨xs, m, _, hx, _, hlen, hfs⟩ := DataW.trod_struct Tryz.underlying29 h
 have hl : xs.length = 5 := hlen
 have g : ∀ i, i < 5 → xs[i]? = some (xs.getD i (.nil, [])) := fun i hi => by rw [List.getD_eq_getElem?_getD, List.getElem?_eq_getElem (by omega)]; rfl
 have s0 : DataW.trod enc Tryz.prog W 0 (fun _ => true) true m 4 (([c0, c1, c2, c3, c4].drop 0).take (Tryz.prog.cellsOf 4)) = xs[0]? := hfs 0 _ rfl
 have s1 : DataW.trod enc Tryz.prog W 0 (fun _ => true) true m 4 (([c0, c1, c2, c3, c4].drop 1).take (Tryz.prog.cellsOf 4)) = xs[1]? := hfs 1 _ rfl
 have s2 : DataW.trod enc Tryz.prog W 0 (fun _ => true) true m 4 (([c0, c1, c2, c3, c4].drop 2).take (Tryz.prog.cellsOf 4)) = xs[2]? := hfs 2 _ rfl
 have s3 : DataW.trod enc Tryz.prog W 0 (fun _ => true) true m 4 (([c0, c1, c2, c3, c4].drop 3).take (Tryz.prog.cellsOf 4)) = xs[3]? := hfs 3 _ rfl
 have s4 : DataW.trod enc Tryz.prog W 0 (fun _ => true) true m 4 (([c0, c1, c2, c3, c4].drop 4).take (Tryz.prog.cellsOf 4)) = xs[4]? := hfs 4 _ rfl
 rw [k4, g _ (by decide)] at s0 s1 s2 s3 s4
 obtain ⟨b0, q0⟩ := rd_bool (c := c0) s0
 obtain ⟨b1, q1⟩ := rd_bool (c := c1) s1
 obtain ⟨b2, q2⟩ := rd_bool (c := c2) s2
 obtain ⟨b3, q3⟩ := rd_bool (c := c3) s3
 obtain ⟨b4, q4⟩ := rd_bool (c := c4) s4
 exact ⟨b0, b1, b2, b3, b4, q0, q1, q2, q3, q4⟩
theorem rd_mail {n : Nat} {c0 c1 c2 c3 c4 c5 c6 c7 c8 c9 c10 c11 c12 c13 : Value} {x : DataW H × List MemPlace} (h : Tr enc W n 31 [c0, c1, c2, c3, c4, c5, c6, c7, c8, c9, c10, c11, c12, c13] = some x) (hw : Wt 31 x.1) : ∃ m : ML, c0 = .bool m.hs ∧ c1 = .bool m.hf ∧ c2 = .bool m.hu ∧ c3 = .bool m.hb ∧ c4 = .bool m.hp ∧ c5 = .int .i64 m.sz ∧ c6 = .int .i64 m.fo ∧ c7 = .int .i64 m.un ∧ c8 = .int .i64 m.by_ ∧ c9 = .int .i64 m.pr ∧ c10 = .string (mkS m.body) ∧ c11 = .string (mkS m.ret) ∧ c12 = .string (mkS m.env) ∧ c13 = .string (mkS m.mode) ∧ ShortM m := by
 obtain ⟨xs, k, _, hx, _, hlen, hfs⟩ := DataW.trod_struct Tryz.underlying31 h
 rw [hx] at hw
 have hl : xs.length = 10 := hlen
 obtain ⟨y0, e0, w0⟩ := wt_field (tf := 29) hw Tryz.underlying31 (i := 0) (by omega) rfl rfl
 have s0 : DataW.trod enc Tryz.prog W 0 (fun _ => true) true k 29 (([c0, c1, c2, c3, c4, c5, c6, c7, c8, c9, c10, c11, c12, c13].drop 0).take (Tryz.prog.cellsOf 29)) = xs[0]? := hfs 0 _ rfl
 rw [kH, e0] at s0
 obtain ⟨y1, e1, w1⟩ := wt_field (tf := 3) hw Tryz.underlying31 (i := 1) (by omega) rfl rfl
 have s1 : DataW.trod enc Tryz.prog W 0 (fun _ => true) true k 3 (([c0, c1, c2, c3, c4, c5, c6, c7, c8, c9, c10, c11, c12, c13].drop 5).take (Tryz.prog.cellsOf 3)) = xs[1]? := hfs 1 _ rfl
 rw [k3, e1] at s1
 obtain ⟨y2, e2, w2⟩ := wt_field (tf := 3) hw Tryz.underlying31 (i := 2) (by omega) rfl rfl
 have s2 : DataW.trod enc Tryz.prog W 0 (fun _ => true) true k 3 (([c0, c1, c2, c3, c4, c5, c6, c7, c8, c9, c10, c11, c12, c13].drop 6).take (Tryz.prog.cellsOf 3)) = xs[2]? := hfs 2 _ rfl
 rw [k3, e2] at s2
 obtain ⟨y3, e3, w3⟩ := wt_field (tf := 3) hw Tryz.underlying31 (i := 3) (by omega) rfl rfl
 have s3 : DataW.trod enc Tryz.prog W 0 (fun _ => true) true k 3 (([c0, c1, c2, c3, c4, c5, c6, c7, c8, c9, c10, c11, c12, c13].drop 7).take (Tryz.prog.cellsOf 3)) = xs[3]? := hfs 3 _ rfl
 rw [k3, e3] at s3
 obtain ⟨y4, e4, w4⟩ := wt_field (tf := 3) hw Tryz.underlying31 (i := 4) (by omega) rfl rfl
 have s4 : DataW.trod enc Tryz.prog W 0 (fun _ => true) true k 3 (([c0, c1, c2, c3, c4, c5, c6, c7, c8, c9, c10, c11, c12, c13].drop 8).take (Tryz.prog.cellsOf 3)) = xs[4]? := hfs 4 _ rfl
 rw [k3, e4] at s4
 obtain ⟨y5, e5, w5⟩ := wt_field (tf := 3) hw Tryz.underlying31 (i := 5) (by omega) rfl rfl
 have s5 : DataW.trod enc Tryz.prog W 0 (fun _ => true) true k 3 (([c0, c1, c2, c3, c4, c5, c6, c7, c8, c9, c10, c11, c12, c13].drop 9).take (Tryz.prog.cellsOf 3)) = xs[5]? := hfs 5 _ rfl
 rw [k3, e5] at s5
 obtain ⟨y6, e6, w6⟩ := wt_field (tf := 9) hw Tryz.underlying31 (i := 6) (by omega) rfl rfl
 have s6 : DataW.trod enc Tryz.prog W 0 (fun _ => true) true k 9 (([c0, c1, c2, c3, c4, c5, c6, c7, c8, c9, c10, c11, c12, c13].drop 10).take (Tryz.prog.cellsOf 9)) = xs[6]? := hfs 6 _ rfl
 rw [k9, e6] at s6
 obtain ⟨y7, e7, w7⟩ := wt_field (tf := 9) hw Tryz.underlying31 (i := 7) (by omega) rfl rfl
 have s7 : DataW.trod enc Tryz.prog W 0 (fun _ => true) true k 9 (([c0, c1, c2, c3, c4, c5, c6, c7, c8, c9, c10, c11, c12, c13].drop 11).take (Tryz.prog.cellsOf 9)) = xs[7]? := hfs 7 _ rfl
 rw [k9, e7] at s7
 obtain ⟨y8, e8, w8⟩ := wt_field (tf := 9) hw Tryz.underlying31 (i := 8) (by omega) rfl rfl
 have s8 : DataW.trod enc Tryz.prog W 0 (fun _ => true) true k 9 (([c0, c1, c2, c3, c4, c5, c6, c7, c8, c9, c10, c11, c12, c13].drop 12).take (Tryz.prog.cellsOf 9)) = xs[8]? := hfs 8 _ rfl
 rw [k9, e8] at s8
 obtain ⟨y9, e9, w9⟩ := wt_field (tf := 9) hw Tryz.underlying31 (i := 9) (by omega) rfl rfl
 have s9 : DataW.trod enc Tryz.prog W 0 (fun _ => true) true k 9 (([c0, c1, c2, c3, c4, c5, c6, c7, c8, c9, c10, c11, c12, c13].drop 13).take (Tryz.prog.cellsOf 9)) = xs[9]? := hfs 9 _ rfl
 rw [k9, e9] at s9
 obtain ⟨b0, b1, b2, b3, b4, q0, q1, q2, q3, q4⟩ := rd_has (c0 := c0) (c1 := c1) (c2 := c2) (c3 := c3) (c4 := c4) s0
 obtain ⟨m0, f0⟩ := rd_int (c := c5) s1
 obtain ⟨m1, f1⟩ := rd_int (c := c6) s2
 obtain ⟨m2, f2⟩ := rd_int (c := c7) s3
 obtain ⟨m3, f3⟩ := rd_int (c := c8) s4
 obtain ⟨m4, f4⟩ := rd_int (c := c9) s5
 obtain ⟨l0, g0, z0⟩ := rd_str (c := c10) s6 w6
 obtain ⟨l1, g1, z1⟩ := rd_str (c := c11) s7 w7
 obtain ⟨l2, g2, z2⟩ := rd_str (c := c12) s8 w8
 obtain ⟨l3, g3, z3⟩ := rd_str (c := c13) s9 w9
 exact ⟨⟨b0, b1, b2, b3, b4, m0, m1, m2, m3, m4, l0, l1, l2, l3⟩, q0, q1, q2, q3, q4, f0, f1, f2, f3, f4, g0, g1, g2, g3, z0, z1, z2, z3⟩
theorem rd_rc {n : Nat} {c0 c1 c2 c3 c4 : Value} {x : DataW H × List MemPlace} (h : Tr enc W n 49 [c0, c1, c2, c3, c4] = some x) (hw : Wt 49 x.1) : ∃ c : Rc, c0 = .string (mkS c.p.1) ∧ c1 = .string (mkS c.p.2) ∧ c2 = .string (mkS c.r.no) ∧ c3 = .string (mkS c.r.kind) ∧ c4 = .string (mkS c.r.oc) ∧ ShP c.p ∧ ShortR c.r := by
 obtain ⟨xs, m, _, hx, _, hlen, hfs⟩ := DataW.trod_struct Tryz.underlying49 h
 rw [hx] at hw
 have hl : xs.length = 2 := hlen
 obtain ⟨y0, e0, w0⟩ := wt_field (tf := 27) hw Tryz.underlying49 (i := 0) (by omega) rfl rfl
 obtain ⟨y1, e1, w1⟩ := wt_field (tf := 47) hw Tryz.underlying49 (i := 1) (by omega) rfl rfl
 have s0 : DataW.trod enc Tryz.prog W 0 (fun _ => true) true m 27 (([c0, c1, c2, c3, c4].drop 0).take (Tryz.prog.cellsOf 27)) = xs[0]? := hfs 0 _ rfl
 have s1 : DataW.trod enc Tryz.prog W 0 (fun _ => true) true m 47 (([c0, c1, c2, c3, c4].drop 2).take (Tryz.prog.cellsOf 47)) = xs[1]? := hfs 1 _ rfl
 rw [kP, e0] at s0
 rw [kR, e1] at s1
 obtain ⟨p, q0, q1, hp⟩ := rd_path (c0 := c0) (c1 := c1) s0 w0
 obtain ⟨r, q2, q3, q4, hr⟩ := rd_rcpt (c0 := c2) (c1 := c3) (c2 := c4) s1 w1
 exact ⟨⟨p, r⟩, q0, q1, q2, q3, q4, hp, hr⟩
theorem rd_rcs {n : Nat} {v : Value} {x : DataW H × List MemPlace} (h : Tr enc W n 32 [v] = some x) (hw : Wt 32 x.1) : ∃ l : List Rc, RcsAt W v l ∧ ∀ c ∈ l, ShP c.p ∧ ShortR c.r := by
 rcases Go.Deep.open_slice Tryz.underlying32 h with ⟨hcs, _⟩ | ⟨a, len, cap, m, n', D, Pl, hcs, _, hl, _, hm, hxx, hx⟩
 ·injection hcs with hcs
  subst hcs
  exact ⟨[], rcs_nil W, by simp⟩
 ·injection hcs with hcs
  subst hcs
  rw [hxx] at hw
  have hlm : len ≤ m := by rw [hm]; simp; exact hl
  have key : ∀ i, i < len → ∃ q : Rc, RcAt W (a.add (i * 5)) q ∧ ShP q.p ∧ ShortR q.r := by
   intro i hi
   obtain ⟨cs', h1, h2⟩ := hx i (by omega)
   rw [kC] at h1
   obtain ⟨_, hlen, hcell⟩ := World.cells?_some h1
   have hwD : Wt 49 (D i) := wt_elem hw Tryz.underlying32 (List.mem_map.2 ⟨i, List.mem_range.2 hi, rfl⟩)
   match cs', hlen with
   | [v0, v1, v2, v3, v4], _ =>
    obtain ⟨c, q0, q1, q2, q3, q4, hp, hr⟩ := rd_rc h2 hwD
    subst q0 q1 q2 q3 q4
    have g0 := hcell 0 (by decide)
    have g1 := hcell 1 (by decide)
    have g2 := hcell 2 (by decide)
    have g3 := hcell 3 (by decide)
    have g4 := hcell 4 (by decide)
    exact ⟨c, ⟨World.block_lt_of_cell? W (a.add (i * 5)) g0, g0, g1, g2, g3, g4⟩, hp, hr⟩
  have key2 : ∃ f : Nat → Rc, ∀ i, i < len → RcAt W (a.add (i * 5)) (f i) ∧ ShP (f i).p ∧ ShortR (f i).r := by
   refine ⟨fun i => if h : i < len then (key i h).choose else ⟨([], []), zeroR⟩, fun i hi => ?_⟩
   simp only [hi, dif_pos]
   exact (key i hi).choose_spec
  obtain ⟨f, hfi⟩ := key2
  refine ⟨(List.range len).map f, ⟨some a, cap, by simp, by simpa using hl, fun e => (by cases e), fun i c hi => ?_⟩, fun c hc => ?_⟩
  ·rw [List.getElem?_map] at hi
   obtain ⟨j, hj, rfl⟩ := Option.map_eq_some_iff.1 hi
   obtain ⟨hlt, e⟩ := List.getElem?_eq_some_iff.1 hj
   simp at hlt e
   subst e
   have hb := (hfi i hlt).1.lt
   rw [add_block] at hb
   exact ⟨a, rfl, hb, (hfi i hlt).1⟩
  ·obtain ⟨i, hi, rfl⟩ := List.mem_map.1 hc
   exact (hfi i (List.mem_range.1 hi)).2
theorem rd_txts {n : Nat} {v : Value} {x : DataW H × List MemPlace} (h : Tr enc W n 22 [v] = some x) (hw : Wt 22 x.1) : ∃ l : List Txt, TxtsAt W v l ∧ ∀ t ∈ l, t.length ≤ 281474976710656 := by
 rcases Go.Deep.open_slice1 Tryz.underlying22 k9 h with ⟨hcs, _⟩ | ⟨a, len, cap, m, n', V, D, Pl, hcs, _, hl, _, hm, hxx, hx⟩
 ·injection hcs with hcs
  subst hcs
  exact ⟨[], txts_nil W, by simp⟩
 ·injection hcs with hcs
  subst hcs
  rw [hxx] at hw
  have hlm : len ≤ m := by rw [hm]; simp; exact hl
  have key : ∀ i, i < len → ∃ t : Txt, W.cell? (a.add i) = some (.string (mkS t)) ∧ t.length ≤ 281474976710656 := by
   intro i hi
   obtain ⟨h1, h2⟩ := hx i (by omega)
   obtain ⟨t, q, z⟩ := rd_str h2 (wt_elem hw Tryz.underlying22 (List.mem_map.2 ⟨i, List.mem_range.2 hi, rfl⟩))
   exact ⟨t, by rw [h1, q], z⟩
  have key2 : ∃ f : Nat → Txt, ∀ i, i < len → W.cell? (a.add i) = some (.string (mkS (f i))) ∧ (f i).length ≤ 281474976710656 := by
   refine ⟨fun i => if h : i < len then (key i h).choose else [], fun i hi => ?_⟩
   simp only [hi, dif_pos]
   exact (key i hi).choose_spec
  obtain ⟨f, hfi⟩ := key2
  refine ⟨(List.range len).map f, ⟨some a, cap, by simp, by simpa using hl, fun e => (by cases e), fun i t hi => ?_⟩, fun t ht => ?_⟩
  ·rw [List.getElem?_map] at hi
   obtain ⟨j, hj, rfl⟩ := Option.map_eq_some_iff.1 hi
   obtain ⟨hlt, e⟩ := List.getElem?_eq_some_iff.1 hj
   simp at hlt e
   subst e
   have hb := World.block_lt_of_cell? W (a.add i) (hfi i hlt).1
   rw [add_block] at hb
   exact ⟨a, rfl, hb, (hfi i hlt).1⟩
  ·obtain ⟨i, hi, rfl⟩ := List.mem_map.1 ht
   exact (hfi i (List.mem_range.1 hi)).2
structure ShE (x : EM) : Prop where
 fr : ShP x.fr
 m : ShortM x.m
 rc : ∀ c ∈ x.rc, ShP c.p ∧ ShortR c.r
 ls : ∀ t ∈ x.ls, t.length ≤ 281474976710656
set_option maxHeartbeats 4000000 in
theorem arg_msg {base : Nat} {v : Value} {d : DataW H} {p : List MemPlace} {ts : List TypeId} {ds : List (DataW H)} {j : Nat} (hv : Value.okWide Tryz.prog W .any base 34 v) (h : DataW.Trod enc Tryz.prog W 0 (fun _ => true) true 34 v d p)
  (hsz : (DataW.weightsEach Tryz.prog ts ds).all (· ≤ reachBytes) = true) (ht : ts[j]? = some 34) (hd : ds[j]? = some d) : ∃ (x : EM) (vr vl : Value), v = .agg (EC x vr vl) ∧ EAt W x vr vl ∧ ShE x := by
 have hw := wt_arg hsz ht hd
 obtain ⟨cs, rfl, hcsz⟩ := okWide_struct Tryz.underlying34 hv
 obtain ⟨c0, c1, c2, c3, c4, c5, c6, c7, c8, c9, c10, c11, c12, c13, c14, c15, c16, c17, c18, c19, c20, rfl⟩ := array21 (hcsz.trans kE)
 obtain ⟨fuel, hf⟩ := h
 obtain ⟨xs, k, _, hx, _, hlen, hfs⟩ := DataW.trod_struct Tryz.underlying34 hf
 have hdd : d = .agg (xs.map (·.1)) := congrArg Prod.fst hx
 subst hdd
 have hl : xs.length = 7 := hlen
 obtain ⟨y0, e0, w0⟩ := wt_field (tf := 3) hw Tryz.underlying34 (i := 0) (by omega) rfl rfl
 have s0 : DataW.trod enc Tryz.prog W 0 (fun _ => true) true k 3 (([c0, c1, c2, c3, c4, c5, c6, c7, c8, c9, c10, c11, c12, c13, c14, c15, c16, c17, c18, c19, c20].drop 0).take (Tryz.prog.cellsOf 3)) = xs[0]? := hfs 0 _ rfl
 rw [k3, e0] at s0
 obtain ⟨y1, e1, w1⟩ := wt_field (tf := 3) hw Tryz.underlying34 (i := 1) (by omega) rfl rfl
 have s1 : DataW.trod enc Tryz.prog W 0 (fun _ => true) true k 3 (([c0, c1, c2, c3, c4, c5, c6, c7, c8, c9, c10, c11, c12, c13, c14, c15, c16, c17, c18, c19, c20].drop 1).take (Tryz.prog.cellsOf 3)) = xs[1]? := hfs 1 _ rfl
 rw [k3, e1] at s1
 obtain ⟨y2, e2, w2⟩ := wt_field (tf := 3) hw Tryz.underlying34 (i := 2) (by omega) rfl rfl
 have s2 : DataW.trod enc Tryz.prog W 0 (fun _ => true) true k 3 (([c0, c1, c2, c3, c4, c5, c6, c7, c8, c9, c10, c11, c12, c13, c14, c15, c16, c17, c18, c19, c20].drop 2).take (Tryz.prog.cellsOf 3)) = xs[2]? := hfs 2 _ rfl
 rw [k3, e2] at s2
 obtain ⟨y3, e3, w3⟩ := wt_field (tf := 27) hw Tryz.underlying34 (i := 3) (by omega) rfl rfl
 have s3 : DataW.trod enc Tryz.prog W 0 (fun _ => true) true k 27 (([c0, c1, c2, c3, c4, c5, c6, c7, c8, c9, c10, c11, c12, c13, c14, c15, c16, c17, c18, c19, c20].drop 3).take (Tryz.prog.cellsOf 27)) = xs[3]? := hfs 3 _ rfl
 rw [kP, e3] at s3
 obtain ⟨y4, e4, w4⟩ := wt_field (tf := 31) hw Tryz.underlying34 (i := 4) (by omega) rfl rfl
 have s4 : DataW.trod enc Tryz.prog W 0 (fun _ => true) true k 31 (([c0, c1, c2, c3, c4, c5, c6, c7, c8, c9, c10, c11, c12, c13, c14, c15, c16, c17, c18, c19, c20].drop 5).take (Tryz.prog.cellsOf 31)) = xs[4]? := hfs 4 _ rfl
 rw [kM, e4] at s4
 obtain ⟨y5, e5, w5⟩ := wt_field (tf := 32) hw Tryz.underlying34 (i := 5) (by omega) rfl rfl
 have s5 : DataW.trod enc Tryz.prog W 0 (fun _ => true) true k 32 (([c0, c1, c2, c3, c4, c5, c6, c7, c8, c9, c10, c11, c12, c13, c14, c15, c16, c17, c18, c19, c20].drop 19).take (Tryz.prog.cellsOf 32)) = xs[5]? := hfs 5 _ rfl
 rw [kLr, e5] at s5
 obtain ⟨y6, e6, w6⟩ := wt_field (tf := 22) hw Tryz.underlying34 (i := 6) (by omega) rfl rfl
 have s6 : DataW.trod enc Tryz.prog W 0 (fun _ => true) true k 22 (([c0, c1, c2, c3, c4, c5, c6, c7, c8, c9, c10, c11, c12, c13, c14, c15, c16, c17, c18, c19, c20].drop 20).take (Tryz.prog.cellsOf 22)) = xs[6]? := hfs 6 _ rfl
 rw [kLs, e6] at s6
 obtain ⟨n0, f0⟩ := rd_int (c := c0) s0
 obtain ⟨n1, f1⟩ := rd_int (c := c1) s1
 obtain ⟨n2, f2⟩ := rd_int (c := c2) s2
 obtain ⟨pp, p0, p1, hp⟩ := rd_path (c0 := c3) (c1 := c4) s3 w3
 obtain ⟨mm, g0, g1, g2, g3, g4, g5, g6, g7, g8, g9, g10, g11, g12, g13, hm⟩ := rd_mail (c0 := c5) (c1 := c6) (c2 := c7) (c3 := c8) (c4 := c9) (c5 := c10) (c6 := c11) (c7 := c12) (c8 := c13) (c9 := c14) (c10 := c15) (c11 := c16) (c12 := c17) (c13 := c18) s4 w4
 obtain ⟨lr, hr, zr⟩ := rd_rcs (v := c19) s5 w5
 obtain ⟨ll, hll, zl⟩ := rd_txts (v := c20) s6 w6
 exact ⟨⟨n0, n1, n2, pp, mm, lr, ll⟩, c19, c20, by unfold EC; rw [f0, f1, f2, p0, p1, g0, g1, g2, g3, g4, g5, g6, g7, g8, g9, g10, g11, g12, g13], ⟨hr, hll⟩, ⟨hp, hm, zr, zl⟩⟩
theorem array5 {α : Type} {cs : Array α} (h : cs.size = 5) : ∃ c0 c1 c2 c3 c4, cs = #[c0, c1, c2, c3, c4] := by
 obtain ⟨l⟩ := cs
 match l, h with
 | [c0, c1, c2, c3, c4], _ => exact ⟨c0, c1, c2, c3, c4, rfl⟩
theorem arg_u8 {base : Nat} {v : Value} {d : DataW H} {p : List MemPlace} {t : TypeId} (ht : Tryz.prog.underlying t = some (.int .u8)) (hv : Value.okWide Tryz.prog W .any base t v) (h : DataW.Trod enc Tryz.prog W 0 (fun _ => true) true t v d p) :
  ∃ b : UInt8, v = .int .u8 (b.toNat : Int) := by
 obtain ⟨n, rfl, w1, w2⟩ := arg_int ht hv h
 have h1 : (0 : Int) ≤ n := w1
 have h2 : n ≤ 255 := w2
 refine ⟨UInt8.ofNat n.toNat, ?_⟩
 have : ((UInt8.ofNat n.toNat).toNat : Int) = n := by simp; omega
 rw [this]
end
end Go.Proofs.YtojpkbonioglbaaGreatDoor.E
namespace Go.Proofs.YtojpkbonioglbaaGreatDoor.E
set_option maxRecDepth 100000
open Go.ChangeShapes Go.WideShapes Go.ChangeAt Go.RowKit
theorem iface_of {H : Type} {enc : TypeId × Value → H} {P : Program} {w : World} {base : Nat} {sp : Nat → Bool} {held : Bool} {fuel : Nat} {t : TypeId} {ms : Array (String × TypeId)} {cs : List Value} {nm : String} {d : DataW H} {p : List MemPlace}
  (ht : P.underlying t = some (.interface ms)) (h : DataW.trod enc P w base sp held fuel t cs = some (.iface nm d, p)) : ∃ u v, cs = [.iface u v] := by
 cases fuel with
 | zero => simp [DataW.trod] at h
 | succ fuel =>
  match cs, h with
  | [], h => simp [DataW.trod, ht] at h
  | [c], h =>
   cases c with
   | iface u v => exact ⟨u, v, rfl⟩
   | _ => simp [DataW.trod, ht] at h
  | a :: b :: r, h => simp [DataW.trod, ht] at h
theorem sent_of {n : String} {nm : String} {d : DataW Unit} {r : List (String × DataW Unit)} {W : World} {g : Nat} {ti : TypeId} {ms : Array (String × TypeId)} (h : laidMet Tryz.prog ((n, .iface nm d) :: r) W) (hg : Tryz.prog.globalNamed n = some g) (ht : (Tryz.prog.globals[g]?).map (·.type) = some ti) (hi : Tryz.prog.underlying ti = some (.interface ms)) :
  ∃ u v, W.cell? ⟨g, 0, none⟩ = some (.iface u v) := by
 obtain ⟨ps, ⟨g', t', cs, fuel, p, q, hg', ht', hvar, hd, _, _⟩, _⟩ := h
 obtain rfl := Option.some.inj (hg.symm.trans hg')
 obtain rfl := Option.some.inj (ht.symm.trans ht')
 obtain ⟨u, v, hcs⟩ := iface_of hi hd
 refine ⟨u, v, ?_⟩
 have e0 := World.var?_cell hg hvar 0
 rw [← Array.getElem?_toList, hcs] at e0
 exact e0
theorem mx_cell {W : World} (h : W.ShapedOpen Tryz.prog) : ∃ m, W.cell? ⟨3, 0, none⟩ = some (.int .i64 m) :=
 Go.Proofs.cell_of_shapedOpen_int (zero := #[.int .i64 0]) (t := 3) h (of_decide_eq_true (by kernel_rfl)) (by kernel_rfl) rfl (by kernel_rfl) (by kernel_rfl) Tryz.underlying3
theorem rdy_of {W : World} (h : laidMetH Tryz.prog tabs W) (hs : W.ShapedOpen Tryz.prog) : Rdy W := by
 obtain ⟨hR, hN⟩ := ready_of h
 exact ⟨hR, hN, mx_cell hs⟩
end Go.Proofs.YtojpkbonioglbaaGreatDoor.E
namespace Go.Proofs.YtojpkbonioglbaaGreatDoor.E
set_option maxRecDepth 100000
open Go.RowKit Go.Shelf
structure Sm (x : EM) : Prop where
 rn : x.rc.length ≤ 20
 ln : x.ls.length ≤ 300
 fr : x.fr.1.length + x.fr.2.length ≤ 1000
 rc : ∀ c ∈ x.rc, c.p.1.length + c.p.2.length ≤ 1000 ∧ smallB zeroM c.r = true
 ls : (L.joinB (bs x.ls)).length ≤ 10000
theorem small_kind {m : ML} {r : RL} (h : smallB m r = true) : r.kind.length ≤ 2000 := by
 unfold smallB at h
 simp only [Bool.and_eq_true, decide_eq_true_eq] at h
 omega
theorem Sm.fit {x : EM} (h : Sm x) : FitE x :=
 ⟨by have := h.fr; omega, fun c hc => by have h1 := (h.rc c hc).1; have h2 := small_kind (h.rc c hc).2; omega, by have := h.rn; omega, by have := h.ls; omega, by have := h.ln; omega⟩
def SmPost (x : EM) (w : World) (e : Ending) (w' : World) : Prop := ∃ q, e = .returned (.bool q) ∧ (q = true → Sm x) ∧ Below w.heap.size w w'
theorem sm_no {x : EM} {w w' : World} (hb : Below w.heap.size w w') : SmPost x w (.returned (.bool false)) w' := ⟨false, rfl, fun h => (by cases h), hb⟩
structure SM (W : World) (x : EM) (vr vl : Value) (A : Addr) (c : Rc) (w : World) : Prop where
 mb : MB W x vr vl w
 rc : RcAt w A c
theorem SM.next {W w w' : World} {x : EM} {vr vl : Value} {A : Addr} {c : Rc} (h : SM W x vr vl A c w) (hb : Below w.heap.size w w') : SM W x vr vl A c w' := ⟨h.mb.next hb, h.rc.below hb h.rc.lt⟩
theorem SM.drew {W w : World} {x : EM} {vr vl : Value} {A : Addr} {c : Rc} (h : SM W x vr vl A c w) : SM W x vr vl A c w.drew := ⟨⟨h.mb.box, below_drewN h.mb.below 1⟩, ⟨h.rc.lt, h.rc.c0, h.rc.c1, h.rc.c2, h.rc.c3, h.rc.c4⟩⟩
theorem cellsS {W w : World} {x : EM} {vr vl : Value} {A : Addr} {c : Rc} (h : Hid (SM W x vr vl A c w)) : w.cell? ⟨W.heap.size, 19, none⟩ = some vr ∧ w.cell? A = some (.string (mkS c.p.1)) ∧ w.cell? ⟨A.block, A.off + 1, none⟩ = some (.string (mkS c.p.2)) ∧ w.cell? ⟨A.block, A.off + 2, none⟩ = some (.string (mkS c.r.no)) ∧ w.cell? ⟨A.block, A.off + 3, none⟩ = some (.string (mkS c.r.kind)) ∧ w.cell? ⟨A.block, A.off + 4, none⟩ = some (.string (mkS c.r.oc)) :=
 ⟨cellOf h.out.mb.box 19, h.out.rc.c0, h.out.rc.c1, h.out.rc.c2, h.out.rc.c3, h.out.rc.c4⟩
theorem belowS {W w : World} {x : EM} {vr vl : Value} {A : Addr} {c : Rc} (h : Hid (SM W x vr vl A c w)) : Below W.heap.size W w := h.out.mb.below
theorem mbS {W w : World} {x : EM} {vr vl : Value} {A : Addr} {c : Rc} (h : Hid (SM W x vr vl A c w)) : MB W x vr vl w := h.out.mb
theorem join_take {l : List Txt} {k : Nat} {t : Txt} (h : l[k]? = some t) : (L.joinB (bs (l.take (k + 1)))).length = (L.joinB (bs (l.take k))).length + t.length := by
 have hb : (bs l)[k]? = some (mkS t) := by rw [bs, List.getElem?_map, h]; rfl
 have e := L.joinB_take hb
 have ek : ∀ n, bs (l.take n) = (bs l).take n := fun n => by rw [bs, bs, List.map_take]
 rw [ek, ek, e, List.length_append, mkS_data]
theorem EC_m (x : EM) (vr vl : Value) : ∀ j, j < (MA x.m).size → (EC x vr vl)[5 + j]? = (MA x.m)[j]? := by
 intro j hj
 have hj' : j < 14 := hj
 match j, hj' with
 | 0, _ => rfl
 | 1, _ => rfl
 | 2, _ => rfl
 | 3, _ => rfl
 | 4, _ => rfl
 | 5, _ => rfl
 | 6, _ => rfl
 | 7, _ => rfl
 | 8, _ => rfl
 | 9, _ => rfl
 | 10, _ => rfl
 | 11, _ => rfl
 | 12, _ => rfl
 | 13, _ => rfl
 | j + 14, h => omega
theorem shortZ : ShortR zeroR := ⟨by decide, by decide, by decide⟩
theorem shortMZ : ShortM zeroM := ⟨by decide, by decide, by decide, by decide⟩
set_option maxHeartbeats 16000000 in
theorem msmall_x (x : EM) (vr vl : Value) (w : World) (hE : EAt w x vr vl) (hS : ShE x) : Calls Tryz.prog 25 #[.agg (EC x vr vl)] w (SmPost x w) := by
 obtain ⟨ra, rcap, rfl, hrc0, _, hrc⟩ := hE.rc
 obtain ⟨la, lcap, rfl, hlc0, _, hlc⟩ := hE.ls
 have HRC := Lib.hid hrc
 have HLC := Lib.hid hlc
 have HSH := Lib.hid hS
 have HB := Lib.hid (MB.new w x (.slice ra x.rc.length rcap) (.slice la x.ls.length lcap))
 have HSB := Lib.hid (fun w => small_x x.m zeroR w hS.m shortZ)
 obtain ⟨hf1, hf2⟩ := hS.fr
 have s1 := mkS_size x.fr.1
 have s2 := mkS_size x.fr.2
 have q1 : IntKind.i64.wrap ((x.fr.1.length : Int) + x.fr.2.length) = x.fr.1.length + x.fr.2.length := IntWalk.i64_in _ (by omega)
 clear hE hS hrc hlc
 show Calls Tryz.prog 25 #[.agg #[.int .i64 x.id, .int .i64 x.at_, .int .i64 x.rel, .string (mkS x.fr.1), .string (mkS x.fr.2), .bool x.m.hs, .bool x.m.hf, .bool x.m.hu, .bool x.m.hb, .bool x.m.hp, .int .i64 x.m.sz, .int .i64 x.m.fo, .int .i64 x.m.un, .int .i64 x.m.by_, .int .i64 x.m.pr, .string (mkS x.m.body), .string (mkS x.m.ret), .string (mkS x.m.env), .string (mkS x.m.mode), .slice ra x.rc.length rcap, .slice la x.ls.length lcap]] w (SmPost x w)
 have c3 : (w.alloc (.cells (EC x (.slice ra x.rc.length rcap) (.slice la x.ls.length lcap)) 34)).cell? ⟨w.heap.size, 3, none⟩ = some (.string (mkS x.fr.1)) := cellOf HB.out.box 3
 have c4 : (w.alloc (.cells (EC x (.slice ra x.rc.length rcap) (.slice la x.ls.length lcap)) 34)).cell? ⟨w.heap.size, 4, none⟩ = some (.string (mkS x.fr.2)) := cellOf HB.out.box 4
 have c19 : (w.alloc (.cells (EC x (.slice ra x.rc.length rcap) (.slice la x.ls.length lcap)) 34)).cell? ⟨w.heap.size, 19, none⟩ = some (.slice ra x.rc.length rcap) := cellOf HB.out.box 19
 have c20 : (w.alloc (.cells (EC x (.slice ra x.rc.length rcap) (.slice la x.ls.length lcap)) 34)).cell? ⟨w.heap.size, 20, none⟩ = some (.slice la x.ls.length lcap) := cellOf HB.out.box 20
 by_cases h1 : 20 < x.rc.length
 ·unfold EC at HB c3 c4 c19 c20
  go_enter Tryz.func25, Tryz.ntmps25
  go_wp2_with fail
  go_ret
  exact sm_no HB.out.below
 by_cases h2 : 300 < x.ls.length
 ·unfold EC at HB c3 c4 c19 c20
  go_enter Tryz.func25, Tryz.ntmps25
  go_wp2_with fail
  go_ret
  exact sm_no HB.out.below
 by_cases h3 : 1000 < x.fr.1.length + x.fr.2.length
 ·unfold EC at HB c3 c4 c19 c20
  have d3 : decide ((1000 : Int) < (x.fr.1.length : Int) + x.fr.2.length) = true := decide_eq_true (by omega)
  go_enter Tryz.func25, Tryz.ntmps25
  go_wp2_with fail
  go_ret
  exact sm_no HB.out.below
 have d3 : decide ((1000 : Int) < (x.fr.1.length : Int) + x.fr.2.length) = false := decide_eq_false (by omega)
 go_enter Tryz.func25, Tryz.ntmps25
 go_wp2_with (first | ((with_reducible refine is_load (ty := 31) (x := .tmp 29) rfl ?_); refine wpList_load_want ?_ 31 (.tmp 29) rfl w.heap.size 5 34 (EC x _ _) #[.bool x.m.hs, .bool x.m.hf, .bool x.m.hu, .bool x.m.hb, .bool x.m.hp, .int .i64 x.m.sz, .int .i64 x.m.fo, .int .i64 x.m.un, .int .i64 x.m.by_, .int .i64 x.m.pr, .string (mkS x.m.body), .string (mkS x.m.ret), .string (mkS x.m.env), .string (mkS x.m.mode)] _ rfl HB.out.box Tryz.underlying31 rfl size_mail (EC_m x _ _) ?_; (focus (first | rfl | (go_simp; done)))))
 refine (HSB.out _).mono ?_
 rintro e w1 ⟨rfl, hb⟩
 have HB1 := Lib.hid (HB.out.next hb)
 clear hb HB HSB c3 c4 c19 c20
 cases hq : smallB x.m zeroR
 ·go_wp2_with fail
  go_ret
  exact sm_no HB1.out.below
 have c19 : w1.cell? ⟨w.heap.size, 19, none⟩ = some (.slice ra x.rc.length rcap) := cellOf HB1.out.box 19
 clear hq d3 q1 s1 s2
 go_wp2_with fail
 go_loopw [3] (fun i wr => ∃ k : Nat, k ≤ x.rc.length ∧ i = .int .i64 k ∧ Hid (MB w x (.slice ra x.rc.length rcap) (.slice la x.ls.length lcap) wr ∧ ∀ c ∈ x.rc.take k, c.p.1.length + c.p.2.length ≤ 1000 ∧ smallB zeroM c.r = true)) (fun i _ => x.rc.length - (intOf i).toNat)
 case atStart => exact ⟨0, Nat.zero_le _, rfl, HB1.out, by simp⟩
 case round =>
  obtain ⟨k, hk, rfl, HG⟩ := hrel
  clear c19
  have c19 : wr.cell? ⟨w.heap.size, 19, none⟩ = some (.slice ra x.rc.length rcap) := cellOf HG.out.1.box 19
  have c20 : wr.cell? ⟨w.heap.size, 20, none⟩ = some (.slice la x.ls.length lcap) := cellOf HG.out.1.box 20
  by_cases hlt : k < x.rc.length
  ·obtain ⟨c, hc⟩ : ∃ c, x.rc[k]? = some c := ⟨_, List.getElem?_eq_getElem hlt⟩
   obtain ⟨A, rfl, hab, hat0⟩ := HRC.out k c hc
   have hat := hat0.below HG.out.1.below (by rw [add_block]; exact hab)
   obtain ⟨⟨b1, b2⟩, hsr⟩ := HSH.out.rc c (List.mem_of_getElem? hc)
   have HSC := Lib.hid (fun w' (h : Hid (SM w x (.slice (some A) x.rc.length rcap) (.slice la x.ls.length lcap) (A.add (k * 5)) c w')) => (small_x zeroM c.r w' shortMZ hsr).mono fun e w2 (q : e = .returned (.bool (smallB zeroM c.r)) ∧ Below w'.heap.size w' w2) => show e = .returned (.bool (smallB zeroM c.r)) ∧ Hid (SM w x (.slice (some A) x.rc.length rcap) (.slice la x.ls.length lcap) (A.add (k * 5)) c w2) from ⟨q.1, h.out.next q.2⟩)
   have HSM := Lib.hid (show SM w x (.slice (some A) x.rc.length rcap) (.slice la x.ls.length lcap) (A.add (k * 5)) c wr from ⟨HG.out.1, hat⟩)
   have HSD := Lib.hid HSM.out.drew
   have HTK := Lib.hid (fun (h : c.p.1.length + c.p.2.length ≤ 1000 ∧ smallB zeroM c.r = true) => show ∀ d ∈ x.rc.take (k + 1), d.p.1.length + d.p.2.length ≤ 1000 ∧ smallB zeroM d.r = true from fun d hd => by
    obtain ⟨h1, h2⟩ := List.getElem?_eq_some_iff.1 hc
    rw [List.take_succ_eq_append_getElem h1, h2] at hd
    rcases List.mem_append.1 hd with hd | hd
    ·exact HG.out.2 d hd
    ·rw [List.mem_singleton.1 hd]; exact h)
   obtain ⟨_, d0, d1, d2, d3, d4⟩ := hat
   have t1 := mkS_size c.p.1
   have t2 := mkS_size c.p.2
   have q2 : IntKind.i64.wrap ((c.p.1.length : Int) + c.p.2.length) = c.p.1.length + c.p.2.length := IntWalk.i64_in _ (by omega)
   clear hat0 hc hsr
   by_cases h4 : 1000 < c.p.1.length + c.p.2.length
   ·have e4 : decide ((1000 : Int) < (c.p.1.length : Int) + c.p.2.length) = true := decide_eq_true (by omega)
    go_wp2_with fail
    go_quiet (fail)
    go_wp2_with fail
    go_ret
    exact sm_no (below_drewN HG.out.1.below _)
   ·have e4 : decide ((1000 : Int) < (c.p.1.length : Int) + c.p.2.length) = false := decide_eq_false (by omega)
    cases hq : smallB zeroM c.r
    ·rw [hq] at HSC
     go_wp2_with fail
     go_region_held3 (fun wr => wr.cell? ⟨w.heap.size, 19, none⟩ = some (.slice (some A) x.rc.length rcap) ∧ wr.cell? (A.add (k * 5)) = some (.string (mkS c.p.1)) ∧ wr.cell? ⟨(A.add (k * 5)).block, (A.add (k * 5)).off + 1, none⟩ = some (.string (mkS c.p.2)) ∧ wr.cell? ⟨(A.add (k * 5)).block, (A.add (k * 5)).off + 2, none⟩ = some (.string (mkS c.r.no)) ∧ wr.cell? ⟨(A.add (k * 5)).block, (A.add (k * 5)).off + 3, none⟩ = some (.string (mkS c.r.kind)) ∧ wr.cell? ⟨(A.add (k * 5)).block, (A.add (k * 5)).off + 4, none⟩ = some (.string (mkS c.r.oc)))
      (first | (with_reducible exact cellsS (by assumption)))
      (first | (go_at_call 43; (refine (HSC.out _ (by assumption)).mono ?_); rintro e w2 ⟨rfl, g⟩))
     all_goals
      go_wp2_with fail
      go_ret
      exact sm_no (belowS (by assumption))
    ·rw [hq] at HSC
     have HT2 := Lib.hid (HTK.out ⟨by omega, hq⟩)
     go_wp2_with fail
     go_region_held3 (fun wr => wr.cell? ⟨w.heap.size, 19, none⟩ = some (.slice (some A) x.rc.length rcap) ∧ wr.cell? (A.add (k * 5)) = some (.string (mkS c.p.1)) ∧ wr.cell? ⟨(A.add (k * 5)).block, (A.add (k * 5)).off + 1, none⟩ = some (.string (mkS c.p.2)) ∧ wr.cell? ⟨(A.add (k * 5)).block, (A.add (k * 5)).off + 2, none⟩ = some (.string (mkS c.r.no)) ∧ wr.cell? ⟨(A.add (k * 5)).block, (A.add (k * 5)).off + 3, none⟩ = some (.string (mkS c.r.kind)) ∧ wr.cell? ⟨(A.add (k * 5)).block, (A.add (k * 5)).off + 4, none⟩ = some (.string (mkS c.r.oc)))
      (first | (with_reducible exact cellsS (by assumption)))
      (first | (go_at_call 43; (refine (HSC.out _ (by assumption)).mono ?_); rintro e w2 ⟨rfl, g⟩))
     all_goals
      go_wp2_with fail
      go_roundw
     case rel => exact ⟨k + 1, by omega, by go_num, mbS (by assumption), HT2.out⟩
     case measure => simp [intOf]; omega
  ·have hke : k = x.rc.length := by omega
   subst hke
   rw [List.take_length] at HG
   have HGR := Lib.hid HG.out.2
   have HGM := Lib.hid HG.out.1
   clear HG HRC
   go_wp2_with fail
   go_loopw [4, 5] (fun tv i wr => ∃ k : Nat, k ≤ x.ls.length ∧ i = .int .i64 k ∧ tv = .int .i64 ((L.joinB (bs (x.ls.take k))).length : Nat) ∧ (L.joinB (bs (x.ls.take k))).length ≤ 10000 ∧ Hid (MB w x (.slice ra x.rc.length rcap) (.slice la x.ls.length lcap) wr)) (fun _ i _ => x.ls.length - (intOf i).toNat)
   case atStart => exact ⟨0, Nat.zero_le _, rfl, rfl, by simp [bs, L.joinB], HGM.out⟩
   case round =>
    obtain ⟨k, hk2, rfl, rfl, hjl, HM⟩ := hrel
    clear c19 c20
    have c20 : wr.cell? ⟨w.heap.size, 20, none⟩ = some (.slice la x.ls.length lcap) := cellOf HM.out.box 20
    by_cases hlt2 : k < x.ls.length
    ·obtain ⟨u, hu⟩ : ∃ u, x.ls[k]? = some u := ⟨_, List.getElem?_eq_getElem hlt2⟩
     obtain ⟨B, rfl, hbb, hcu⟩ := HLC.out k u hu
     have hcl : wr.cell? (B.add k) = some (.string (mkS u)) := (HM.out.below.cell (by rw [add_block]; exact hbb)).trans hcu
     have hul := HSH.out.ls u (List.mem_of_getElem? hu)
     have hjt := join_take hu
     have mu := mkS_size u
     clear hu hcu
     generalize hJ : (L.joinB (bs (x.ls.take k))).length = J at hjl hjt ⊢
     clear hJ
     have HJT := Lib.hid hjt
     clear hjt
     have q3 : IntKind.i64.wrap ((J : Int) + u.length) = J + u.length := IntWalk.i64_in _ (by omega)
     by_cases h5 : 10000 < J + u.length
     ·have e5 : decide ((10000 : Int) < (J : Int) + u.length) = true := decide_eq_true (by omega)
      go_wp2_with fail
      go_ret
      exact sm_no HM.out.below
     ·have e5 : decide ((10000 : Int) < (J : Int) + u.length) = false := decide_eq_false (by omega)
      go_wp2_with fail
      go_roundw
      case rel => exact ⟨k + 1, by omega, by go_num, by rw [HJT.out]; go_num, by rw [HJT.out]; omega, HM⟩
      case measure => simp [intOf]; omega
    ·have hke2 : k = x.ls.length := by omega
     subst hke2
     rw [List.take_length] at hjl
     go_wp2_with fail
     go_ret
     exact ⟨true, rfl, fun _ => ⟨by omega, by omega, by omega, HGR.out, hjl⟩, HM.out.below⟩
end Go.Proofs.YtojpkbonioglbaaGreatDoor.E
