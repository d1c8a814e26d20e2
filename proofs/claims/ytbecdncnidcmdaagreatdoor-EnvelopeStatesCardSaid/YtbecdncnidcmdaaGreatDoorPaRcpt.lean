/-
  The walks of what a recipient's keys do, and of ofRcpt.
-/
import Derived.Test.YtbecdncnidcmdaaGreatDoorPaRead
namespace Go.Proofs.YtbecdncnidcmdaaGreatDoor
set_option maxRecDepth 100000
open Go.RowKit
theorem notifiedA_x (mb i : Nat) (cs : Array Value) (t : TypeId) (o : Value) (v : Txt) (w : World) (hN : NotR w) (hv : v.length ≤ 1000000000) (hb : w.heap[mb]? = some (.cells cs t (0, 0))) (hi : cs[i]? = some o) :
    Calls Tryz.prog 329 #[.pointer (some ⟨mb, i, none⟩), .string (mkS v)] w fun e w' => e = .returned (.int .i64 (notE v)) ∧ Told mb (notC v cs i) t w w' := by
  by_cases hne : v = tNE
  · subst hne
    have e : notC tNE cs i = cs.setIfInBounds i (.string (mkS [78])) := by rw [notC, if_pos not_never.1, not_never.2]
    rw [e, not_never.1]
    exact notified_never mb i cs t o w hb hi
  · exact notified_x mb i cs t o v w hN hv hb hi hne
theorem BW.notB {W w : World} {B B2 mb i : Nat} {p p2 o : Value} {cs : Array Value} {t : TypeId} (h : Hid (BW W B B2 mb p p2 cs t w)) (hN : Hid (∀ w, Hid (BW W B B2 mb p p2 cs t w) → NotR w)) (hm : Hid (mb ≠ B ∧ mb ≠ B2)) (hi : cs[i]? = some o) (v : Txt) (hv : v.length ≤ 1000000000) :
    Calls Tryz.prog 329 #[.pointer (some ⟨mb, i, none⟩), .string (mkS v)] w fun e w' => e = .returned (.int .i64 (notE v)) ∧ w'.cell? ⟨B, 0, none⟩ = some p ∧ Hid (Told mb (notC v cs i) t W w') :=
  (notifiedA_x mb i cs t o v w (hN.out w h) hv h.out.blk.2 hi).mono fun _ _ ⟨he, hT⟩ => ⟨he, (h.out.told hm.out.1 hm.out.2 hT).box, Lib.hid (h.out.blk.then hT)⟩
set_option maxHeartbeats 2000000 in
theorem no_x (mb Bm : Nat) (cs : Array Value) (v : Txt) (o : Value) (w : World) (hv : v.length ≤ 1000000000) (hN : ∀ w', BW w Bm Bm mb (.pointer (some ⟨mb, 0, none⟩)) (.pointer (some ⟨mb, 0, none⟩)) cs 77 w' → NotR w')
    (h0 : w.cell? ⟨Bm, 0, none⟩ = some (.pointer (some ⟨mb, 0, none⟩))) (hb : w.heap[mb]? = some (.cells cs 77 (0, 0))) (hi : cs[0]? = some o) (hm : mb ≠ Bm) :
    Calls Tryz.prog 328 #[.string (mkS v), .pointer (some ⟨Bm, 0, none⟩)] w fun e w' => e = .returned (.int .i64 (notE (upL v))) ∧ Told mb (notC (upL v) cs 0) 77 w w' := by
  have HW := Lib.hid (show BW w Bm Bm mb (.pointer (some ⟨mb, 0, none⟩)) (.pointer (some ⟨mb, 0, none⟩)) cs 77 w from ⟨h0, h0, .of hb (Below.refl _ _)⟩)
  have HM := Lib.hid (And.intro hm hm)
  have HI := Lib.hid hi
  have HR := Lib.hid (fun (w' : World) (h : Hid (BW w Bm Bm mb (.pointer (some ⟨mb, 0, none⟩)) (.pointer (some ⟨mb, 0, none⟩)) cs 77 w')) => hN w' h.out)
  have HL := Lib.hid (show (upL v).length ≤ 1000000000 by rw [upL_length]; omega)
  clear hb hm hi hN
  go_enter Tryz.func328, Tryz.ntmps328
  go_wp2_with fail
  go_region_held3 (fun wr => wr.cell? ⟨Bm, 0, none⟩ = some (.pointer (some ⟨mb, 0, none⟩)))
    (first | exact HW.out.drew.box | assumption)
    (first
      | (go_at_call 299; (with_reducible refine (BW.capB (i := 0) (Lib.hid HW.out.drew) HI.out v (by omega)).mono ?_); rintro e w1 ⟨rfl, g0, g1, g2, g3⟩)
      | (go_at_call 329; (with_reducible refine (BW.notB (i := 0) (W := w) (B := Bm) (B2 := Bm) (mb := mb) (p := .pointer (some ⟨mb, 0, none⟩)) (p2 := .pointer (some ⟨mb, 0, none⟩)) (t := 77) g3 HR HM HI.out (upL v) HL.out).mono ?_); rintro e w2 ⟨rfl, f0, f1⟩))
  all_goals
    clear g0 g1 g2 g3 f0
    go_wp2_with fail
    go_ret
    exact ⟨rfl, f1.out⟩
def orE (v : Txt) : Int := if isKind (upL (preC 59 v)) then decdE (postC 59 v) 256 else 2
def orC (v : Txt) (cs : Array Value) : Array Value := if isKind (upL (preC 59 v)) then decC (postC 59 v) 256 (cs.setIfInBounds 1 (.string (mkS (upL (preC 59 v))))) 2 else cs.setIfInBounds 1 (.string (mkS (upL (preC 59 v))))
set_option maxHeartbeats 2000000 in
theorem or_x (mb Bm : Nat) (cs : Array Value) (v : Txt) (o o2 : Value) (w : World) (hv : v.length ≤ 1000000000)
    (h0 : w.cell? ⟨Bm, 0, none⟩ = some (.pointer (some ⟨mb, 0, none⟩))) (hb : w.heap[mb]? = some (.cells cs 77 (0, 0))) (hi : cs[1]? = some o) (h2 : cs[2]? = some o2) (hm : mb ≠ Bm) :
    Calls Tryz.prog 330 #[.string (mkS v), .pointer (some ⟨Bm, 0, none⟩)] w fun e w' => e = .returned (.int .i64 (orE v)) ∧ Told mb (orC v cs) 77 w w' := by
  have HW := Lib.hid (show BW w Bm Bm mb (.pointer (some ⟨mb, 0, none⟩)) (.pointer (some ⟨mb, 0, none⟩)) cs 77 w from ⟨h0, h0, .of hb (Below.refl _ _)⟩)
  have HM := Lib.hid hm
  have HI := Lib.hid hi
  have HCUT := Lib.hid (fun w => cut_x 59 v w (by omega))
  have HE := Lib.hid (show orE v = if isKind (upL (preC 59 v)) = true then decdE (postC 59 v) 256 else 2 from rfl)
  have HC := Lib.hid (show orC v cs = if isKind (upL (preC 59 v)) = true then decC (postC 59 v) 256 (cs.setIfInBounds 1 (.string (mkS (upL (preC 59 v))))) 2 else cs.setIfInBounds 1 (.string (mkS (upL (preC 59 v)))) from rfl)
  have hpl := post_le 59 v
  have hql := pre_le 59 v
  generalize orC v cs = cs' at HC ⊢
  generalize orE v = r at HE ⊢
  generalize postC 59 v = q at HCUT HE HC hpl
  generalize preC 59 v = x at HCUT HE HC hql
  generalize hasC 59 v = f at HCUT
  have HIK := Lib.hid (fun w => isKind_x (upL x) w (by rw [upL_length]; omega))
  have hlen : 1 < cs.size := (Array.getElem?_eq_some_iff.1 hi).1
  have HX := Lib.hid (show x.length ≤ 1000000000000 by omega)
  have HI2 := Lib.hid (show (cs.setIfInBounds 1 (.string (mkS (upL x))))[1]? = some (.string (mkS (upL x))) by rw [Array.getElem?_setIfInBounds]; simp [hlen])
  have H22 := Lib.hid (show (cs.setIfInBounds 1 (.string (mkS (upL x))))[2]? = some o2 by rw [Array.getElem?_setIfInBounds_ne (by decide)]; exact h2)
  clear hb hm hi h2 hlen
  go_enter Tryz.func330, Tryz.ntmps330
  go_wp2_with fail
  refine (HCUT.out _).mono ?_
  rintro e w0 ⟨rfl, k0, rfl⟩
  have HW0 := Lib.hid (HW.out.next (drew_below w k0))
  generalize w.drewN k0 = w0 at HW0 ⊢
  go_wp2_with fail
  go_region_held3 (fun wr => wr.cell? ⟨Bm, 0, none⟩ = some (.pointer (some ⟨mb, 0, none⟩)))
    (first | exact HW0.out.drew.box | assumption | exact keep_far _ _ HM.out (by assumption))
    (first | (go_at_call 299; (with_reducible refine (BW.capB (i := 1) (Lib.hid HW0.out.drew) HI.out x HX.out).mono ?_); rintro e w1 ⟨rfl, g0, g1, g2, g3⟩))
  have HS := Lib.hid (g3.out.set HM.out HM.out 1 (.string (mkS (upL x))))
  have c1 := HS.out.box
  have c2 := (HS.out.at HI2.out).1
  clear g0 g1 g2 g3
  generalize w1.setCell ⟨mb, 1, none⟩ (.string (mkS (upL x))) = w2 at HS c1 c2 ⊢
  generalize isKind (upL x) = bm at HIK HE HC
  cases bm
  · obtain rfl : r = 2 := HE.out
    obtain rfl := HC.out
    go_wp2_with fail
    refine (HIK.out _).mono ?_
    rintro e w3 ⟨rfl, rfl⟩
    go_wp2_with fail
    go_ret
    exact ⟨rfl, HS.out.blk⟩
  · have hr : r = decdE q 256 := HE.out
    have hc : cs' = decC q 256 (cs.setIfInBounds 1 (.string (mkS (upL x)))) 2 := HC.out
    have HF := Lib.hid (And.intro hr hc)
    have HD := Lib.hid (pdec_x mb 2 (cs.setIfInBounds 1 (.string (mkS (upL x)))) 77 q 256 o2 w2 (by omega) HS.out.blk.2 H22.out)
    clear HE HC hr hc
    go_wp2_with fail
    refine (HIK.out _).mono ?_
    rintro e w3 ⟨rfl, rfl⟩
    go_wp2_with fail
    refine HD.out.mono ?_
    rintro e w4 ⟨rfl, hT⟩
    have HT := Lib.hid (HS.out.blk.then hT)
    clear hT
    go_wp2_with fail
    go_ret
    exact ⟨by rw [HF.out.1]; rfl, by rw [HF.out.2]; exact HT.out⟩
def rCells (r : RL) : Array Value := #[.string (mkS r.no), .string (mkS r.kind), .string (mkS r.oc)]
def fR (B : Nat) (k : Txt) : Option Value :=
  if k = kOR then some (.func (.func 330) #[] #[.pointer (some ⟨B, 0, none⟩)]) else if k = kNO then some (.func (.func 328) #[] #[.pointer (some ⟨B, 0, none⟩)]) else none
set_option maxHeartbeats 2000000 in
theorem ofRcpt_x (mb : Nat) (w : World) (hm : mb < w.heap.size) : Calls Tryz.prog 279 #[.pointer (some ⟨mb, 0, none⟩)] w fun e w' => ∃ M, e = .returned (.map (some M)) ∧ M ≠ mb ∧ Below w.heap.size w w' ∧ w'.cell? ⟨w.heap.size, 0, none⟩ = some (.pointer (some ⟨mb, 0, none⟩)) ∧ w.heap.size < w'.heap.size ∧ MapIs w' M 2 (fR w.heap.size) := by
  have hmm := @run_makeMap Tryz.prog
  have h0 := MapIs.made (w.alloc (.cells #[.pointer (some ⟨mb, 0, none⟩)] 306))
  rw [show (w.alloc (.cells #[.pointer (some ⟨mb, 0, none⟩)] 306)).heap.size = w.heap.size + 1 by simp] at h0
  have hb0 : Below w.heap.size w ((w.alloc (.cells #[.pointer (some ⟨mb, 0, none⟩)] 306)).alloc (.map #[] 0)) := ((Below.refl _ w).alloc (Nat.le_refl _) _).alloc (by simp) _
  have hx0 : ((w.alloc (.cells #[.pointer (some ⟨mb, 0, none⟩)] 306)).alloc (.map #[] 0)).heap[w.heap.size]? = some (.cells #[.pointer (some ⟨mb, 0, none⟩)] 306) := old_alloc (newOf w _)
  obtain ⟨w1, r1, m1, g1⟩ := h0.put Tryz.underlying301 (by omega) (k := kNO) (by decide) (.func (.func 328) #[] #[.pointer (some ⟨w.heap.size, 0, none⟩)])
  obtain ⟨w2, r2, m2, g2⟩ := m1.put Tryz.underlying301 (by omega) (k := kOR) (by decide) (.func (.func 330) #[] #[.pointer (some ⟨w.heap.size, 0, none⟩)])
  rw [show mkS kNO = { data := #[78, 79, 84, 73, 70, 89] } from rfl] at r1
  rw [show mkS kOR = { data := #[79, 82, 67, 80, 84] } from rfl] at r2
  have HB := Lib.hid ((hb0.grown g1 (by simp; omega) (fun k e => by cases e; omega)).grown g2 (by have := g1.size; simp at this; omega) (fun k e => by cases e; omega))
  have HX := Lib.hid (cellOf (grownOf (grownOf hx0 g1 (by simp)) g2 (by simp)) 0)
  have HL := Lib.hid (show w.heap.size < w2.heap.size from ltOf (grownOf (grownOf hx0 g1 (by simp)) g2 (by simp)))
  have HM := Lib.hid m2
  clear m1 m2 g1 g2 hb0 hx0 h0
  go_enter Tryz.func279, Tryz.ntmps279
  go_wp2_with fail
  go_ret
  refine ⟨w.heap.size + 1, rfl, by omega, HB.out, HX.out, HL.out, HM.out.congr fun k => ?_⟩
  unfold updF fR
  rfl
end Go.Proofs.YtbecdncnidcmdaaGreatDoor
