/-
  The walk of what BY does to what is told of a message.
-/
import Derived.Test.YtbecdncnidcmdaaGreatDoorPaDoes
namespace Go.Proofs.YtbecdncnidcmdaaGreatDoor
set_option maxRecDepth 100000
open Go.RowKit
/-- What a region of BY reads. -/
def ByS (B B2 mb : Nat) (p p2 o : Value) (w : World) : Prop := w.cell? ⟨B, 0, none⟩ = some p ∧ w.cell? ⟨B2, 0, none⟩ = some p2 ∧ w.cell? ⟨mb, 13, none⟩ = some o
theorem BW.byS {W w : World} {B B2 mb : Nat} {p p2 o : Value} {cs : Array Value} {t : TypeId} (h : BW W B B2 mb p p2 cs t w) (hi : cs[13]? = some o) : w.cell? ⟨B, 0, none⟩ = some p ∧ w.cell? ⟨B2, 0, none⟩ = some p2 ∧ w.cell? ⟨mb, 13, none⟩ = some o := ⟨h.box, h.box2, (h.at hi).1⟩
theorem BW.lt {W w : World} {B B2 mb : Nat} {p p2 : Value} {cs : Array Value} {t : TypeId} (h : BW W B B2 mb p p2 cs t w) : B < w.heap.size ∧ B2 < w.heap.size ∧ mb < w.heap.size := ⟨cell_lt h.box, cell_lt h.box2, ltOf h.blk.2⟩
theorem BW.told {W w w' : World} {B B2 mb : Nat} {p p2 : Value} {cs cs' : Array Value} {t : TypeId} (h : BW W B B2 mb p p2 cs t w) (h1 : mb ≠ B) (h2 : mb ≠ B2) (k : Told mb cs' t w w') : BW W B B2 mb p p2 cs' t w' :=
  ⟨(k.1.cell h.lt.1 (Ne.symm h1) 0 none).trans h.box, (k.1.cell h.lt.2.1 (Ne.symm h2) 0 none).trans h.box2, h.blk.then k⟩
theorem old_alloc {w : World} {o p : Obj} {k : Nat} (h : w.heap[k]? = some p) : (w.alloc o).heap[k]? = some p := (Below.heap_alloc _ _ _ (ltOf h)).trans h
theorem new_alloc {w : World} {n : Nat} (o : Obj) (h : n = w.heap.size) : (w.alloc o).heap[n]? = some o := h ▸ newOf w o
theorem alloc5 (w : World) (a b c d e : Obj) : ((((((w.alloc a).alloc b).alloc c).alloc d).alloc e).heap[w.heap.size]? = some a ∧ (((((w.alloc a).alloc b).alloc c).alloc d).alloc e).heap[w.heap.size + 1]? = some b ∧
    (((((w.alloc a).alloc b).alloc c).alloc d).alloc e).heap[w.heap.size + 2]? = some c ∧ (((((w.alloc a).alloc b).alloc c).alloc d).alloc e).heap[w.heap.size + 3]? = some d ∧ (((((w.alloc a).alloc b).alloc c).alloc d).alloc e).heap[w.heap.size + 4]? = some e) ∧
    Below w.heap.size w (((((w.alloc a).alloc b).alloc c).alloc d).alloc e) ∧ (((((w.alloc a).alloc b).alloc c).alloc d).alloc e).heap.size = w.heap.size + 5 := by
  have h0 := newOf w a
  have h1 := new_alloc (w := w.alloc a) (n := w.heap.size + 1) b (by simp)
  have h2 := new_alloc (w := (w.alloc a).alloc b) (n := w.heap.size + 2) c (by simp)
  have h3 := new_alloc (w := ((w.alloc a).alloc b).alloc c) (n := w.heap.size + 3) d (by simp)
  have h4 := new_alloc (w := (((w.alloc a).alloc b).alloc c).alloc d) (n := w.heap.size + 4) e (by simp)
  refine ⟨⟨old_alloc (old_alloc (old_alloc (old_alloc h0))), old_alloc (old_alloc (old_alloc h1)), old_alloc (old_alloc h2), old_alloc h3, h4⟩, ?_, by simp⟩
  exact (((((Below.refl _ w).alloc (Nat.le_refl _) _).alloc (by simp) _).alloc (by simp; omega) _).alloc (by simp; omega) _).alloc (by simp; omega) _
/-- number's closures are made: what stands behind it. -/
theorem numb_x (mb i j k : Nat) (n m : Int) (w : World) :
    Calls Tryz.prog 312 #[.pointer (some ⟨mb, i, none⟩), .pointer (some ⟨mb, j, none⟩), .func (.func k) #[] #[], .int .i64 n, .int .i64 m] w fun e w' => ∃ N, e = .returned (.func (.func 313) #[] #[.pointer (some ⟨N + 2, 0, none⟩), .pointer (some ⟨N + 3, 0, none⟩), .pointer (some ⟨N + 4, 0, none⟩), .pointer (some ⟨N, 0, none⟩), .pointer (some ⟨N + 1, 0, none⟩)]) ∧
      N = w.heap.size ∧ NumBox k mb i j n m N w' ∧ Below w.heap.size w w' ∧ w'.heap.size = w.heap.size + 5 := by
  refine (number_mk _ _ _ n m w ⟨_, rfl⟩ ⟨_, rfl⟩ ⟨_, rfl⟩).mono ?_
  rintro e w' ⟨rfl, rfl⟩
  obtain ⟨⟨h0, h1, h2, h3, h4⟩, h5, h6⟩ := alloc5 w (.cells #[.pointer (some ⟨mb, i, none⟩)] 237) (.cells #[.pointer (some ⟨mb, j, none⟩)] 328) (.cells #[.func (.func k) #[] #[]] 329) (.cells #[.int .i64 n] 3) (.cells #[.int .i64 m] 3)
  exact ⟨w.heap.size, rfl, rfl, ⟨cellOf h0 0, cellOf h1 0, cellOf h2 0, cellOf h3 0, cellOf h4 0⟩, h5, h6⟩

theorem BW.numberB {W w : World} {B B2 mb : Nat} {p p2 o : Value} {cs : Array Value} {t : TypeId} (h : Hid (BW W B B2 mb p p2 cs t w)) (hi : cs[13]? = some o) (k : Nat) (n m : Int) :
    Calls Tryz.prog 312 #[.pointer (some ⟨mb, 8, none⟩), .pointer (some ⟨mb, 3, none⟩), .func (.func k) #[] #[], .int .i64 n, .int .i64 m] w fun e w' => ∃ N, e = .returned (.func (.func 313) #[] #[.pointer (some ⟨N + 2, 0, none⟩), .pointer (some ⟨N + 3, 0, none⟩), .pointer (some ⟨N + 4, 0, none⟩), .pointer (some ⟨N, 0, none⟩), .pointer (some ⟨N + 1, 0, none⟩)]) ∧
      (w'.cell? ⟨B, 0, none⟩ = some p ∧ w'.cell? ⟨B2, 0, none⟩ = some p2 ∧ w'.cell? ⟨mb, 13, none⟩ = some o) ∧ Hid (mb < N) ∧ Hid (NumBox k mb 8 3 n m N w') ∧ Hid (BW W B B2 mb p p2 cs t w') := by
  refine (numb_x mb 8 3 k n m w).mono ?_
  rintro e w' ⟨N, rfl, rfl, h1, h2, h3⟩
  exact ⟨_, rfl, (h.out.next h2).byS hi, Lib.hid h.out.lt.2.2, Lib.hid h1, Lib.hid (h.out.next h2)⟩
theorem numC_13 {n x : Int} {cs : Array Value} {o : Value} (h : cs[13]? = some o) : (numC n x cs 8 3)[13]? = some o := by
  unfold numC
  split
  · rw [Array.getElem?_setIfInBounds_ne (by decide), Array.getElem?_setIfInBounds_ne (by decide)]; exact h
  · exact h
theorem BW.inner {W w : World} {B B2 mb N : Nat} {p p2 o o1 o2 : Value} {cs : Array Value} {t : TypeId} {a b : Int} (h : Hid (BW W B B2 mb p p2 cs t w)) (hm : Hid (mb ≠ B ∧ mb ≠ B2)) (hN : Hid (mb < N)) (hB : Hid (NumBox 322 mb 8 3 a b N w)) (hi : cs[13]? = some o) (h8 : cs[8]? = some o1) (h3 : cs[3]? = some o2) (v : Txt) (hv : v.length ≤ 1000000000000) :
    Calls Tryz.prog 313 #[.string (mkS v), .pointer (some ⟨N + 2, 0, none⟩), .pointer (some ⟨N + 3, 0, none⟩), .pointer (some ⟨N + 4, 0, none⟩), .pointer (some ⟨N, 0, none⟩), .pointer (some ⟨N + 1, 0, none⟩)] w
      fun e w' => e = .returned (.int .i64 (numE (sgV v) (sgE v) a b)) ∧ (w'.cell? ⟨B, 0, none⟩ = some p ∧ w'.cell? ⟨B2, 0, none⟩ = some p2 ∧ w'.cell? ⟨mb, 13, none⟩ = some o) ∧ Hid (Told mb (numC (sgV v) (numE (sgV v) (sgE v) a b) cs 8 3) t W w') := by
  refine (num1_x 322 sgV sgE signed_p (enters_of Tryz.func322 (by kernel_rfl) rfl) mb 8 3 N cs t a b v o1 o2 w hv hB.out h.out.blk.2 h8 h3 (by decide) (.inl hN.out)).mono ?_
  rintro e w' ⟨rfl, hT⟩
  have hb := h.out.told hm.out.1 hm.out.2 hT
  exact ⟨rfl, hb.byS (numC_13 hi), Lib.hid hb.blk⟩
set_option maxHeartbeats 4000000 in
theorem by_x (mb Bm Bn : Nat) (cs : Array Value) (v : Txt) (o o8 o3 : Value) (w : World) (hv : v.length ≤ 1000000000)
    (h0 : w.cell? ⟨Bm, 0, none⟩ = some (.pointer (some ⟨mb, 0, none⟩))) (h1 : w.cell? ⟨Bn, 0, none⟩ = some (.func (.func 312) #[] #[])) (hb : w.heap[mb]? = some (.cells cs 49 (0, 0))) (hi : cs[13]? = some o) (h8 : cs[8]? = some o8) (h3 : cs[3]? = some o3) (hm : mb ≠ Bm) (hm1 : mb ≠ Bn) :
    Calls Tryz.prog 325 #[.string (mkS v), .pointer (some ⟨Bm, 0, none⟩), .pointer (some ⟨Bn, 0, none⟩)] w fun e w' => e = .returned (.int .i64 (byE v)) ∧ Told mb (byC v cs) 49 w w' := by
  have HW := Lib.hid (show BW w Bm Bn mb (.pointer (some ⟨mb, 0, none⟩)) (.func (.func 312) #[] #[]) cs 49 w from ⟨h0, h1, .of hb (Below.refl _ _)⟩)
  have HM := Lib.hid (show mb ≠ Bm ∧ mb ≠ Bn from ⟨hm, hm1⟩)
  have HI := Lib.hid hi
  have HCUT := Lib.hid (fun w => cut_x 59 v w (by omega))
  have HE := Lib.hid (show byE v = if isMode (upL (postC 59 v)) = true then numE (sgV (preC 59 v)) (sgE (preC 59 v)) (leastV (upL (postC 59 v))) 999999999 else 2 from rfl)
  have HC := Lib.hid (show byC v cs = if isMode (upL (postC 59 v)) = true then numC (sgV (preC 59 v)) (byE v) (cs.setIfInBounds 13 (.string (mkS (upL (postC 59 v))))) 8 3 else cs.setIfInBounds 13 (.string (mkS (upL (postC 59 v)))) from rfl)
  have hpl := post_le 59 v
  have hql := pre_le 59 v
  generalize byC v cs = cs' at HC ⊢
  generalize byE v = r at HE HC ⊢
  generalize postC 59 v = q at HCUT HE HC hpl
  generalize preC 59 v = x at HCUT HE HC hql
  generalize hasC 59 v = f at HCUT
  have HLM := Lib.hid (fun w => leastBy_x (upL q) w)
  have HIM := Lib.hid (fun w => isMode_x (upL q) w)
  generalize leastV (upL q) = lo at HLM HE
  have hlen : 13 < cs.size := (Array.getElem?_eq_some_iff.1 hi).1
  have HQ := Lib.hid (show q.length ≤ 1000000000000 by omega)
  have HX := Lib.hid (show x.length ≤ 1000000000000 by omega)
  have HI2 := Lib.hid (show (cs.setIfInBounds 13 (.string (mkS (upL q))))[13]? = some (.string (mkS (upL q))) by rw [Array.getElem?_setIfInBounds]; simp [hlen])
  have H82 := Lib.hid (show (cs.setIfInBounds 13 (.string (mkS (upL q))))[8]? = some o8 by rw [Array.getElem?_setIfInBounds_ne (by decide)]; exact h8)
  have H32 := Lib.hid (show (cs.setIfInBounds 13 (.string (mkS (upL q))))[3]? = some o3 by rw [Array.getElem?_setIfInBounds_ne (by decide)]; exact h3)
  clear hb hm hm1 hi h8 h3 hpl hql hlen
  go_enter Tryz.func325, Tryz.ntmps325
  go_wp2_with fail
  refine (HCUT.out _).mono ?_
  rintro e w0 ⟨rfl, k0, rfl⟩
  have HW0 := Lib.hid (HW.out.next (drew_below w k0))
  generalize w.drewN k0 = w0 at HW0 ⊢
  go_wp2_with fail
  go_region_held3 (fun wr => wr.cell? ⟨Bm, 0, none⟩ = some (.pointer (some ⟨mb, 0, none⟩)))
    (first | exact HW0.out.drew.box | assumption | exact keep_far _ _ HM.out.1 (by assumption))
    (first | (go_at_call 299; (with_reducible refine (BW.capB (i := 13) (Lib.hid HW0.out.drew) HI.out q HQ.out).mono ?_); rintro e w1 ⟨rfl, g0, g1, g2, g3⟩))
  have HS := Lib.hid (g3.out.set HM.out.1 HM.out.2 13 (.string (mkS (upL q))))
  obtain ⟨c1, c2, c3⟩ := HS.out.byS HI2.out
  clear g0 g1 g2 g3
  generalize w1.setCell ⟨mb, 13, none⟩ (.string (mkS (upL q))) = w2 at HS c1 c2 c3 ⊢
  generalize isMode (upL q) = bm at HIM HE HC
  cases bm
  · obtain rfl : r = 2 := HE.out
    obtain rfl := HC.out
    go_wp2_with fail
    refine (HIM.out _).mono ?_
    rintro e w3 ⟨rfl, rfl⟩
    go_wp2_with fail
    go_ret
    exact ⟨rfl, HS.out.blk⟩
  · have hr : r = numE (sgV x) (sgE x) lo 999999999 := HE.out
    have hc : cs' = numC (sgV x) r (cs.setIfInBounds 13 (.string (mkS (upL q)))) 8 3 := HC.out
    rw [hr] at hc
    have HF := Lib.hid (And.intro hr hc)
    clear HE HC hr hc
    go_wp2_with fail
    refine (HIM.out _).mono ?_
    rintro e w3 ⟨rfl, rfl⟩
    go_wp2_with fail
    go_region_held3 (fun wr => wr.cell? ⟨Bm, 0, none⟩ = some (.pointer (some ⟨mb, 0, none⟩)) ∧ wr.cell? ⟨Bn, 0, none⟩ = some (.func (.func 312) #[] #[]) ∧ wr.cell? ⟨mb, 13, none⟩ = some (.string (mkS (upL q))))
      (first | exact HS.out.drew.byS HI2.out | exact HS.out.byS HI2.out | assumption)
      (first
        | (go_at_call 327; (with_reducible refine (HLM.out _).mono ?_); rintro e w4 ⟨rfl, rfl⟩)
        | (go_at_call 312; (with_reducible refine (BW.numberB (Lib.hid HS.out.drew) HI2.out 322 lo 999999999).mono ?_); rintro e w5 ⟨N, rfl, n1, n2, n3, n4⟩)
        | (go_at_call 313; (with_reducible refine (BW.inner n4 HM n2 n3 HI2.out H82.out H32.out x HX.out).mono ?_); rintro e w6 ⟨rfl, m1, m2⟩))
    all_goals
      obtain ⟨hr, hc⟩ := HF.out
      subst hr
      subst hc
      clear HF n1 n2 n3 n4 m1
      go_wp2_with fail
      go_ret
      exact ⟨rfl, m2.out⟩
end Go.Proofs.YtbecdncnidcmdaaGreatDoor
