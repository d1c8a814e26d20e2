/-
  The walks of cmp.Or at two numbers and of the comparison that sorts.
-/
import Derived.Test.YtjjndndhmccflaaRdRank
import Derived.Test.YtjjndndhmccflaaLays
import Derived.Sort.Grow
namespace Go.Proofs.Ytjjndndhmccflaa
set_option maxRecDepth 100000
open Go.RowKit Go.Sort
theorem cellLt {w : World} {a : Addr} {v : Value} (h : w.cell? a = some v) : a.block < w.heap.size := by
  rcases Nat.lt_or_ge a.block w.heap.size with h' | h'
  · exact h'
  · simp [World.cell?, Array.getElem?_eq_none h'] at h
def orI (a b : Int) : Int := if a = 0 then b else a
set_option maxHeartbeats 2000000 in
theorem or_x (a b : Int) (g : Nat) (w : World) (h0 : w.cell? ⟨g, 0, none⟩ = some (.int .i64 a)) (h1 : w.cell? ⟨g, 1, none⟩ = some (.int .i64 b)) :
    Calls Try.prog 39 #[.slice (some ⟨g, 0, none⟩) 2 2] w fun e w' => e = .returned (.int .i64 (orI a b)) ∧ w' = w := by
  unfold orI
  by_cases ha : a = 0
  · subst ha
    by_cases hb : b = 0
    · subst hb
      go_enter Try.func39, Try.ntmps39
      go_wp2_with fail
      refine wp_loop_rounds 3 ?_
      rw [rounds_succ]
      go_wp2_with fail
      rw [rounds_succ]
      go_wp2_with fail
      rw [rounds_succ]
      go_wp2_with fail
      go_ret
      exact ⟨rfl, rfl⟩
    · have hb' : (b != 0) = true := bne_iff_ne.2 hb
      go_enter Try.func39, Try.ntmps39
      go_wp2_with fail
      refine wp_loop_rounds 3 ?_
      rw [rounds_succ]
      go_wp2_with fail
      rw [rounds_succ]
      go_wp2_with fail
      go_ret
      exact ⟨rfl, rfl⟩
  · have ha' : (a != 0) = true := bne_iff_ne.2 ha
    rw [if_neg ha]
    have H := Lib.hid ha
    clear ha
    go_enter Try.func39, Try.ntmps39
    go_wp2_with fail
    refine wp_loop_rounds 3 ?_
    rw [rounds_succ]
    go_wp2_with fail
    go_ret
    exact ⟨rfl, rfl⟩
/-- A comparison under way: the two elements' boxes, the captured ones. -/
structure CL (B nb rb b : Nat) (x y : Wt) (n g : Int) (W wr : World) : Prop where
  grown : ∃ q os, wr = grow (W.drewN q) os
  hx : W.heap[B]? = some (.cells #[.int .i64 x.1.id, .string (mkS x.1.dest), .int .i64 x.1.pri, .int .i64 x.1.at_, .int .i64 x.2] 70 (0, 0))
  hy : W.heap[B + 1]? = some (.cells #[.int .i64 y.1.id, .string (mkS y.1.dest), .int .i64 y.1.pri, .int .i64 y.1.at_, .int .i64 y.2] 70 (0, 0))
  hn : W.cell? ⟨nb, 0, none⟩ = some (.int .i64 n)
  hr : W.cell? ⟨rb, 0, none⟩ = some (.pointer (some ⟨b, 0, none⟩))
  hb : W.cell? ⟨b, 0, none⟩ = some (.int .i64 g)
section
variable {B nb rb b : Nat} {x y : Wt} {n g : Int} {W wr : World}
theorem CL.start (hx : W.heap[B]? = some (.cells #[.int .i64 x.1.id, .string (mkS x.1.dest), .int .i64 x.1.pri, .int .i64 x.1.at_, .int .i64 x.2] 70 (0, 0)))
    (hy : W.heap[B + 1]? = some (.cells #[.int .i64 y.1.id, .string (mkS y.1.dest), .int .i64 y.1.pri, .int .i64 y.1.at_, .int .i64 y.2] 70 (0, 0)))
    (hn : W.cell? ⟨nb, 0, none⟩ = some (.int .i64 n)) (hr : W.cell? ⟨rb, 0, none⟩ = some (.pointer (some ⟨b, 0, none⟩))) (hb : W.cell? ⟨b, 0, none⟩ = some (.int .i64 g)) : CL B nb rb b x y n g W W.drew :=
  ⟨⟨1, #[], by rw [grow_empty]; rfl⟩, hx, hy, hn, hr, hb⟩
theorem CL.drew (h : CL B nb rb b x y n g W wr) : CL B nb rb b x y n g W wr.drew := by
  obtain ⟨q, os, e⟩ := h.grown
  exact ⟨⟨q + 1, os, by rw [e]; rfl⟩, h.hx, h.hy, h.hn, h.hr, h.hb⟩
theorem CL.alloc (h : CL B nb rb b x y n g W wr) (o : Obj) : CL B nb rb b x y n g W (wr.alloc o) := by
  obtain ⟨q, os, e⟩ := h.grown
  exact ⟨⟨q, os ++ #[o], by rw [e, alloc_eq_grow, grow_grow]⟩, h.hx, h.hy, h.hn, h.hr, h.hb⟩
theorem CL.old (h : CL B nb rb b x y n g W wr) {a : Addr} {v : Value} (hv : W.cell? a = some v) : wr.cell? a = some v := by
  obtain ⟨q, os, e⟩ := h.grown
  rw [e, Go.Sort.cell?_grow (W.drewN q) os a (cellLt hv)]; exact hv
theorem CL.cells (h : CL B nb rb b x y n g W wr) : wr.cell? ⟨B, 0, none⟩ = some (.int .i64 x.1.id) ∧ wr.cell? ⟨B, 1, none⟩ = some (.string (mkS x.1.dest)) ∧ wr.cell? ⟨B, 2, none⟩ = some (.int .i64 x.1.pri) ∧ wr.cell? ⟨B, 3, none⟩ = some (.int .i64 x.1.at_) ∧ wr.cell? ⟨B, 4, none⟩ = some (.int .i64 x.2) ∧
    wr.cell? ⟨B + 1, 0, none⟩ = some (.int .i64 y.1.id) ∧ wr.cell? ⟨B + 1, 1, none⟩ = some (.string (mkS y.1.dest)) ∧ wr.cell? ⟨B + 1, 2, none⟩ = some (.int .i64 y.1.pri) ∧ wr.cell? ⟨B + 1, 3, none⟩ = some (.int .i64 y.1.at_) ∧ wr.cell? ⟨B + 1, 4, none⟩ = some (.int .i64 y.2) ∧
    wr.cell? ⟨nb, 0, none⟩ = some (.int .i64 n) ∧ wr.cell? ⟨rb, 0, none⟩ = some (.pointer (some ⟨b, 0, none⟩)) ∧ wr.cell? ⟨b, 0, none⟩ = some (.int .i64 g) ∧ Hid (CL B nb rb b x y n g W wr) :=
  ⟨h.old (cellOf h.hx 0), h.old (cellOf h.hx 1), h.old (cellOf h.hx 2), h.old (cellOf h.hx 3), h.old (cellOf h.hx 4), h.old (cellOf h.hy 0), h.old (cellOf h.hy 1), h.old (cellOf h.hy 2), h.old (cellOf h.hy 3), h.old (cellOf h.hy 4), h.old h.hn, h.old h.hr, h.old h.hb, h⟩
abbrev CLS (B nb rb b : Nat) (x y : Wt) (n g : Int) (W wr : World) : Prop := wr.cell? ⟨B, 0, none⟩ = some (.int .i64 x.1.id) ∧ wr.cell? ⟨B, 1, none⟩ = some (.string (mkS x.1.dest)) ∧ wr.cell? ⟨B, 2, none⟩ = some (.int .i64 x.1.pri) ∧ wr.cell? ⟨B, 3, none⟩ = some (.int .i64 x.1.at_) ∧ wr.cell? ⟨B, 4, none⟩ = some (.int .i64 x.2) ∧
    wr.cell? ⟨B + 1, 0, none⟩ = some (.int .i64 y.1.id) ∧ wr.cell? ⟨B + 1, 1, none⟩ = some (.string (mkS y.1.dest)) ∧ wr.cell? ⟨B + 1, 2, none⟩ = some (.int .i64 y.1.pri) ∧ wr.cell? ⟨B + 1, 3, none⟩ = some (.int .i64 y.1.at_) ∧ wr.cell? ⟨B + 1, 4, none⟩ = some (.int .i64 y.2) ∧
    wr.cell? ⟨nb, 0, none⟩ = some (.int .i64 n) ∧ wr.cell? ⟨rb, 0, none⟩ = some (.pointer (some ⟨b, 0, none⟩)) ∧ wr.cell? ⟨b, 0, none⟩ = some (.int .i64 g) ∧ Hid (CL B nb rb b x y n g W wr)
end
/-- The comparison's answer. -/
def cfR (n g : Int) (x y : Wt) : Int := orI (Lib.compareInt (rkW g n y) (rkW g n x)) (Lib.compareInt x.2 y.2)
def NowOk (n g : Int) : Prop := -10000000000000 ≤ n ∧ n ≤ 10000000000000 ∧ 1 ≤ g ∧ g ≤ 1048576
theorem rankS {B nb rb b : Nat} {x y : Wt} {n g : Int} {W wr : World} (h : Hid (CL B nb rb b x y n g W wr)) (hN : NowOk n g) (z : Et) (hz : okE z = true) :
    Calls Try.prog 23 #[agE z, .int .i64 n, .int .i64 g] wr fun e w' => e = .returned (.int .i64 (rk z.pri z.at_ n g)) ∧ CLS B nb rb b x y n g W w' := by
  obtain ⟨z0, z1, z2, z3, z4, z5, z6⟩ := okE_iff.1 hz
  refine (rank_x z n g wr z3 z4 z5 z6 hN.1 hN.2.1 hN.2.2.1 hN.2.2.2).mono ?_
  rintro e w' ⟨rfl, rfl⟩
  exact ⟨rfl, (h.out.alloc _).cells⟩
theorem cmpS {B nb rb b : Nat} {x y : Wt} {n g : Int} {W wr : World} (h : Hid (CL B nb rb b x y n g W wr)) (p q : Int) :
    Calls Try.prog 40 #[.int .i64 p, .int .i64 q] wr fun e w' => e = .returned (.int .i64 (Lib.compareInt p q)) ∧ CLS B nb rb b x y n g W w' := by
  refine (show Calls Try.prog 40 _ wr _ from AnyG.cmp_Compare_int Try.cmpI p q wr).mono ?_
  rintro e w' ⟨rfl, rfl⟩
  exact ⟨rfl, h.out.cells⟩
theorem orS {B nb rb b : Nat} {x y : Wt} {n g : Int} {W wr : World} (h : Hid (CL B nb rb b x y n g W wr)) (p q : Int) (k : Nat) (h0 : wr.cell? ⟨k, 0, none⟩ = some (.int .i64 p)) (h1 : wr.cell? ⟨k, 1, none⟩ = some (.int .i64 q)) :
    Calls Try.prog 39 #[.slice (some ⟨k, 0, none⟩) 2 2] wr fun e w' => e = .returned (.int .i64 (orI p q)) ∧ CLS B nb rb b x y n g W w' := by
  refine (or_x p q k wr h0 h1).mono ?_
  rintro e w' ⟨rfl, rfl⟩
  exact ⟨rfl, h.out.cells⟩
set_option maxHeartbeats 4000000 in
/-- THE COMPARISON, in whatever world. -/
theorem clos_x (x y : Wt) (n g : Int) (nb rb b : Nat) (W : World) (hN : NowOk n g) (ox : okE x.1 = true) (oy : okE y.1 = true) (hn : W.cell? ⟨nb, 0, none⟩ = some (.int .i64 n)) (hr : W.cell? ⟨rb, 0, none⟩ = some (.pointer (some ⟨b, 0, none⟩))) (hb : W.cell? ⟨b, 0, none⟩ = some (.int .i64 g)) :
    Calls Try.prog 38 #[agR x, agR y, .pointer (some ⟨nb, 0, none⟩), .pointer (some ⟨rb, 0, none⟩)] W fun e w' => e = .returned (.int .i64 (cfR n g x y)) ∧ ∃ q os, w' = grow (W.drewN q) os := by
  obtain ⟨B, hB⟩ : ∃ B, W.heap.size = B := ⟨_, rfl⟩
  obtain ⟨W2, hW2⟩ : ∃ W2, W2 = (W.alloc (.cells #[.int .i64 x.1.id, .string (mkS x.1.dest), .int .i64 x.1.pri, .int .i64 x.1.at_, .int .i64 x.2] 70)).alloc (.cells #[.int .i64 y.1.id, .string (mkS y.1.dest), .int .i64 y.1.pri, .int .i64 y.1.at_, .int .i64 y.2] 70) := ⟨_, rfl⟩
  have HC := CL.start (B := B) (nb := nb) (rb := rb) (b := b) (x := x) (y := y) (n := n) (g := g) (W := W2) (by rw [hW2, ← hB]; exact belowOf (newOf W _) (below_box (W.alloc _) _) (by simp)) (by rw [hW2, ← hB, show W.heap.size + 1 = (W.alloc (.cells #[.int .i64 x.1.id, .string (mkS x.1.dest), .int .i64 x.1.pri, .int .i64 x.1.at_, .int .i64 x.2] 70)).heap.size by simp]; exact newOf _ _) (by rw [hW2]; exact Lib.cell?_alloc_some _ (Lib.cell?_alloc_some _ hn)) (by rw [hW2]; exact Lib.cell?_alloc_some _ (Lib.cell?_alloc_some _ hr)) (by rw [hW2]; exact Lib.cell?_alloc_some _ (Lib.cell?_alloc_some _ hb))
  have HG := Lib.hid (show ∀ q os, ∃ q' os', grow (W2.drewN q) os = grow (W.drewN q') os' from fun q os => ⟨q, #[_] ++ (#[_] ++ os), by rw [hW2, alloc_eq_grow, alloc_eq_grow, grow_grow]; show grow (grow (W.drewN q) _) os = _; rw [grow_grow, Array.append_assoc]⟩)
  have HCx := Lib.hid HC
  have HN := Lib.hid (And.intro hN (And.intro ox oy))
  have HW2 := Lib.hid hW2
  have HB := Lib.hid hB
  clear HC hN ox oy hn hr hb hW2 hB
  unfold cfR rkW
  obtain ⟨⟨xi, xd, xp, xa⟩, xn⟩ := x
  obtain ⟨⟨yi, yd, yp, ya⟩, yn⟩ := y
  dsimp only at HW2 HCx HN ⊢
  go_enter Try.func38, Try.ntmps38
  go_wp2_with fail
  rw [HB.out]
  rw [← HW2.out]
  have HC0 := HCx
  clear HCx
  go_region_held3 (fun wr => wr.cell? ⟨B, 0, none⟩ = some (.int .i64 xi) ∧ wr.cell? ⟨B, 1, none⟩ = some (.string (mkS xd)) ∧ wr.cell? ⟨B, 2, none⟩ = some (.int .i64 xp) ∧ wr.cell? ⟨B, 3, none⟩ = some (.int .i64 xa) ∧ wr.cell? ⟨B, 4, none⟩ = some (.int .i64 xn) ∧ wr.cell? ⟨B + 1, 0, none⟩ = some (.int .i64 yi) ∧ wr.cell? ⟨B + 1, 1, none⟩ = some (.string (mkS yd)) ∧ wr.cell? ⟨B + 1, 2, none⟩ = some (.int .i64 yp) ∧ wr.cell? ⟨B + 1, 3, none⟩ = some (.int .i64 ya) ∧ wr.cell? ⟨B + 1, 4, none⟩ = some (.int .i64 yn) ∧ wr.cell? ⟨nb, 0, none⟩ = some (.int .i64 n) ∧ wr.cell? ⟨rb, 0, none⟩ = some (.pointer (some ⟨b, 0, none⟩)) ∧ wr.cell? ⟨b, 0, none⟩ = some (.int .i64 g) ∧ Hid (CL B nb rb b ({ id := xi, dest := xd, pri := xp, at_ := xa }, xn) ({ id := yi, dest := yd, pri := yp, at_ := ya }, yn) n g W2 wr))
    (first | (with_reducible exact HC0.out.cells) | (refine CL.cells (B := B) (nb := nb) (rb := rb) (b := b) (x := ({ id := xi, dest := xd, pri := xp, at_ := xa }, xn)) (y := ({ id := yi, dest := yd, pri := yp, at_ := ya }, yn)) (n := n) (g := g) (W := W2) (CL.alloc (Hid.out ?_) _); assumption) | (with_reducible exact ⟨by assumption, by assumption, by assumption, by assumption, by assumption, by assumption, by assumption, by assumption, by assumption, by assumption, by assumption, by assumption, by assumption, by assumption⟩))
    (first
      | (go_at_call 23; (with_reducible refine (rankS (B := B) (nb := nb) (rb := rb) (b := b) (x := ({ id := xi, dest := xd, pri := xp, at_ := xa }, xn)) (y := ({ id := yi, dest := yd, pri := yp, at_ := ya }, yn)) (n := n) (g := g) (W := W2) ?_ HN.out.1 { id := xi, dest := xd, pri := xp, at_ := xa } HN.out.2.1).mono ?_); (first | assumption | exact HC0 | (refine Lib.hid (CL.alloc (Hid.out ?_) _); assumption)); rintro e w2 ⟨rfl, g0, g1, g2, g3, g4, g5, g6, g7, g8, g9, g10, g11, g12, gH⟩)
      | (go_at_call 23; (with_reducible refine (rankS (B := B) (nb := nb) (rb := rb) (b := b) (x := ({ id := xi, dest := xd, pri := xp, at_ := xa }, xn)) (y := ({ id := yi, dest := yd, pri := yp, at_ := ya }, yn)) (n := n) (g := g) (W := W2) ?_ HN.out.1 { id := yi, dest := yd, pri := yp, at_ := ya } HN.out.2.2).mono ?_); (first | assumption | exact HC0 | (refine Lib.hid (CL.alloc (Hid.out ?_) _); assumption)); rintro e w2 ⟨rfl, g0, g1, g2, g3, g4, g5, g6, g7, g8, g9, g10, g11, g12, gH⟩)
      | (go_at_call 40; (with_reducible refine (cmpS (B := B) (nb := nb) (rb := rb) (b := b) (x := ({ id := xi, dest := xd, pri := xp, at_ := xa }, xn)) (y := ({ id := yi, dest := yd, pri := yp, at_ := ya }, yn)) (n := n) (g := g) (W := W2) ?_ (rk yp ya n g) (rk xp xa n g)).mono ?_); (first | assumption | exact HC0 | (refine Lib.hid (CL.alloc (Hid.out ?_) _); assumption)); rintro e w2 ⟨rfl, g0, g1, g2, g3, g4, g5, g6, g7, g8, g9, g10, g11, g12, gH⟩)
      | (go_at_call 40; (with_reducible refine (cmpS (B := B) (nb := nb) (rb := rb) (b := b) (x := ({ id := xi, dest := xd, pri := xp, at_ := xa }, xn)) (y := ({ id := yi, dest := yd, pri := yp, at_ := ya }, yn)) (n := n) (g := g) (W := W2) ?_ xn yn).mono ?_); (first | assumption | exact HC0 | (refine Lib.hid (CL.alloc (Hid.out ?_) _); assumption)); rintro e w2 ⟨rfl, g0, g1, g2, g3, g4, g5, g6, g7, g8, g9, g10, g11, g12, gH⟩)
      | (go_at_call 39; (with_reducible refine (orS (B := B) (nb := nb) (rb := rb) (b := b) (x := ({ id := xi, dest := xd, pri := xp, at_ := xa }, xn)) (y := ({ id := yi, dest := yd, pri := yp, at_ := ya }, yn)) (n := n) (g := g) (W := W2) ?_ (Lib.compareInt (rk yp ya n g) (rk xp xa n g)) (Lib.compareInt xn yn) _ ?_ ?_).mono ?_); (first | assumption | exact HC0 | (refine Lib.hid (CL.alloc (Hid.out ?_) _); assumption)); (exact cellOf (newOf _ _) 0); (exact cellOf (newOf _ _) 1); rintro e w2 ⟨rfl, g0, g1, g2, g3, g4, g5, g6, g7, g8, g9, g10, g11, g12, gH⟩))
  all_goals
    have HF := Lib.hid gH.out.grown
    go_wp2_with fail
    go_ret
    obtain ⟨q, os, e⟩ := HF.out
    refine ⟨rfl, ?_⟩
    rw [e]
    exact HG.out q os
end Go.Proofs.Ytjjndndhmccflaa
