/-
  The walk of awake.
-/
import Derived.Test.YtjjndndhmccflaaRdHeld
namespace Go.Proofs.Ytjjndndhmccflaa
set_option maxRecDepth 100000
open Go.RowKit
def eA : Et := ⟨1, [120], 0, 0⟩
def eB : Et := ⟨2, [120], 1, 20⟩
def eC : Et := ⟨3, [121], -9, 20⟩
def eD : Et := ⟨1, [122], 0, 0⟩
def eE : Et := ⟨4, [], 0, 0⟩
def aw0 : Rq := ⟨10, 1, 9, 0, [], []⟩
def aw1 : Rq := ⟨10, 1, 9, 1, [(eA, 1)], []⟩
def aw2 : Rq := ⟨10, 1, 9, 2, [(eA, 1), (eB, 2)], []⟩
def aw3 : Rq := ⟨10, 1, 9, 3, [(eA, 1), (eB, 2), (eC, 3)], []⟩
def aw4 : Rq := ⟨10, 1, 9, 3, [(eB, 2), (eC, 3)], [eA]⟩
def aw5 : Rq := ⟨10, 1, 9, 3, [(eB, 2)], [eC, eA]⟩
def aw6 : Rq := ⟨10, 1, 9, 3, [(eB, 2)], [eC]⟩
def aw7 : Rq := ⟨10, 1, 9, 3, [], [eB, eC]⟩
theorem nowA {S : Rq} (h : S.age = 10) : NowOk 20 S.age := by rw [h]; unfold NowOk; omega
section
variable {W : World} {O : Nat → Prop} {b : Nat} {S S' : Rq} {w : World} {L : List (Nat × Obj)}
/-- A queue and what stays beside it. -/
def HK (W : World) (L : List (Nat × Obj)) (b : Nat) (S : Rq) (w : World) : Prop := ∃ O, HQ W O b S w ∧ Kept L O w
theorem HK.add (h : HK W L b S w) (o : Obj) {cs : Array Value} {t : TypeId} (_ : o = .cells cs t) : HK W ((w.heap.size, o) :: L) b S (w.alloc o) := by
  obtain ⟨O, h1, h2⟩ := h
  exact ⟨O, h1.next (below_box w o), (h2.st (St.of_below (below_box w o))).add (newOf w o) fun e => by have := h1.olt _ e; omega⟩
theorem HK.get (h : HK W L b S w) {g : Nat} {cs : Array Value} {t : TypeId} (hm : (g, Obj.cells cs t) ∈ L) : w.heap[g]? = some (.cells cs t (0, 0)) := by obtain ⟨O, _, h2⟩ := h; exact (h2 _ hm).1
theorem put_k (h : HK W L b S w) (x : Et) (hn : S.n < 1000000) (hi : Nm x.id) (hd : x.dest.length ≤ 1000000000) {c : Int} (hc : putE S x = c) (hs : putQ S x = S') :
    Calls Try.prog 10 #[.pointer (some ⟨b, 0, none⟩), agE x] w fun e w' => e = .returned (.int .i64 c) ∧ HK W L b S' w' := by
  obtain ⟨O, h1, h2⟩ := h
  refine (put_h h1 x hn hi hd).mono ?_
  rintro e w' ⟨rfl, O', h3, h4⟩
  exact ⟨by rw [hc], O', hs ▸ h3, h2.st h4⟩
theorem take_k (h : HK W L b S w) (n : Int) (hn : NowOk n S.age) {y : Et} {t : Bool} (hy : tkE S n = y) (ht : tkB S n = t) (hs : takeQ S n = S') :
    Calls Try.prog 12 #[.pointer (some ⟨b, 0, none⟩), .int .i64 n] w fun e w' => e = .returned (.tuple #[agE y, .bool t]) ∧ HK W L b S' w' := by
  obtain ⟨O, h1, h2⟩ := h
  refine (take_h h1 n hn).mono ?_
  rintro e w' ⟨rfl, h3, h4⟩
  exact ⟨by rw [hy, ht], O, hs ▸ h3, h2.st h4⟩
theorem done_k (h : HK W L b S w) (i : Int) (hi : Nm i) {t : Bool} (ht : hasF S i = t) (hs : doneQ S i = S') :
    Calls Try.prog 14 #[.pointer (some ⟨b, 0, none⟩), .int .i64 i] w fun e w' => e = .returned (.bool t) ∧ HK W L b S' w' := by
  obtain ⟨O, h1, h2⟩ := h
  refine (done_h h1 i hi).mono ?_
  rintro e w' ⟨rfl, h3, h4⟩
  exact ⟨by rw [ht], O, hs ▸ h3, h2.st h4⟩
theorem remove_k (h : HK W L b S w) (i : Int) {t : Bool} (ht : hasL S i = t) (hs : removeQ S i = S') :
    Calls Try.prog 16 #[.pointer (some ⟨b, 0, none⟩), .int .i64 i] w fun e w' => e = .returned (.bool t) ∧ HK W L b S' w' := by
  obtain ⟨O, h1, h2⟩ := h
  refine (remove_h h1 i).mono ?_
  rintro e w' ⟨rfl, h3, h4⟩
  exact ⟨by rw [ht], O, hs ▸ h3, h2.st h4⟩
theorem len_k (h : HK W L b S w) {c : Int} (hc : (S.L.length : Int) = c) : Calls Try.prog 20 #[.pointer (some ⟨b, 0, none⟩)] w fun e w' => e = .returned (.int .i64 c) ∧ w' = w := by
  obtain ⟨O, h1, h2⟩ := h
  rw [← hc]; exact len_h h1
theorem flying_k (h : HK W L b S w) (d : Txt) (hd : d.length ≤ 1000000000) {c : Int} (hc : cnt S.F d = c) : Calls Try.prog 21 #[.pointer (some ⟨b, 0, none⟩), .string (mkS d)] w fun e w' => e = .returned (.int .i64 c) ∧ w' = w := by
  obtain ⟨O, h1, h2⟩ := h
  rw [← hc]; exact flying_h h1 d hd
theorem order_k (h : HK W L b S w) (n : Int) (hn : NowOk n S.age) {l : List Int} {N : Nat} (hl : ordQ S n = l) (hN : l.length = N) (hne : 0 < N) :
    Calls Try.prog 18 #[.pointer (some ⟨b, 0, none⟩), .int .i64 n] w fun e w' => ∃ (g c : Nat) (cs : Array Value), e = .returned (.slice (some ⟨g, 0, none⟩) N c) ∧ HK W ((g, .cells cs 3) :: L) b S w' ∧ ∀ (i : Nat) (t : Int), l[i]? = some t → cs[i]? = some (Value.int .i64 t) := by
  subst hN
  obtain ⟨O, h1, h2⟩ := h
  refine (order_h h1 n hn).mono ?_
  rintro e w' ⟨A, c, rfl, h3, h4, h5⟩
  rw [hl] at h3 ⊢
  rcases h3.2 with ⟨_, h0⟩ | ⟨g, cap, cur, hv, hB, hk, h6, h7, h8, h9⟩
  · omega
  · injection hv with hv1 _ hv3
    subst hv1
    refine ⟨g, c, cur, rfl, ⟨O, h4, (h2.st h5).add hk fun e => by have := h1.olt _ e; omega⟩, fun i t hi => ?_⟩
    have hlt := (List.getElem?_eq_some_iff.1 hi).1
    have e : (cur.toList.take (l.length * 1))[i]? = some (.int .i64 t) := by rw [h9, intsR, List.getElem?_map, hi]; rfl
    rw [List.getElem?_take, if_pos (by omega)] at e
    simpa using e
end
set_option maxHeartbeats 16000000 in
/-- awake. -/
theorem awake_x (w : World) : Calls Try.prog 5 #[] w fun e w' => e = .returned (.bool true) ∧ Below w.heap.size w w' := by
  have HN := Lib.hid (new_h (Below.refl w.heap.size w) 10 1 9 (by decide))
  have HNo := Lib.hid (fun w => new_no 0 1 1 w (by decide))
  have HRk := Lib.hid (fun w' => rank_x eA 95 10 w' (by decide) (by decide) (by decide) (by decide) (by decide) (by decide) (by decide) (by decide))
  go_enter Try.func5, Try.ntmps5
  go_wp2_with fail
  refine HN.out.mono ?_
  rintro e w0 ⟨b, O, rfl, h0, _, _⟩
  have K := Lib.hid (show HK w [] b aw0 w0 from ⟨O, h0, Kept.nil _ _⟩)
  clear h0 HN
  go_wp2_with fail
  refine (HNo.out _).mono ?_
  rintro e w1 ⟨rfl, rfl⟩
  go_wp2_with fail
  refine (put_k (S' := aw1) (c := 0) K.out eA (by decide) (by unfold Nm eA; decide) (by decide) (by decide +kernel) (by decide +kernel)).mono ?_
  rintro e w1 ⟨rfl, K'⟩
  have K := Lib.hid K'
  go_wp2_with fail
  refine (put_k (S' := aw2) (c := 0) K.out eB (by decide) (by unfold Nm eB; decide) (by decide) (by decide +kernel) (by decide +kernel)).mono ?_
  rintro e w1 ⟨rfl, K'⟩
  have K := Lib.hid K'
  go_wp2_with fail
  refine (put_k (S' := aw3) (c := 0) K.out eC (by decide) (by unfold Nm eC; decide) (by decide) (by decide +kernel) (by decide +kernel)).mono ?_
  rintro e w1 ⟨rfl, K'⟩
  have K := Lib.hid K'
  go_wp2_with fail
  refine (put_k (S' := aw3) (c := 11) K.out eD (by decide) (by unfold Nm eD; decide) (by decide) (by decide +kernel) (by decide +kernel)).mono ?_
  rintro e w1 ⟨rfl, K'⟩
  have K := Lib.hid K'
  go_wp2_with fail
  refine (put_k (S' := aw3) (c := 1) K.out eE (by decide) (by unfold Nm eE; decide) (by decide) (by decide +kernel) (by decide +kernel)).mono ?_
  rintro e w1 ⟨rfl, K'⟩
  have K := Lib.hid K'
  go_wp2_with fail
  refine (order_k (l := [1, 2, 3]) (N := 3) K.out 20 (nowA rfl) (by decide +kernel) rfl (by decide)).mono ?_
  rintro e w1 ⟨gl, cl, csl, rfl, K', HCS⟩
  have K := Lib.hid K'
  have HCS := Lib.hid HCS
  clear HNo
  go_wp2_with fail
  refine (take_k (S' := aw4) (y := eA) (t := true) K.out 20 (nowA rfl) (by decide +kernel) (by decide +kernel) (by decide +kernel)).mono ?_
  rintro e w1 ⟨rfl, K'⟩
  obtain ⟨X1, hX1⟩ : ∃ X, X = w1.heap.size := ⟨_, rfl⟩
  obtain ⟨wA, hwA⟩ : ∃ wA, wA = w1.alloc (.cells (ecs eA) 34) := ⟨_, rfl⟩
  have K := Lib.hid (show HK w [(X1, Obj.cells (ecs eA) 34), (gl, Obj.cells csl 3)] b aw4 wA from by rw [hX1, hwA]; exact K'.add _ rfl)
  have HA := Lib.hid (And.intro hwA hX1)
  clear K' hX1 hwA
  go_wp2_with fail
  rw [← HA.out.1, ← HA.out.2]
  refine (take_k (S' := aw5) (y := eC) (t := true) K.out 20 (nowA rfl) (by decide +kernel) (by decide +kernel) (by decide +kernel)).mono ?_
  rintro e w1 ⟨rfl, K'⟩
  obtain ⟨X2, hX2⟩ : ∃ X, X = w1.heap.size := ⟨_, rfl⟩
  obtain ⟨wA, hwA⟩ : ∃ wA, wA = w1.alloc (.cells (ecs eC) 34) := ⟨_, rfl⟩
  have K := Lib.hid (show HK w [(X2, Obj.cells (ecs eC) 34), (X1, Obj.cells (ecs eA) 34), (gl, Obj.cells csl 3)] b aw5 wA from by rw [hX2, hwA]; exact K'.add _ rfl)
  have HA := Lib.hid (And.intro hwA hX2)
  clear K' hX2 hwA
  go_wp2_with fail
  rw [← HA.out.1, ← HA.out.2]
  refine (take_k (S' := aw5) (y := zEt) (t := false) K.out 20 (nowA rfl) (by decide +kernel) (by decide +kernel) (by decide +kernel)).mono ?_
  rintro e w1 ⟨rfl, K'⟩
  obtain ⟨X3, hX3⟩ : ∃ X, X = w1.heap.size := ⟨_, rfl⟩
  obtain ⟨wA, hwA⟩ : ∃ wA, wA = w1.alloc (.cells #[.int .i64 0, .string (mkS []), .int .i64 0, .int .i64 0] 34) := ⟨_, rfl⟩
  have K := Lib.hid (show HK w [(X3, Obj.cells (ecs zEt) 34), (X2, Obj.cells (ecs eC) 34), (X1, Obj.cells (ecs eA) 34), (gl, Obj.cells csl 3)] b aw5 wA from by rw [hX3, hwA]; exact K'.add _ rfl)
  have HA := Lib.hid (And.intro hwA hX3)
  clear K' hX3 hwA
  go_wp2_with fail
  rw [← HA.out.1, ← HA.out.2]
  refine (flying_k (c := 1) K.out [120] (by decide) (by decide +kernel)).mono ?_
  rintro e w1 ⟨rfl, rfl⟩
  go_wp2_with fail
  refine (done_k (S' := aw6) (t := true) K.out 1 (by unfold Nm; decide) (by decide +kernel) (by decide +kernel)).mono ?_
  rintro e w1 ⟨rfl, K'⟩
  have K := Lib.hid K'
  go_wp2_with fail
  refine (done_k (S' := aw6) (t := false) K.out 1 (by unfold Nm; decide) (by decide +kernel) (by decide +kernel)).mono ?_
  rintro e w1 ⟨rfl, K'⟩
  have K := Lib.hid K'
  go_wp2_with fail
  refine (take_k (S' := aw7) (y := eB) (t := true) K.out 20 (nowA rfl) (by decide +kernel) (by decide +kernel) (by decide +kernel)).mono ?_
  rintro e w1 ⟨rfl, K'⟩
  obtain ⟨X4, hX4⟩ : ∃ X, X = w1.heap.size := ⟨_, rfl⟩
  obtain ⟨wA, hwA⟩ : ∃ wA, wA = w1.alloc (.cells (ecs eB) 34) := ⟨_, rfl⟩
  have K := Lib.hid (show HK w [(X4, Obj.cells (ecs eB) 34), (X3, Obj.cells (ecs zEt) 34), (X2, Obj.cells (ecs eC) 34), (X1, Obj.cells (ecs eA) 34), (gl, Obj.cells csl 3)] b aw7 wA from by rw [hX4, hwA]; exact K'.add _ rfl)
  have HA := Lib.hid (And.intro hwA hX4)
  have x1 := K'.get (g := X1) (cs := ecs eA) (t := 34) (by simp)
  have x2 := K'.get (g := X2) (cs := ecs eC) (t := 34) (by simp)
  have xg := K'.get (g := gl) (cs := csl) (t := 3) (by simp)
  have c10 : w1.cell? ⟨X1, 0, none⟩ = some (.int .i64 1) := cellOf x1 0
  have c11 : w1.cell? ⟨X1, 1, none⟩ = some (.string { data := #[120] }) := cellOf x1 1
  have c12 : w1.cell? ⟨X1, 2, none⟩ = some (.int .i64 0) := cellOf x1 2
  have c13 : w1.cell? ⟨X1, 3, none⟩ = some (.int .i64 0) := cellOf x1 3
  have c20 : w1.cell? ⟨X2, 0, none⟩ = some (.int .i64 3) := cellOf x2 0
  have cg0 : w1.cell? ⟨gl, 0, none⟩ = some (.int .i64 1) := (cellOf xg 0).trans (HCS.out 0 1 rfl)
  have cg1 : w1.cell? ⟨gl, 1, none⟩ = some (.int .i64 2) := (cellOf xg 1).trans (HCS.out 1 2 rfl)
  have cg2 : w1.cell? ⟨gl, 2, none⟩ = some (.int .i64 3) := (cellOf xg 2).trans (HCS.out 2 3 rfl)
  have l1 := hlt x1
  have l2 := hlt x2
  have lg := hlt xg
  have n1 : X1 ≠ w1.heap.size := by omega
  have n2 : X2 ≠ w1.heap.size := by omega
  have ng : gl ≠ w1.heap.size := by omega
  have hB : eB.id = 2 := rfl
  have K4 := Lib.hid (show HK w [(X4, Obj.cells (ecs eB) 34), (X3, Obj.cells (ecs zEt) 34), (X2, Obj.cells (ecs eC) 34), (X1, Obj.cells (ecs eA) 34), (gl, Obj.cells csl 3)] b aw7 (w1.alloc (.cells (ecs eB) 34)) from by rw [← hwA]; exact K.out)
  clear x1 x2 xg K' hX4 hwA
  go_wp2_with fail
  refine (len_k (c := 0) K4.out (by decide +kernel)).mono ?_
  rintro e w2 ⟨rfl, rfl⟩
  go_wp2_with fail
  refine (remove_k (S' := aw7) (t := false) K4.out 2 (by decide +kernel) (by decide +kernel)).mono ?_
  rintro e w2 ⟨rfl, K5⟩
  have x1 := K5.get (g := X1) (cs := ecs eA) (t := 34) (by simp)
  have d10 : w2.cell? ⟨X1, 0, none⟩ = some (.int .i64 1) := cellOf x1 0
  have d11 : w2.cell? ⟨X1, 1, none⟩ = some (.string { data := #[120] }) := cellOf x1 1
  have d12 : w2.cell? ⟨X1, 2, none⟩ = some (.int .i64 0) := cellOf x1 2
  have d13 : w2.cell? ⟨X1, 3, none⟩ = some (.int .i64 0) := cellOf x1 3
  obtain ⟨O5, hq5, _⟩ := K5
  have HB5 := Lib.hid hq5.below
  clear x1 hq5
  go_wp2_with fail
  refine (HRk.out w2).mono ?_
  rintro e w3 ⟨rfl, rfl⟩
  go_wp2_with fail
  go_ret
  exact ⟨rfl, below_next HB5.out (below_box w2 _)⟩
end Go.Proofs.Ytjjndndhmccflaa
