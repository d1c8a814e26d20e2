/-
  Every law of reply begins with the same calls: awake's walk.
-/
import Derived.Test.YtdcakmamdabiaaaDoorRpOf
import Derived.Test.YtdcakmamdabiaaaDoorRpPrint
import Derived.Test.YtdcakmamdabiaaaDoorRpSame
namespace Go.Proofs.YtdcakmamdabiaaaDoor
set_option maxRecDepth 100000
open Go.RowKit
theorem it250 : Lib.itoa 250 = [50, 53, 48] := by
  rw [Lib.itoa, if_neg (by decide)]
  show Lib.decDigits 250 = _
  rw [dec_s (by decide), dec_s (by decide), dec_1 (by decide)]; rfl
theorem it550 : Lib.itoa 550 = [53, 53, 48] := by
  rw [Lib.itoa, if_neg (by decide)]
  show Lib.decDigits 550 = _
  rw [dec_s (by decide), dec_s (by decide), dec_1 (by decide)]; rfl
theorem it1 (n : Nat) (h : n < 10) : Lib.itoa (n : Int) = [dg n] := by
  rw [Lib.itoa, if_neg (by omega), Int.toNat_natCast, dec_1 h]
def rA : Rp := ⟨250, (2, 0, 0), [[97], [98]]⟩
def rO : Rp := ⟨550, (5, 1, 1), [[110, 111]]⟩
theorem hA (s : UInt8) : rpHead 250 (2, 0, 0) s = [50, 53, 48, s, 50, 46, 48, 46, 48, 32] := by
  rw [rpHead, it250, rpWord, if_pos (by decide)]
  show [50, 53, 48] ++ s :: (Lib.itoa ((2 : Nat) : Int) ++ 46 :: (Lib.itoa ((0 : Nat) : Int) ++ 46 :: (Lib.itoa ((0 : Nat) : Int) ++ [32]))) = _
  rw [it1 2 (by decide), it1 0 (by decide)]; rfl
theorem hO (s : UInt8) : rpHead 550 (5, 1, 1) s = [53, 53, 48, s, 53, 46, 49, 46, 49, 32] := by
  rw [rpHead, it550, rpWord, if_pos (by decide)]
  show [53, 53, 48] ++ s :: (Lib.itoa ((5 : Nat) : Int) ++ 46 :: (Lib.itoa ((1 : Nat) : Int) ++ 46 :: (Lib.itoa ((1 : Nat) : Int) ++ [32]))) = _
  rw [it1 5 (by decide), it1 1 (by decide)]; rfl
theorem parA : rpParse [[50, 53, 48, 45, 50, 46, 48, 46, 48, 32, 97], [50, 53, 48, 32, 50, 46, 48, 46, 48, 32, 98], [120]] = ⟨rA, 2, 0⟩ := by kernel_rfl
theorem parD : rpParse [[50, 53, 48, 45, 97]] = ⟨rp0, 0, 12⟩ := by kernel_rfl
theorem parE : rpParse [[50, 53, 48, 45, 97], [50, 53, 49, 32, 98]] = ⟨rp0, 0, 2⟩ := by kernel_rfl
theorem rightA : rpRight rA = 0 := by
  unfold rpRight rA
  rw [hA]; decide +kernel
theorem rightO : rpRight rO = 0 := by
  unfold rpRight rO
  rw [hO]; decide +kernel
theorem linesA : rpPrintL rA = [[50, 53, 48, 45, 50, 46, 48, 46, 48, 32, 97], [50, 53, 48, 32, 50, 46, 48, 46, 48, 32, 98]] := by
  rw [rpPrintL, if_pos rightA]
  unfold rpLines rA
  rw [hA, hA]; rfl
theorem ofO : rpOf 550 [53, 46, 49, 46, 49] [[110, 111]] = ⟨rO, 0⟩ := by
  rw [rpOf, show rpWant [53, 46, 49, 46, 49] 550 = some (5, 1, 1) by decide +kernel]
  show (if rpRight rO = 0 then _ else _) = _
  rw [if_pos rightO]; rfl
theorem ofX : rpOf 550 [50, 46, 48, 46, 48] [[110, 111]] = ⟨rp0, 2⟩ := by
  rw [rpOf, show rpWant [50, 46, 48, 46, 48] 550 = none by decide +kernel]
theorem lit_txts (w : World) (l : List Txt) (cs : Array Value) (hcs : cs.toList = strsV l) (n : Nat) (hn : n = l.length) (b : Nat) (hb : b = w.heap.size) : TxtsAt (w.alloc (.cells cs 9)) (.slice (some ⟨b, 0, none⟩) n n) l := by
  subst hn hb
  refine ⟨_, _, rfl, Nat.le_refl _, fun e => by (cases e), fun i t hi => ⟨_, rfl, by simp, ?_⟩⟩
  rw [show (⟨w.heap.size, 0, none⟩ : Addr).add i = ⟨w.heap.size, i, none⟩ by unfold Addr.add; split <;> simp_all, World.cell?_alloc_at _ _ _ _ rfl, ← Array.getElem?_toList, hcs, strsV, List.getElem?_map, hi]
  rfl
/-- A reply in its box, block b, and its texts. -/
structure RBx (b : Nat) (c : Int) (e : E3) (v : Value) (l : List Txt) (w : World) : Prop where
  box : w.heap[b]? = some (.cells #[.int .i64 c, .int .i64 e.1, .int .i64 e.2.1, .int .i64 e.2.2, v] 25 (0, 0))
  txts : TxtsAt w v l
theorem RBx.next {b : Nat} {c : Int} {e : E3} {v : Value} {l : List Txt} {w w' : World} (h : RBx b c e v l w) (hb : Below w.heap.size w w') : RBx b c e v l w' := ⟨(hb.block _ (ltOf h.box)).trans h.box, h.txts.below hb⟩
theorem RBx.new {c : Int} {e : E3} {v : Value} {l : List Txt} {w : World} (h : TxtsAt w v l) : RBx w.heap.size c e v l (w.alloc (.cells #[.int .i64 c, .int .i64 e.1, .int .i64 e.2.1, .int .i64 e.2.2, v] 25)) := ⟨newOf w _, h.below (below_box w _)⟩
theorem ri_A : RI 250 (2, 0, 0) := ⟨⟨by decide, by decide⟩, ⟨by decide, by decide⟩, ⟨by decide, by decide⟩, ⟨by decide, by decide⟩⟩
theorem ri_O : RI 550 (5, 1, 1) := ⟨⟨by decide, by decide⟩, ⟨by decide, by decide⟩, ⟨by decide, by decide⟩, ⟨by decide, by decide⟩⟩
theorem same_t (v u : Value) (l : List Txt) (w : World) (h1 : TxtsAt w v l) (h2 : TxtsAt w u l) (hn : l.length ≤ 1000000000) : Calls Tryd.prog 12 #[v, u] w fun e w' => e = .returned (.bool true) ∧ Below w.heap.size w w' :=
  (same_x v u l l w h1 h2 hn).mono fun e w' ⟨he, m, hw⟩ => ⟨by rw [he]; simp, hw ▸ below_drewN (Below.refl _ _) m⟩
theorem sameA (v u : Value) (w : World) (h1 : TxtsAt w v rA.text) (h2 : TxtsAt w u rA.text) : Calls Tryd.prog 10 #[RV 250 (2, 0, 0) v, RV 250 (2, 0, 0) u] w fun x w' => x = .returned (.bool true) ∧ Below w.heap.size w w' := (psame_x rA rA v u w h1 h2 (by decide)).mono fun _ _ ⟨he, hb⟩ => ⟨by rw [he]; rfl, hb⟩
theorem sameO (v u : Value) (w : World) (h1 : TxtsAt w v rA.text) (h2 : TxtsAt w u rO.text) : Calls Tryd.prog 10 #[RV 250 (2, 0, 0) v, RV 550 (5, 1, 1) u] w fun x w' => x = .returned (.bool false) ∧ Below w.heap.size w w' := (psame_x rA rO v u w h1 h2 (by decide)).mono fun _ _ ⟨he, hb⟩ => ⟨by rw [he]; rfl, hb⟩
theorem rightOx (v : Value) (w : World) (hR : Ready w) (h : TxtsAt w v rO.text) : Calls Tryd.prog 13 #[RV 550 (5, 1, 1) v] w fun x w' => x = .returned (.int .i64 0) ∧ Below w.heap.size w w' := (right_x rO v ri_O w hR h (by decide) (by decide)).mono fun _ _ ⟨he, hb⟩ => ⟨by rw [he, rightO], hb⟩
theorem parA_x (v : Value) (w : World) (h : TxtsAt w v [[50, 53, 48, 45, 50, 46, 48, 46, 48, 32, 97], [50, 53, 48, 32, 50, 46, 48, 46, 48, 32, 98], [120]]) : Calls Tryd.prog 6 #[v] w fun x w' => ∃ v', x = .returned (.tuple #[.agg #[.int .i64 250, .int .i64 2, .int .i64 0, .int .i64 0, v'], .int .i64 2, .int .i64 0]) ∧ TxtsAt w' v' [[97], [98]] ∧ Below w.heap.size w w' := by
  have h := parse_x _ v w h (by decide) (by decide)
  unfold ParsePost at h
  rw [parA] at h
  exact h
theorem parD_x (v : Value) (w : World) (h : TxtsAt w v [[50, 53, 48, 45, 97]]) : Calls Tryd.prog 6 #[v] w fun x w' => ∃ v', x = .returned (.tuple #[.agg #[.int .i64 0, .int .i64 0, .int .i64 0, .int .i64 0, v'], .int .i64 0, .int .i64 12]) ∧ TxtsAt w' v' [] ∧ Below w.heap.size w w' := by
  have h := parse_x _ v w h (by decide) (by decide)
  unfold ParsePost at h
  rw [parD] at h
  exact h
theorem parE_x (v : Value) (w : World) (h : TxtsAt w v [[50, 53, 48, 45, 97], [50, 53, 49, 32, 98]]) : Calls Tryd.prog 6 #[v] w fun x w' => ∃ v', x = .returned (.tuple #[.agg #[.int .i64 0, .int .i64 0, .int .i64 0, .int .i64 0, v'], .int .i64 0, .int .i64 2]) ∧ TxtsAt w' v' [] ∧ Below w.heap.size w w' := by
  have h := parse_x _ v w h (by decide) (by decide)
  unfold ParsePost at h
  rw [parE] at h
  exact h
theorem ofO_x (v : Value) (w : World) (hR : Ready w) (h : TxtsAt w v [[110, 111]]) : Calls Tryd.prog 17 #[.int .i64 550, .string (mkS [53, 46, 49, 46, 49]), v] w fun x w' => ∃ v', x = .returned (.tuple #[.agg #[.int .i64 550, .int .i64 5, .int .i64 1, .int .i64 1, v'], .int .i64 0]) ∧ TxtsAt w' v' [[110, 111]] ∧ Below w.heap.size w w' := by
  have h := of_x 550 [53, 46, 49, 46, 49] [[110, 111]] v w hR ⟨by decide, by decide⟩ (by decide) h (by decide) (by decide)
  unfold OfPost at h
  rw [ofO] at h
  exact h
theorem ofX_x (v : Value) (w : World) (hR : Ready w) (h : TxtsAt w v [[110, 111]]) : Calls Tryd.prog 17 #[.int .i64 550, .string (mkS [50, 46, 48, 46, 48]), v] w fun x w' => ∃ v', x = .returned (.tuple #[.agg #[.int .i64 0, .int .i64 0, .int .i64 0, .int .i64 0, v'], .int .i64 2]) ∧ TxtsAt w' v' [] ∧ Below w.heap.size w w' := by
  have h := of_x 550 [50, 46, 48, 46, 48] [[110, 111]] v w hR ⟨by decide, by decide⟩ (by decide) h (by decide) (by decide)
  unfold OfPost at h
  rw [ofX] at h
  exact h
theorem prA_x (v : Value) (w : World) (hR : Ready w) (h : TxtsAt w v [[97], [98]]) : Calls Tryd.prog 8 #[.agg #[.int .i64 250, .int .i64 2, .int .i64 0, .int .i64 0, v]] w fun x w' => ∃ v', x = .returned (.tuple #[v', .int .i64 0]) ∧ TxtsAt w' v' [[50, 53, 48, 45, 50, 46, 48, 46, 48, 32, 97], [50, 53, 48, 32, 50, 46, 48, 46, 48, 32, 98]] ∧ Below w.heap.size w w' := by
  have h := print_x rA v ri_A w hR h (by decide) (by decide)
  unfold PrintPost at h
  rw [rightA, linesA] at h
  exact h
set_option maxHeartbeats 8000000 in
theorem awake_x (w : World) (hR : Ready w) : Calls Tryd.prog 4 #[] w fun x w' => x = .returned (.bool true) ∧ Below w.heap.size w w' := by
  have HRd := Lib.hid (fun (w' : World) (hb : Below w.heap.size w w') => ready_below hR hb)
  have HPA := Lib.hid parA_x
  have HPD := Lib.hid parD_x
  have HPE := Lib.hid parE_x
  have HPr := Lib.hid prA_x
  have HO1 := Lib.hid ofO_x
  have HO2 := Lib.hid ofX_x
  have HB0 := Lib.hid (Below.refl w.heap.size w)
  clear hR
  go_enter Tryd.func4, Tryd.ntmps4
  go_wp2_with fail
  refine (HPA.out _ _ (lit_txts w _ #[.string { data := #[50, 53, 48, 45, 50, 46, 48, 46, 48, 32, 97] }, .string { data := #[50, 53, 48, 32, 50, 46, 48, 46, 48, 32, 98] }, .string { data := #[120] }] rfl 3 rfl _ rfl)).mono ?_
  rintro x w1 ⟨v1, rfl, hT1, hb1⟩
  obtain ⟨A1, c1, rfl, -⟩ := id hT1
  have hT1 : TxtsAt w1 (.slice A1 2 c1) [[97], [98]] := hT1
  have HB1 := Lib.hid (below_next (below_box w _) hb1)
  have HK1 := Lib.hid (RBx.new (c := 250) (e := (2, 0, 0)) hT1)
  have HB2 := Lib.hid (below_next HB1.out (below_box w1 (.cells #[.int .i64 250, .int .i64 2, .int .i64 0, .int .i64 0, .slice A1 2 c1] 25)))
  clear hT1 hb1
  have HB := HB2
  clear HB2 HB1 HB0
  go_wp2_with fail
  refine (HPr.out _ _ (HRd.out _ HB.out) HK1.out.txts).mono ?_
  rintro x w3 ⟨v3, rfl, hT3, hb3⟩
  obtain ⟨A3, c3, rfl, -⟩ := id hT3
  have hT3 : TxtsAt w3 (.slice A3 2 c3) [[50, 53, 48, 45, 50, 46, 48, 46, 48, 32, 97], [50, 53, 48, 32, 50, 46, 48, 46, 48, 32, 98]] := hT3
  have HT3 := Lib.hid hT3
  clear hT3
  have HBn := Lib.hid (below_next HB.out hb3)
  clear HB
  have HB := HBn
  clear HBn
  have HKn := Lib.hid (HK1.out.next hb3)
  clear HK1
  have HK1 := HKn
  clear HKn
  go_wp2_with fail
  refine (HPD.out _ _ (lit_txts _ _ #[.string { data := #[50, 53, 48, 45, 97] }] rfl 1 rfl _ (by simp))).mono ?_
  rintro x w4 ⟨v4, rfl, hT4, hb4⟩
  obtain ⟨A4, c4, rfl, -⟩ := id hT4
  have hq4 := below_next (below_next (below_box _ _) hb4) (below_box w4 (.cells #[.int .i64 0, .int .i64 0, .int .i64 0, .int .i64 0, .slice A4 0 c4] 25))
  have HBn := Lib.hid (below_next HB.out hq4)
  clear HB
  have HB := HBn
  clear HBn
  have HKn := Lib.hid (HK1.out.next hq4)
  clear HK1
  have HK1 := HKn
  clear HKn
  have HTn := Lib.hid (HT3.out.below hq4)
  clear HT3
  have HT3 := HTn
  clear HTn
  clear hT4 hb4 hq4
  go_wp2_with fail
  refine (HPE.out _ _ (lit_txts _ _ #[.string { data := #[50, 53, 48, 45, 97] }, .string { data := #[50, 53, 49, 32, 98] }] rfl 2 rfl _ (by simp))).mono ?_
  rintro x w6 ⟨v6, rfl, hT6, hb6⟩
  obtain ⟨A6, c6, rfl, -⟩ := id hT6
  have hq6 := below_next (below_next (below_box _ _) hb6) (below_box w6 (.cells #[.int .i64 0, .int .i64 0, .int .i64 0, .int .i64 0, .slice A6 0 c6] 25))
  have HBn := Lib.hid (below_next HB.out hq6)
  clear HB
  have HB := HBn
  clear HBn
  have HKn := Lib.hid (HK1.out.next hq6)
  clear HK1
  have HK1 := HKn
  clear HKn
  have HTn := Lib.hid (HT3.out.below hq6)
  clear HT3
  have HT3 := HTn
  clear HTn
  clear hT6 hb6 hq6
  go_wp2_with fail
  refine (HO1.out _ _ (HRd.out _ (below_next HB.out (below_box _ _))) (lit_txts _ _ #[.string { data := #[110, 111] }] rfl 1 rfl _ (by simp))).mono ?_
  rintro x w5 ⟨v5, rfl, hT5, hb5⟩
  obtain ⟨A5, c5, rfl, -⟩ := id hT5
  have hT5 : TxtsAt w5 (.slice A5 1 c5) [[110, 111]] := hT5
  have HK5 := Lib.hid (RBx.new (c := 550) (e := (5, 1, 1)) hT5)
  have hq5 := below_next (below_next (below_box _ _) hb5) (below_box w5 (.cells #[.int .i64 550, .int .i64 5, .int .i64 1, .int .i64 1, .slice A5 1 c5] 25))
  have HBn := Lib.hid (below_next HB.out hq5)
  clear HB
  have HB := HBn
  clear HBn
  have HKn := Lib.hid (HK1.out.next hq5)
  clear HK1
  have HK1 := HKn
  clear HKn
  have HTn := Lib.hid (HT3.out.below hq5)
  clear HT3
  have HT3 := HTn
  clear HTn
  clear hT5 hb5 hq5
  go_wp2_with fail
  refine (HO2.out _ _ (HRd.out _ (below_next HB.out (below_box _ _))) (lit_txts _ _ #[.string { data := #[110, 111] }] rfl 1 rfl _ (by simp))).mono ?_
  rintro x w7 ⟨v7, rfl, hT7, hb7⟩
  obtain ⟨A7, c7, rfl, -⟩ := id hT7
  have hq7 := below_next (below_next (below_box _ _) hb7) (below_box w7 (.cells #[.int .i64 0, .int .i64 0, .int .i64 0, .int .i64 0, .slice A7 0 c7] 25))
  have HBn := Lib.hid (below_next HB.out hq7)
  clear HB
  have HB := HBn
  clear HBn
  have HKn := Lib.hid (HK1.out.next hq7)
  clear HK1
  have HK1 := HKn
  clear HKn
  have HTn := Lib.hid (HT3.out.below hq7)
  clear HT3
  have HT3 := HTn
  clear HTn
  have HKn := Lib.hid (HK5.out.next hq7)
  clear HK5
  have HK5 := HKn
  clear HKn
  clear hT7 hb7 hq7
  have he1 : ∀ w, (Op.equalIn 10000 23 (.agg #[.int .i64 2, .int .i64 0, .int .i64 0]) (.agg #[.int .i64 2, .int .i64 0, .int .i64 0])).run Tryd.prog w = .ok true w := fun w => eqE3 (2, 0, 0) (2, 0, 0) w
  have he2 : ∀ w, (Op.equalIn 10000 23 (.agg #[.int .i64 5, .int .i64 1, .int .i64 1]) (.agg #[.int .i64 5, .int .i64 1, .int .i64 1])).run Tryd.prog w = .ok true w := fun w => eqE3 (5, 1, 1) (5, 1, 1) w
  have k0 := cellOf HK1.out.box 0
  have k1 := cellOf HK1.out.box 1
  have k2 := cellOf HK1.out.box 2
  have k3 := cellOf HK1.out.box 3
  have k4 := cellOf HK1.out.box 4
  have j0 := cellOf HK5.out.box 0
  have j1 := cellOf HK5.out.box 1
  have j2 := cellOf HK5.out.box 2
  have j3 := cellOf HK5.out.box 3
  have j4 := cellOf HK5.out.box 4
  go_wp2_with fail
  refine (same_t _ _ [[97], [98]] _ (HK1.out.next (below_box _ _)).txts (lit_txts _ _ #[.string { data := #[97] }, .string { data := #[98] }] rfl 2 rfl _ (by simp)) (by decide)).mono ?_
  rintro x w8 ⟨rfl, hb8⟩
  have hq8 := below_next (below_box _ _) hb8
  have HBn := Lib.hid (below_next HB.out hq8)
  clear HB
  have HB := HBn
  clear HBn
  have HKn := Lib.hid (HK1.out.next hq8)
  clear HK1
  have HK1 := HKn
  clear HKn
  have HTn := Lib.hid (HT3.out.below hq8)
  clear HT3
  have HT3 := HTn
  clear HTn
  have HKn := Lib.hid (HK5.out.next hq8)
  clear HK5
  have HK5 := HKn
  clear HKn
  clear k0 k1 k2 k3 k4 j0 j1 j2 j3 j4
  clear hb8 hq8
  have k0 := cellOf HK1.out.box 0
  have k1 := cellOf HK1.out.box 1
  have k2 := cellOf HK1.out.box 2
  have k3 := cellOf HK1.out.box 3
  have k4 := cellOf HK1.out.box 4
  have j0 := cellOf HK5.out.box 0
  have j1 := cellOf HK5.out.box 1
  have j2 := cellOf HK5.out.box 2
  have j3 := cellOf HK5.out.box 3
  have j4 := cellOf HK5.out.box 4
  go_wp2_with fail
  refine (same_t _ _ [[50, 53, 48, 45, 50, 46, 48, 46, 48, 32, 97], [50, 53, 48, 32, 50, 46, 48, 46, 48, 32, 98]] _ (HT3.out.below (below_box _ _)) (lit_txts _ _ #[.string { data := #[50, 53, 48, 45, 50, 46, 48, 46, 48, 32, 97] }, .string { data := #[50, 53, 48, 32, 50, 46, 48, 46, 48, 32, 98] }] rfl 2 rfl _ (by simp)) (by decide)).mono ?_
  rintro x w9 ⟨rfl, hb9⟩
  have hq9 := below_next (below_box _ _) hb9
  have HBn := Lib.hid (below_next HB.out hq9)
  clear HB
  have HB := HBn
  clear HBn
  have HKn := Lib.hid (HK1.out.next hq9)
  clear HK1
  have HK1 := HKn
  clear HKn
  have HKn := Lib.hid (HK5.out.next hq9)
  clear HK5
  have HK5 := HKn
  clear HKn
  clear k0 k1 k2 k3 k4 j0 j1 j2 j3 j4
  clear hb9 hq9
  have k0 := cellOf HK1.out.box 0
  have k1 := cellOf HK1.out.box 1
  have k2 := cellOf HK1.out.box 2
  have k3 := cellOf HK1.out.box 3
  have k4 := cellOf HK1.out.box 4
  have j0 := cellOf HK5.out.box 0
  have j1 := cellOf HK5.out.box 1
  have j2 := cellOf HK5.out.box 2
  have j3 := cellOf HK5.out.box 3
  have j4 := cellOf HK5.out.box 4
  go_wp2_with fail
  refine (class_x 354 _).mono ?_
  rintro x w' ⟨rfl, rfl⟩
  rw [show rpCls 354 = 3 by decide]
  go_wp2_with fail
  refine (class_x 100 _).mono ?_
  rintro x w' ⟨rfl, rfl⟩
  rw [show rpCls 100 = 0 by decide]
  go_wp2_with fail
  refine (sameA _ _ _ HK1.out.txts HK1.out.txts).mono ?_
  rintro x w10 ⟨rfl, hb10⟩
  have HBn := Lib.hid (below_next HB.out hb10)
  clear HB
  have HB := HBn
  clear HBn
  have HKn := Lib.hid (HK1.out.next hb10)
  clear HK1
  have HK1 := HKn
  clear HKn
  have HKn := Lib.hid (HK5.out.next hb10)
  clear HK5
  have HK5 := HKn
  clear HKn
  clear k0 k1 k2 k3 k4 j0 j1 j2 j3 j4
  clear hb10
  have k0 := cellOf HK1.out.box 0
  have k1 := cellOf HK1.out.box 1
  have k2 := cellOf HK1.out.box 2
  have k3 := cellOf HK1.out.box 3
  have k4 := cellOf HK1.out.box 4
  have j0 := cellOf HK5.out.box 0
  have j1 := cellOf HK5.out.box 1
  have j2 := cellOf HK5.out.box 2
  have j3 := cellOf HK5.out.box 3
  have j4 := cellOf HK5.out.box 4
  go_wp2_with fail
  refine (sameO _ _ _ HK1.out.txts HK5.out.txts).mono ?_
  rintro x w11 ⟨rfl, hb11⟩
  have HBn := Lib.hid (below_next HB.out hb11)
  clear HB
  have HB := HBn
  clear HBn
  have HKn := Lib.hid (HK1.out.next hb11)
  clear HK1
  have HK1 := HKn
  clear HKn
  have HKn := Lib.hid (HK5.out.next hb11)
  clear HK5
  have HK5 := HKn
  clear HKn
  clear k0 k1 k2 k3 k4 j0 j1 j2 j3 j4
  clear hb11
  have j0 := cellOf HK5.out.box 0
  have j1 := cellOf HK5.out.box 1
  have j2 := cellOf HK5.out.box 2
  have j3 := cellOf HK5.out.box 3
  have j4 := cellOf HK5.out.box 4
  go_wp2_with fail
  refine (rightOx _ _ (HRd.out _ HB.out) HK5.out.txts).mono ?_
  rintro x w12 ⟨rfl, hb12⟩
  have HBn := Lib.hid (below_next HB.out hb12)
  clear HB
  have HB := HBn
  clear HBn
  clear j0 j1 j2 j3 j4 hb12
  go_wp2_with fail
  go_ret
  exact ⟨rfl, HB.out⟩
end Go.Proofs.YtdcakmamdabiaaaDoor
