/-
  The walk of param's unsaid.
-/
import Derived.Test.YtbecdncnidcmdaaGreatDoorPaRight
import Derived.StillTailTactics
namespace Go.Proofs.YtbecdncnidcmdaaGreatDoor
set_option maxRecDepth 100000
open Go.RowKit
theorem below_row {B g : Nat} {w0 w : World} (hb : Below B w0 w) (hBg : B ≤ g) (cs : Array Value) : Below B w0 (w.setRow g cs) :=
  ⟨hb.os, hb.tape, hb.output, by rw [size_setRow]; exact hb.size, fun k hk => (setRow_other w g k cs (by omega)).trans (hb.block k hk)⟩
theorem left_s (b : Bool) (n : Int) (w : World) : Calls Tryz.prog 334 #[.bool b, .int .i64 n] w fun e w' => e = .returned (.int .i64 (if b then 0 else n)) ∧ w' = w := (left_x b n w).mono fun _ _ h => ⟨h.1, h.2.symm⟩
set_option maxHeartbeats 8000000 in
theorem unsaid_x (m : ML) (w : World) : Calls Tryz.prog 284 #[.agg #[.bool m.hs, .bool m.hf, .bool m.hu, .bool m.hb, .bool m.hp, .int .i64 m.sz, .int .i64 m.fo, .int .i64 m.un, .int .i64 m.by_, .int .i64 m.pr, .string (mkS m.body), .string (mkS m.ret), .string (mkS m.env), .string (mkS m.mode)]] w fun e w' => e = .returned (.agg #[.bool false, .bool false, .bool false, .bool false, .bool false, .int .i64 (if m.hs then 0 else m.sz), .int .i64 (if m.hf then 0 else m.fo), .int .i64 (if m.hu then 0 else m.un), .int .i64 (if m.hb then 0 else m.by_), .int .i64 (if m.hp then 0 else m.pr), .string { data := #[] }, .string { data := #[] }, .string { data := #[] }, .string { data := #[] }]) ∧ Below w.heap.size w w' := by
  have k0 := old_alloc (o := .cells #[.bool false, .bool false, .bool false, .bool false, .bool false, .int .i64 0, .int .i64 0, .int .i64 0, .int .i64 0, .int .i64 0, .string { data := #[] }, .string { data := #[] }, .string { data := #[] }, .string { data := #[] }] 49) (newOf w (.cells #[.bool m.hs, .bool m.hf, .bool m.hu, .bool m.hb, .bool m.hp, .int .i64 m.sz, .int .i64 m.fo, .int .i64 m.un, .int .i64 m.by_, .int .i64 m.pr, .string (mkS m.body), .string (mkS m.ret), .string (mkS m.env), .string (mkS m.mode)] 49))
  have k1 := new_alloc (w := w.alloc (.cells #[.bool m.hs, .bool m.hf, .bool m.hu, .bool m.hb, .bool m.hp, .int .i64 m.sz, .int .i64 m.fo, .int .i64 m.un, .int .i64 m.by_, .int .i64 m.pr, .string (mkS m.body), .string (mkS m.ret), .string (mkS m.env), .string (mkS m.mode)] 49)) (n := w.heap.size + 1) (.cells #[.bool false, .bool false, .bool false, .bool false, .bool false, .int .i64 0, .int .i64 0, .int .i64 0, .int .i64 0, .int .i64 0, .string { data := #[] }, .string { data := #[] }, .string { data := #[] }, .string { data := #[] }] 49) (by simp)
  have kB : Below w.heap.size w ((w.alloc (.cells #[.bool m.hs, .bool m.hf, .bool m.hu, .bool m.hb, .bool m.hp, .int .i64 m.sz, .int .i64 m.fo, .int .i64 m.un, .int .i64 m.by_, .int .i64 m.pr, .string (mkS m.body), .string (mkS m.ret), .string (mkS m.env), .string (mkS m.mode)] 49)).alloc (.cells #[.bool false, .bool false, .bool false, .bool false, .bool false, .int .i64 0, .int .i64 0, .int .i64 0, .int .i64 0, .int .i64 0, .string { data := #[] }, .string { data := #[] }, .string { data := #[] }, .string { data := #[] }] 49)) := ((Below.refl _ w).alloc (Nat.le_refl _) _).alloc (by simp) _
  have H := Lib.hid (And.intro (MBox.mk (W := w) k0 kB) k1)
  have L1 := Lib.hid (fun w => left_s m.hs m.sz w)
  have L2 := Lib.hid (fun w => left_s m.hf m.fo w)
  have L3 := Lib.hid (fun w => left_s m.hu m.un w)
  have L4 := Lib.hid (fun w => left_s m.hb m.by_ w)
  have L5 := Lib.hid (fun w => left_s m.hp m.pr w)
  generalize (if m.hs then (0 : Int) else m.sz) = u1 at L1 ⊢
  generalize (if m.hf then (0 : Int) else m.fo) = u2 at L2 ⊢
  generalize (if m.hu then (0 : Int) else m.un) = u3 at L3 ⊢
  generalize (if m.hb then (0 : Int) else m.by_) = u4 at L4 ⊢
  generalize (if m.hp then (0 : Int) else m.pr) = u5 at L5 ⊢
  go_enter Tryz.func284, Tryz.ntmps284
  go_wp2_with fail
  clear k1
  obtain ⟨hM, k1⟩ := H.out
  clear H k0 kB
  generalize (w.alloc (.cells #[.bool m.hs, .bool m.hf, .bool m.hu, .bool m.hb, .bool m.hp, .int .i64 m.sz, .int .i64 m.fo, .int .i64 m.un, .int .i64 m.by_, .int .i64 m.pr, .string (mkS m.body), .string (mkS m.ret), .string (mkS m.env), .string (mkS m.mode)] 49)).alloc (.cells #[.bool false, .bool false, .bool false, .bool false, .bool false, .int .i64 0, .int .i64 0, .int .i64 0, .int .i64 0, .int .i64 0, .string { data := #[] }, .string { data := #[] }, .string { data := #[] }, .string { data := #[] }] 49) = W0 at hM k1 ⊢
  refine wp_region_still_tail 35 (by kernel_rfl) (by kernel_rfl) ?_
  simp only [List.take_succ_cons, List.take_zero, List.drop_succ_cons, List.drop_zero]
  have hM1 : MBox w w.heap.size m { W0 with drawn := W0.drawn + 1 } := hM.drew
  have k1' : ({ W0 with drawn := W0.drawn + 1 } : World).heap[w.heap.size + 1]? = _ := k1
  clear hM k1
  generalize ({ W0 with drawn := W0.drawn + 1 } : World) = w1 at hM1 k1' ⊢
  have HK := Lib.hid k1'
  have c0 := hM1.c0
  have c5 := hM1.c5
  have c1 := hM1.c1
  have c6 := hM1.c6
  have c2 := hM1.c2
  have c7 := hM1.c7
  have c3 := hM1.c3
  have c8 := hM1.c8
  have c4 := hM1.c4
  have c9 := hM1.c9
  have hne : w.heap.size + 1 ≠ w.heap.size := by omega
  have HM := Lib.hid hM1
  clear hM1 k1'
  repeat still_step
  still_call (L1.out _)
  repeat still_step
  still_call (L2.out _)
  repeat still_step
  still_call (L3.out _)
  repeat still_step
  still_call (L4.out _)
  repeat still_step
  still_call (L5.out _)
  repeat still_step
  refine wpStill_nil ?_
  clear c0 c1 c2 c3 c4 c5 c6 c7 c8 c9
  have HT := Lib.hid (And.intro (below_row HM.out.below (show w.heap.size ≤ w.heap.size + 1 from Nat.le_succ _) #[.bool false, .bool false, .bool false, .bool false, .bool false, .int .i64 u1, .int .i64 u2, .int .i64 u3, .int .i64 u4, .int .i64 u5, .string { data := #[] }, .string { data := #[] }, .string { data := #[] }, .string { data := #[] }]) (setRow_heap w1 (w.heap.size + 1) _ #[.bool false, .bool false, .bool false, .bool false, .bool false, .int .i64 u1, .int .i64 u2, .int .i64 u3, .int .i64 u4, .int .i64 u5, .string { data := #[] }, .string { data := #[] }, .string { data := #[] }, .string { data := #[] }] _ _ HK.out))
  have k1 := HK.out
  refine wpList_plain rfl (fun K hK => ?_)
  go_simp
  refine hK _ _ ?_
  clear hK K
  refine wpList_store_row rfl 49 (.tmp 2) (.tmp 39) rfl (w.heap.size + 1) #[.bool false, .bool false, .bool false, .bool false, .bool false, .int .i64 u1, .int .i64 u2, .int .i64 u3, .int .i64 u4, .int .i64 u5, .string { data := #[] }, .string { data := #[] }, .string { data := #[] }, .string { data := #[] }] (by rfl) (by rfl) 49 _ k1 (by kernel_rfl) (by rfl) (by simp [Value.oneCell']) ?_
  clear k1 HK
  obtain ⟨hB, hK⟩ := HT.out
  clear HT
  generalize (w1.setRow (w.heap.size + 1) #[.bool false, .bool false, .bool false, .bool false, .bool false, .int .i64 u1, .int .i64 u2, .int .i64 u3, .int .i64 u4, .int .i64 u5, .string { data := #[] }, .string { data := #[] }, .string { data := #[] }, .string { data := #[] }]) = w2 at hB hK ⊢
  have HB := Lib.hid hB
  have a0 := cellOf hK 0
  have a1 := cellOf hK 1
  have a2 := cellOf hK 2
  have a3 := cellOf hK 3
  have a4 := cellOf hK 4
  have a5 := cellOf hK 5
  have a6 := cellOf hK 6
  have a7 := cellOf hK 7
  have a8 := cellOf hK 8
  have a9 := cellOf hK 9
  have a10 := cellOf hK 10
  have a11 := cellOf hK 11
  have a12 := cellOf hK 12
  have a13 := cellOf hK 13
  clear hK hB hne
  go_wp2
  refine bodyPost_ret (v := .agg #[.bool false, .bool false, .bool false, .bool false, .bool false, .int .i64 u1, .int .i64 u2, .int .i64 u3, .int .i64 u4, .int .i64 u5, .string { data := #[] }, .string { data := #[] }, .string { data := #[] }, .string { data := #[] }]) (by simp [results, Tryz.results284, go_sem, a0, a1, a2, a3, a4, a5, a6, a7, a8, a9, a10, a11, a12, a13]) rfl ⟨rfl, HB.out⟩
end Go.Proofs.YtbecdncnidcmdaaGreatDoor
