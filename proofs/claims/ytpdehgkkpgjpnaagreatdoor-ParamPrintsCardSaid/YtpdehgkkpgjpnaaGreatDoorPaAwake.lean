/-
  The walk of awake.
-/
import Derived.Test.YtpdehgkkpgjpnaaGreatDoorPaAwE
import Derived.Test.YtpdehgkkpgjpnaaGreatDoorPaEq
import Derived.Test.YtpdehgkkpgjpnaaGreatDoorPaPM
import Derived.Test.YtpdehgkkpgjpnaaGreatDoorPaPR
import Derived.Test.YtpdehgkkpgjpnaaGreatDoorPaPrM
import Derived.Test.YtpdehgkkpgjpnaaGreatDoorPaPrR
namespace Go.Proofs.YtpdehgkkpgjpnaaGreatDoor
set_option maxRecDepth 100000
open Go.RowKit Go.Shelf
theorem below_new1 (w : World) (o : Obj) : Below w.heap.size w (w.alloc o) := (Below.refl _ w).alloc (Nat.le_refl _) _
theorem ak1 (w : World) (hR : Ready w) (hN : NotR w) : Calls Tryz.prog 16 #[.string { data := #[115, 105, 122, 101, 61, 49, 48, 32, 98, 121, 61, 54, 48, 59, 114, 116] }] w fun e w' => e = .returned (.tuple #[.agg #[.bool true, .bool false, .bool false, .bool true, .bool false, .int .i64 10, .int .i64 0, .int .i64 0, .int .i64 60, .int .i64 0, .string { data := #[] }, .string { data := #[] }, .string { data := #[] }, .string { data := #[82, 84] }], .int .i64 0]) ∧ Below w.heap.size w w' :=
  have _ := hN
  (parseM_x awS w (by decide) hR).mono fun e w' ⟨he, hb⟩ => ⟨by rw [he, aw1.1, aw1.2]; rfl, hb⟩
theorem ak2 (w : World) (hR : Ready w) (hN : NotR w) : Calls Tryz.prog 9 #[.agg #[.bool true, .bool false, .bool false, .bool true, .bool false, .int .i64 10, .int .i64 0, .int .i64 0, .int .i64 60, .int .i64 0, .string { data := #[] }, .string { data := #[] }, .string { data := #[] }, .string { data := #[82, 84] }]] w fun e w' => e = .returned (.tuple #[.string { data := #[83, 73, 90, 69, 61, 49, 48, 32, 66, 89, 61, 54, 48, 59, 82, 84] }, .int .i64 0]) ∧ Below w.heap.size w w' :=
  have _ := hN
  (printM_x awM w hR).mono fun e w' ⟨he, hb⟩ => ⟨by rw [he, aw6, aw5]; rfl, hb⟩
theorem ak3 (w : World) (hR : Ready w) (hN : NotR w) : Calls Tryz.prog 16 #[.string { data := #[72, 79, 76, 68, 70, 79, 82, 61, 49, 32, 72, 79, 76, 68, 85, 78, 84, 73, 76, 61, 50, 48, 48, 48, 45, 48, 49, 45, 48, 49, 84, 48, 48, 58, 48, 48, 58, 48, 48, 90] }] w fun e w' => e = .returned (.tuple #[.agg #[.bool false, .bool false, .bool false, .bool false, .bool false, .int .i64 0, .int .i64 0, .int .i64 0, .int .i64 0, .int .i64 0, .string { data := #[] }, .string { data := #[] }, .string { data := #[] }, .string { data := #[] }], .int .i64 9]) ∧ Below w.heap.size w w' :=
  have _ := hN
  (parseM_x awG w (by decide) hR).mono fun e w' ⟨he, hb⟩ => ⟨by rw [he, aw2.1, aw2.2]; rfl, hb⟩
theorem ak4 (w : World) (hR : Ready w) (hN : NotR w) : Calls Tryz.prog 16 #[.string { data := #[88, 61, 49] }] w fun e w' => e = .returned (.tuple #[.agg #[.bool false, .bool false, .bool false, .bool false, .bool false, .int .i64 0, .int .i64 0, .int .i64 0, .int .i64 0, .int .i64 0, .string { data := #[] }, .string { data := #[] }, .string { data := #[] }, .string { data := #[] }], .int .i64 10]) ∧ Below w.heap.size w w' :=
  have _ := hN
  (parseM_x awX w (by decide) hR).mono fun e w' ⟨he, hb⟩ => ⟨by rw [he, aw3.1, aw3.2]; rfl, hb⟩
theorem ak5 (w : World) (hR : Ready w) (hN : NotR w) : Calls Tryz.prog 16 #[.string { data := #[83, 73, 90, 69, 61, 49, 32, 83, 73, 90, 69, 61, 49] }] w fun e w' => e = .returned (.tuple #[.agg #[.bool false, .bool false, .bool false, .bool false, .bool false, .int .i64 0, .int .i64 0, .int .i64 0, .int .i64 0, .int .i64 0, .string { data := #[] }, .string { data := #[] }, .string { data := #[] }, .string { data := #[] }], .int .i64 11]) ∧ Below w.heap.size w w' :=
  have _ := hN
  (parseM_x awT w (by decide) hR).mono fun e w' ⟨he, hb⟩ => ⟨by rw [he, aw4.1, aw4.2]; rfl, hb⟩
theorem ak6 (w : World) (hR : Ready w) (hN : NotR w) : Calls Tryz.prog 17 #[.string { data := #[78, 79, 84, 73, 70, 89, 61, 100, 101, 108, 97, 121, 44, 115, 117, 99, 99, 101, 115, 115, 32, 79, 82, 67, 80, 84, 61, 114, 102, 99, 56, 50, 50, 59, 97, 43, 50, 48, 98] }] w fun e w' => e = .returned (.tuple #[.agg #[.string { data := #[83, 68] }, .string { data := #[82, 70, 67, 56, 50, 50] }, .string { data := #[97, 32, 98] }], .int .i64 0]) ∧ Below w.heap.size w w' :=
  have _ := hR
  (parseR_x awR w (by decide) hN).mono fun e w' ⟨he, hb⟩ => ⟨by rw [he, aw7.1, aw7.2]; rfl, hb⟩
theorem ak7 (w : World) (hR : Ready w) (hN : NotR w) : Calls Tryz.prog 12 #[.agg #[.string { data := #[83, 68] }, .string { data := #[82, 70, 67, 56, 50, 50] }, .string { data := #[97, 32, 98] }]] w fun e w' => e = .returned (.tuple #[.string { data := #[78, 79, 84, 73, 70, 89, 61, 83, 85, 67, 67, 69, 83, 83, 44, 68, 69, 76, 65, 89, 32, 79, 82, 67, 80, 84, 61, 82, 70, 67, 56, 50, 50, 59, 97, 43, 50, 48, 98] }, .int .i64 0]) ∧ Below w.heap.size w w' :=
  have _ := hR
  (printR_x awQ w hN (by decide)).mono fun e w' ⟨he, hb⟩ => ⟨by rw [he, aw8.1, aw8.2]; rfl, hb⟩
theorem ak8 (w : World) (hR : Ready w) (hN : NotR w) : Calls Tryz.prog 17 #[.string { data := #[78, 79, 84, 73, 70, 89, 61, 78, 69, 86, 69, 82, 44, 68, 69, 76, 65, 89] }] w fun e w' => e = .returned (.tuple #[.agg #[.string { data := #[] }, .string { data := #[] }, .string { data := #[] }], .int .i64 2]) ∧ Below w.heap.size w w' :=
  have _ := hR
  (parseR_x awN w (by decide) hN).mono fun e w' ⟨he, hb⟩ => ⟨by rw [he, aw9.1, aw9.2]; rfl, hb⟩
theorem ak9 (w : World) (hR : Ready w) (hN : NotR w) : Calls Tryz.prog 14 #[.agg #[.bool true, .bool false, .bool false, .bool true, .bool false, .int .i64 10, .int .i64 0, .int .i64 0, .int .i64 60, .int .i64 0, .string { data := #[] }, .string { data := #[] }, .string { data := #[] }, .string { data := #[82, 84] }]] w fun e w' => e = .returned (.int .i64 0) ∧ Below w.heap.size w w' :=
  have _ := hN
  (rightM_x awM w hR).mono fun e w' ⟨he, hb⟩ => ⟨by rw [he, aw5], hb⟩
theorem ak10 (w : World) (hR : Ready w) (hN : NotR w) : Calls Tryz.prog 15 #[.agg #[.string { data := #[83, 68] }, .string { data := #[82, 70, 67, 56, 50, 50] }, .string { data := #[97, 32, 98] }]] w fun e w' => e = .returned (.int .i64 0) ∧ Below w.heap.size w w' :=
  have _ := hR
  (rightR_x awQ w hN (by decide)).mono fun e w' ⟨he, hb⟩ => ⟨by rw [he, aw8.1], hb⟩
set_option maxHeartbeats 16000000 in
theorem awake_x (w : World) (hR : Ready w) (hN : NotR w) : Calls Tryz.prog 7 #[] w fun e w' => e = .returned (.bool true) ∧ Below w.heap.size w w' := by
  have HR := Lib.hid (fun w' (h : Below w.heap.size w w') => hR.below h)
  have HN := Lib.hid (fun w' (h : Below w.heap.size w w') => hN.below h)
  have he1 : ∀ w, (Op.equalIn 10000 23 (.agg #[.bool true, .bool false, .bool false, .bool true, .bool false]) (.agg #[.bool true, .bool false, .bool false, .bool true, .bool false])).run Tryz.prog w = .ok true w := fun w => eqHas true false false true false true false false true false w
  have he2 : ∀ w, (Op.equalIn 10000 27 (.agg #[.string { data := #[83, 68] }, .string { data := #[82, 70, 67, 56, 50, 50] }, .string { data := #[97, 32, 98] }]) (.agg #[.string { data := #[83, 68] }, .string { data := #[82, 70, 67, 56, 50, 50] }, .string { data := #[97, 32, 98] }])).run Tryz.prog w = .ok true w := fun w => (eqRcpt awQ awQ w).trans (by rw [eqRL_iff.2 rfl])
  clear hR hN
  go_enter Tryz.func7, Tryz.ntmps7
  go_wp2_with fail
  refine (ak1 _ (HR.out _ (Below.refl _ _)) (HN.out _ (Below.refl _ _))).mono ?_
  rintro e w1 ⟨rfl, hb⟩
  have A1 := Lib.hid (show MBox w w1.heap.size awM (w1.alloc (.cells #[.bool true, .bool false, .bool false, .bool true, .bool false, .int .i64 10, .int .i64 0, .int .i64 0, .int .i64 60, .int .i64 0, .string { data := #[] }, .string { data := #[] }, .string { data := #[] }, .string { data := #[82, 84] }] 25)) from ⟨newOf w1 _, hb.alloc hb.size _⟩)
  clear hb
  have c0 : (_ : Option Value) = some (.bool true) := A1.out.c0
  have c1 : (_ : Option Value) = some (.bool false) := A1.out.c1
  have c2 : (_ : Option Value) = some (.bool false) := A1.out.c2
  have c3 : (_ : Option Value) = some (.bool true) := A1.out.c3
  have c4 : (_ : Option Value) = some (.bool false) := A1.out.c4
  have c5 : (_ : Option Value) = some (.int .i64 10) := A1.out.c5
  have c6 : (_ : Option Value) = some (.int .i64 0) := A1.out.c6
  have c7 : (_ : Option Value) = some (.int .i64 0) := A1.out.c7
  have c8 : (_ : Option Value) = some (.int .i64 60) := A1.out.c8
  have c9 : (_ : Option Value) = some (.int .i64 0) := A1.out.c9
  have c10 : (_ : Option Value) = some (.string { data := #[] }) := A1.out.c10
  have c11 : (_ : Option Value) = some (.string { data := #[] }) := A1.out.c11
  have c12 : (_ : Option Value) = some (.string { data := #[] }) := A1.out.c12
  have c13 : (_ : Option Value) = some (.string { data := #[82, 84] }) := A1.out.c13
  go_wp2_with fail
  clear c0 c1 c2 c3 c4 c5 c6 c7 c8 c9 c10 c11 c12 c13
  generalize w1.alloc (.cells #[.bool true, .bool false, .bool false, .bool true, .bool false, .int .i64 10, .int .i64 0, .int .i64 0, .int .i64 60, .int .i64 0, .string { data := #[] }, .string { data := #[] }, .string { data := #[] }, .string { data := #[82, 84] }] 25) = w2 at A1 ⊢
  generalize w1.heap.size = a at A1 ⊢
  refine (ak2 _ (HR.out _ A1.out.below) (HN.out _ A1.out.below)).mono ?_
  rintro e w3 ⟨rfl, hb⟩
  have A2 := Lib.hid (A1.out.next hb)
  clear hb A1
  go_wp2_with fail
  refine (ak3 _ (HR.out _ A2.out.below) (HN.out _ A2.out.below)).mono ?_
  rintro e w4 ⟨rfl, hb⟩
  have A3 := Lib.hid ((A2.out.next hb).next (below_new1 w4 (.cells #[.bool false, .bool false, .bool false, .bool false, .bool false, .int .i64 0, .int .i64 0, .int .i64 0, .int .i64 0, .int .i64 0, .string { data := #[] }, .string { data := #[] }, .string { data := #[] }, .string { data := #[] }] 25)))
  clear hb A2
  go_wp2_with fail
  refine (ak4 _ (HR.out _ A3.out.below) (HN.out _ A3.out.below)).mono ?_
  rintro e w5 ⟨rfl, hb⟩
  have A4 := Lib.hid ((A3.out.next hb).next (below_new1 w5 (.cells #[.bool false, .bool false, .bool false, .bool false, .bool false, .int .i64 0, .int .i64 0, .int .i64 0, .int .i64 0, .int .i64 0, .string { data := #[] }, .string { data := #[] }, .string { data := #[] }, .string { data := #[] }] 25)))
  clear hb A3
  go_wp2_with fail
  refine (ak5 _ (HR.out _ A4.out.below) (HN.out _ A4.out.below)).mono ?_
  rintro e w6 ⟨rfl, hb⟩
  have A5 := Lib.hid ((A4.out.next hb).next (below_new1 w6 (.cells #[.bool false, .bool false, .bool false, .bool false, .bool false, .int .i64 0, .int .i64 0, .int .i64 0, .int .i64 0, .int .i64 0, .string { data := #[] }, .string { data := #[] }, .string { data := #[] }, .string { data := #[] }] 25)))
  clear hb A4
  go_wp2_with fail
  refine (ak6 _ (HR.out _ A5.out.below) (HN.out _ A5.out.below)).mono ?_
  rintro e w7 ⟨rfl, hb⟩
  have A6 := Lib.hid ((A5.out.next hb).next (below_new1 w7 (.cells #[.string { data := #[83, 68] }, .string { data := #[82, 70, 67, 56, 50, 50] }, .string { data := #[97, 32, 98] }] 27)))
  have B6 := Lib.hid (show RBox w w7.heap.size awQ (w7.alloc (.cells #[.string { data := #[83, 68] }, .string { data := #[82, 70, 67, 56, 50, 50] }, .string { data := #[97, 32, 98] }] 27)) from ⟨newOf w7 _, ((A5.out.next hb).next (below_new1 w7 _)).below⟩)
  clear hb A5
  have r0 : (_ : Option Value) = some (.string { data := #[83, 68] }) := B6.out.c0
  have r1 : (_ : Option Value) = some (.string { data := #[82, 70, 67, 56, 50, 50] }) := B6.out.c1
  have r2 : (_ : Option Value) = some (.string { data := #[97, 32, 98] }) := B6.out.c2
  go_wp2_with fail
  clear r0 r1 r2
  generalize w7.alloc (.cells #[.string { data := #[83, 68] }, .string { data := #[82, 70, 67, 56, 50, 50] }, .string { data := #[97, 32, 98] }] 27) = w8 at A6 B6 ⊢
  generalize w7.heap.size = g at B6 ⊢
  refine (ak7 _ (HR.out _ A6.out.below) (HN.out _ A6.out.below)).mono ?_
  rintro e w9 ⟨rfl, hb⟩
  have A7 := Lib.hid (A6.out.next hb)
  have B7 := Lib.hid (B6.out.next hb)
  clear hb A6 B6
  go_wp2_with fail
  refine (ak8 _ (HR.out _ A7.out.below) (HN.out _ A7.out.below)).mono ?_
  rintro e w10 ⟨rfl, hb⟩
  have A8 := Lib.hid ((A7.out.next hb).next (below_new1 w10 (.cells #[.string { data := #[] }, .string { data := #[] }, .string { data := #[] }] 27)))
  have B8 := Lib.hid ((B7.out.next hb).next (below_new1 w10 (.cells #[.string { data := #[] }, .string { data := #[] }, .string { data := #[] }] 27)))
  clear hb A7 B7
  have c0 : (_ : Option Value) = some (.bool true) := A8.out.c0
  have c1 : (_ : Option Value) = some (.bool false) := A8.out.c1
  have c2 : (_ : Option Value) = some (.bool false) := A8.out.c2
  have c3 : (_ : Option Value) = some (.bool true) := A8.out.c3
  have c4 : (_ : Option Value) = some (.bool false) := A8.out.c4
  have c5 : (_ : Option Value) = some (.int .i64 10) := A8.out.c5
  have c6 : (_ : Option Value) = some (.int .i64 0) := A8.out.c6
  have c7 : (_ : Option Value) = some (.int .i64 0) := A8.out.c7
  have c8 : (_ : Option Value) = some (.int .i64 60) := A8.out.c8
  have c9 : (_ : Option Value) = some (.int .i64 0) := A8.out.c9
  have c10 : (_ : Option Value) = some (.string { data := #[] }) := A8.out.c10
  have c11 : (_ : Option Value) = some (.string { data := #[] }) := A8.out.c11
  have c12 : (_ : Option Value) = some (.string { data := #[] }) := A8.out.c12
  have c13 : (_ : Option Value) = some (.string { data := #[82, 84] }) := A8.out.c13
  have r0 : (_ : Option Value) = some (.string { data := #[83, 68] }) := B8.out.c0
  have r1 : (_ : Option Value) = some (.string { data := #[82, 70, 67, 56, 50, 50] }) := B8.out.c1
  have r2 : (_ : Option Value) = some (.string { data := #[97, 32, 98] }) := B8.out.c2
  go_wp2_with fail
  clear r0 r1 r2 c0 c1 c2 c3 c4 c5 c6 c7 c8 c9 c10 c11 c12 c13
  refine (ak9 _ (HR.out _ A8.out.below) (HN.out _ A8.out.below)).mono ?_
  rintro e w11 ⟨rfl, hb⟩
  have B9 := Lib.hid (B8.out.next hb)
  clear hb A8 B8
  have r0 : (_ : Option Value) = some (.string { data := #[83, 68] }) := B9.out.c0
  have r1 : (_ : Option Value) = some (.string { data := #[82, 70, 67, 56, 50, 50] }) := B9.out.c1
  have r2 : (_ : Option Value) = some (.string { data := #[97, 32, 98] }) := B9.out.c2
  go_wp2_with fail
  clear r0 r1 r2
  refine (ak10 _ (HR.out _ B9.out.below) (HN.out _ B9.out.below)).mono ?_
  rintro e w12 ⟨rfl, hb⟩
  have B10 := Lib.hid (B9.out.next hb)
  clear hb B9
  go_wp2_with fail
  go_ret
  exact ⟨rfl, B10.out.below⟩
end Go.Proofs.YtpdehgkkpgjpnaaGreatDoor
