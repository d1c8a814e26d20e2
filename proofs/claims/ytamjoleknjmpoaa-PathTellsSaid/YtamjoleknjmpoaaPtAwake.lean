/-
  The walk of the laws' awake.
-/
import Derived.Test.YtamjoleknjmpoaaPtJoin
namespace Go.Proofs.Ytamjoleknjmpoaa
open Go.RowKit
theorem aw1_x (w : World) : Calls Try.prog 11 #[.string { data := #[60, 34, 97, 32, 98, 34, 64, 67, 46, 100, 62, 32, 120] }] w fun e w' => e = .returned (.tuple #[.agg #[.string { data := #[97, 32, 98] }, .string { data := #[99, 46, 100] }], .string { data := #[32, 120] }, .int .i64 0]) ∧ Below w.heap.size w w' :=
  (parse_x [60, 34, 97, 32, 98, 34, 64, 67, 46, 100, 62, 32, 120] w (by decide)).mono fun e w' ⟨he, hb⟩ => ⟨by rw [he, show parseV [60, 34, 97, 32, 98, 34, 64, 67, 46, 100, 62, 32, 120] = (([97, 32, 98], [99, 46, 100]), [32, 120], 0) by decide +kernel]; rfl, hb⟩
theorem aw3_x (w : World) : Calls Try.prog 11 #[.string { data := #[60, 97, 46, 34, 98, 64, 99, 62] }] w fun e w' => e = .returned (.tuple #[.agg #[.string { data := #[] }, .string { data := #[] }], .string { data := #[] }, .int .i64 2]) ∧ Below w.heap.size w w' :=
  (parse_x [60, 97, 46, 34, 98, 64, 99, 62] w (by decide)).mono fun e w' ⟨he, hb⟩ => ⟨by rw [he, show parseV [60, 97, 46, 34, 98, 64, 99, 62] = (([], []), [], 2) by decide +kernel]; rfl, hb⟩
theorem aw4_x (w : World) : Calls Try.prog 11 #[.string { data := #[60, 62] }] w fun e w' => e = .returned (.tuple #[.agg #[.string { data := #[] }, .string { data := #[] }], .string { data := #[] }, .int .i64 0]) ∧ Below w.heap.size w w' :=
  (parse_x [60, 62] w (by decide)).mono fun e w' ⟨he, hb⟩ => ⟨by rw [he, show parseV [60, 62] = (([], []), [], 0) by decide +kernel]; rfl, hb⟩
theorem aw5_x (w : World) : Calls Try.prog 11 #[.string { data := #[60, 80, 111, 115, 116, 77, 97, 115, 116, 101, 114, 62] }] w fun e w' => e = .returned (.tuple #[.agg #[.string { data := #[112, 111, 115, 116, 109, 97, 115, 116, 101, 114] }, .string { data := #[] }], .string { data := #[] }, .int .i64 0]) ∧ Below w.heap.size w w' :=
  (parse_x [60, 80, 111, 115, 116, 77, 97, 115, 116, 101, 114, 62] w (by decide)).mono fun e w' ⟨he, hb⟩ => ⟨by rw [he, show parseV [60, 80, 111, 115, 116, 77, 97, 115, 116, 101, 114, 62] = (([112, 111, 115, 116, 109, 97, 115, 116, 101, 114], []), [], 0) by decide +kernel]; rfl, hb⟩
theorem aw2_x (w : World) : Calls Try.prog 9 #[.agg #[.string { data := #[97, 32, 98] }, .string { data := #[99, 46, 100] }]] w fun e w' => e = .returned (.tuple #[.string { data := #[60, 34, 97, 32, 98, 34, 64, 99, 46, 100, 62] }, .int .i64 0]) ∧ Below w.heap.size w w' :=
  (print_x ([97, 32, 98], [99, 46, 100]) w (by decide) (by decide)).mono fun e w' ⟨he, hb⟩ => ⟨by rw [he, show printV ([97, 32, 98], [99, 46, 100]) = [60, 34, 97, 32, 98, 34, 64, 99, 46, 100, 62] by decide +kernel, show rightE ([97, 32, 98], [99, 46, 100]) = 0 by decide +kernel]; rfl, hb⟩
theorem aw6_x (w : World) : Calls Try.prog 13 #[.string { data := #[88, 45, 49, 46, 121] }] w fun e w' => e = .returned (.tuple #[.string { data := #[120, 45, 49, 46, 121] }, .int .i64 0]) ∧ Below w.heap.size w w' :=
  (domain_x [88, 45, 49, 46, 121] w).mono fun e w' ⟨he, hb⟩ => ⟨by rw [he, show domainV [88, 45, 49, 46, 121] = [120, 45, 49, 46, 121] by decide +kernel, show domainE [88, 45, 49, 46, 121] = 0 by decide +kernel]; rfl, hb⟩
theorem aw7_at (w : World) : PathsAt (w.alloc (.cells #[.string { data := #[97] }, .string { data := #[98] }, .string { data := #[] }, .string { data := #[] }] 23)) (.slice (some ⟨w.heap.size, 0, none⟩) 2 2) [([97], [98]), ([], [])] := by
  refine ⟨_, 2, rfl, fun i p hi => ⟨_, rfl, by simp, ?_⟩⟩
  match i, hi with
  | 0, hi => injection hi with hi; subst hi; exact ⟨World.cell?_alloc_at _ _ _ _ rfl, World.cell?_alloc_at _ _ _ _ rfl⟩
  | 1, hi => injection hi with hi; subst hi; exact ⟨World.cell?_alloc_at _ _ _ _ rfl, World.cell?_alloc_at _ _ _ _ rfl⟩
theorem aw7_x (v : Value) (w : World) (h : PathsAt w v [([97], [98]), ([], [])]) : Calls Try.prog 18 #[v] w fun e w' => e = .returned (.tuple #[.string { data := #[60, 97, 64, 98, 62, 32, 60, 62] }, .int .i64 0]) ∧ Below w.heap.size w w' :=
  (join_x v _ w h (by decide) (by decide)).mono fun e w' ⟨he, hb⟩ => ⟨by rw [he, show joinV [([97], [98]), ([], [])] = [60, 97, 64, 98, 62, 32, 60, 62] by decide +kernel, show joinE [([97], [98]), ([], [])] = 0 by decide +kernel]; rfl, hb⟩
theorem aw8_x (w : World) : Calls Try.prog 15 #[.agg #[.string { data := #[97] }, .string { data := #[] }]] w fun e w' => e = .returned (.int .i64 2) ∧ Below w.heap.size w w' :=
  (right_x ([97], []) w (by decide) (by decide)).mono fun e w' ⟨he, hb⟩ => ⟨by rw [he, show rightE ([97], []) = 2 by decide +kernel], hb⟩
theorem aw9_x (w : World) : Calls Try.prog 17 #[.agg #[.string { data := #[] }, .string { data := #[] }]] w fun e w' => e = .returned (.bool true) ∧ Below w.heap.size w w' :=
  (null_x ([], []) w).mono fun e w' ⟨he, hb⟩ => ⟨by rw [he]; rfl, hb⟩
set_option maxRecDepth 100000 in
set_option maxHeartbeats 8000000 in
theorem awake_x (w : World) : Calls Try.prog 8 #[] w fun e w' => e = .returned (.bool true) ∧ Below w.heap.size w w' := by
  have H1 := Lib.hid aw1_x
  have H2 := Lib.hid aw2_x
  have H3 := Lib.hid aw3_x
  have H4 := Lib.hid aw4_x
  have H5 := Lib.hid aw5_x
  have H6 := Lib.hid aw6_x
  have H8 := Lib.hid aw8_x
  have H9 := Lib.hid aw9_x
  have he : ∀ w, (Op.equalIn 10000 23 (.agg #[.string { data := #[97, 32, 98] }, .string { data := #[99, 46, 100] }]) (.agg #[.string { data := #[97, 32, 98] }, .string { data := #[99, 46, 100] }])).run Try.prog w = .ok true w := fun w => eqP ([97, 32, 98], [99, 46, 100]) ([97, 32, 98], [99, 46, 100]) w
  go_enter Try.func8, Try.ntmps8
  go_wp2_with fail
  refine (H1.out _).mono ?_
  rintro e w1 ⟨rfl, hb⟩
  have A1 := Lib.hid (pb_new hb ([97, 32, 98], [99, 46, 100]))
  clear hb
  go_wp2_with fail
  refine (H2.out _).mono ?_
  rintro e w2 ⟨rfl, hb⟩
  have A2 := Lib.hid (A1.out.next hb)
  clear hb
  go_wp2_with fail
  refine (H3.out _).mono ?_
  rintro e w3 ⟨rfl, hb⟩
  have A3 := Lib.hid ((A2.out.next hb).next (below_box _ (.cells #[.string { data := #[] }, .string { data := #[] }] 23)))
  clear hb
  go_wp2_with fail
  refine (H4.out _).mono ?_
  rintro e w4 ⟨rfl, hb⟩
  have A4 := Lib.hid ((A3.out.next hb).next (below_box _ (.cells #[.string { data := #[] }, .string { data := #[] }] 23)))
  have B4 := Lib.hid (pb_new (A3.out.next hb).below ([], []))
  clear hb
  go_wp2_with fail
  refine (H5.out _).mono ?_
  rintro e w5 ⟨rfl, hb⟩
  have A5 := Lib.hid ((A4.out.next hb).next (below_box _ (.cells #[.string { data := #[112, 111, 115, 116, 109, 97, 115, 116, 101, 114] }, .string { data := #[] }] 23)))
  have B5 := Lib.hid ((B4.out.next hb).next (below_box _ (.cells #[.string { data := #[112, 111, 115, 116, 109, 97, 115, 116, 101, 114] }, .string { data := #[] }] 23)))
  have C5 := Lib.hid (pb_new (A4.out.next hb).below (pmL, []))
  clear hb
  go_wp2_with fail
  refine (H6.out _).mono ?_
  rintro e w6 ⟨rfl, hb⟩
  have A6 := Lib.hid (A5.out.next hb)
  have B6 := Lib.hid (B5.out.next hb)
  have C6 := Lib.hid (C5.out.next hb)
  clear hb
  go_wp2_with fail
  refine (aw7_x _ _ (aw7_at _)).mono ?_
  rintro e w7 ⟨rfl, hb⟩
  have A7 := Lib.hid ((A6.out.next (below_box _ _)).next hb)
  have B7 := Lib.hid ((B6.out.next (below_box _ _)).next hb)
  have C7 := Lib.hid ((C6.out.next (below_box _ _)).next hb)
  clear hb
  have a0 : w7.cell? ⟨w1.heap.size, 0, none⟩ = some (.string { data := #[97, 32, 98] }) := cellOf A7.out.box 0
  have a1 : w7.cell? ⟨w1.heap.size, 1, none⟩ = some (.string { data := #[99, 46, 100] }) := cellOf A7.out.box 1
  have b0 : w7.cell? ⟨w4.heap.size, 0, none⟩ = some (.string { data := #[] }) := cellOf B7.out.box 0
  have b1 : w7.cell? ⟨w4.heap.size, 1, none⟩ = some (.string { data := #[] }) := cellOf B7.out.box 1
  go_wp2_with fail
  refine (H9.out _).mono ?_
  rintro e w8 ⟨rfl, hb⟩
  have C8 := Lib.hid (C7.out.next hb)
  clear hb a0 a1 b0 b1
  have c0 : w8.cell? ⟨w5.heap.size, 0, none⟩ = some (.string { data := #[112, 111, 115, 116, 109, 97, 115, 116, 101, 114] }) := cellOf C8.out.box 0
  go_wp2_with fail
  refine (H8.out _).mono ?_
  rintro e w9 ⟨rfl, hb⟩
  have C9 := Lib.hid (C8.out.next hb)
  clear hb c0
  go_wp2_with fail
  go_ret
  exact ⟨rfl, C9.out.below⟩
end Go.Proofs.Ytamjoleknjmpoaa
