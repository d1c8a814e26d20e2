/-
  The walk of awake (stage 2).
-/
import Derived.Test.YthnjofgeghpdoaaXtDecode
namespace Go.Proofs.Ythnjofgeghpdoaa
open Go.RowKit
theorem dec_lit1 : decX [97, 43, 50, 48, 98] = some [97, 32, 98] := by decide +kernel
theorem dec_lit2 : decX [97, 32, 98] = none := by decide +kernel
theorem dec_lit3 : decX [43, 50] = none := by decide +kernel
theorem dec_lit4 : decX [43, 54, 49] = some [97] := by decide +kernel
theorem enc_lit1 : encX [97, 32, 98] = [97, 43, 50, 48, 98] := by decide +kernel
theorem enc_lit2 : encX [97] = [97] := by decide +kernel
theorem dec1_x (w : World) : Calls Try.prog 8 #[.string { data := #[97, 43, 50, 48, 98] }] w fun e w' => e = .returned (.tuple #[.string { data := #[97, 32, 98] }, .int .i64 0]) ∧ Below w.heap.size w w' :=
  (decode_x [97, 43, 50, 48, 98] w (by decide)).mono fun e w' ⟨he, hb⟩ => ⟨by rw [he, decS, decE, dec_lit1]; rfl, hb⟩
theorem dec2_x (w : World) : Calls Try.prog 8 #[.string { data := #[97, 32, 98] }] w fun e w' => e = .returned (.tuple #[.string { data := #[] }, .int .i64 2]) ∧ Below w.heap.size w w' :=
  (decode_x [97, 32, 98] w (by decide)).mono fun e w' ⟨he, hb⟩ => ⟨by rw [he, decS, decE, dec_lit2]; rfl, hb⟩
theorem dec3_x (w : World) : Calls Try.prog 8 #[.string { data := #[43, 50] }] w fun e w' => e = .returned (.tuple #[.string { data := #[] }, .int .i64 2]) ∧ Below w.heap.size w w' :=
  (decode_x [43, 50] w (by decide)).mono fun e w' ⟨he, hb⟩ => ⟨by rw [he, decS, decE, dec_lit3]; rfl, hb⟩
theorem can4_x (w : World) : Calls Try.prog 10 #[.string { data := #[43, 54, 49] }] w fun e w' => e = .returned (.tuple #[.string { data := #[97] }, .int .i64 0]) ∧ Below w.heap.size w w' :=
  (canon_x [43, 54, 49] w (by decide)).mono fun e w' ⟨he, hb⟩ => ⟨by rw [he, canS, decS, decE, dec_lit4]; simp only [Option.isSome, Option.getD, if_true, enc_lit2]; rfl, hb⟩
theorem enc5_x (w : World) : Calls Try.prog 12 #[.string { data := #[97, 32, 98] }] w fun e w' => e = .returned (.string { data := #[97, 43, 50, 48, 98] }) ∧ Below w.heap.size w w' :=
  (encode_x [97, 32, 98] w (by decide)).mono fun e w' ⟨he, hb⟩ => ⟨by rw [he, enc_lit1]; rfl, hb⟩
theorem cnt6_x (w : World) : Calls Try.prog 13 #[.string { data := #[97, 32, 98] }] w fun e w' => e = .returned (.int .i64 5) ∧ w = w' :=
  (count_x [97, 32, 98] w (by decide)).mono fun e w' ⟨he, hb⟩ => ⟨by rw [he, cntX, enc_lit1]; rfl, hb⟩
set_option maxHeartbeats 1000000 in
theorem awake_x (w : World) : Calls Try.prog 7 #[] w fun e w' => e = .returned (.bool true) ∧ Below w.heap.size w w' := by
  go_enter Try.func7, Try.ntmps7
  go_wp2_with fail
  refine (dec1_x _).mono ?_
  rintro e w1 ⟨rfl, hb⟩
  have HB1 := Lib.hid hb
  clear hb
  go_wp2_with fail
  refine (dec2_x _).mono ?_
  rintro e w2 ⟨rfl, hb⟩
  have HB2 := Lib.hid (HB1.out.trans (hb.mono HB1.out.size))
  clear hb
  go_wp2_with fail
  refine (dec3_x _).mono ?_
  rintro e w3 ⟨rfl, hb⟩
  have HB3 := Lib.hid (HB2.out.trans (hb.mono HB2.out.size))
  clear hb
  go_wp2_with fail
  refine (can4_x _).mono ?_
  rintro e w4 ⟨rfl, hb⟩
  have HB4 := Lib.hid (HB3.out.trans (hb.mono HB3.out.size))
  clear hb
  go_wp2_with fail
  refine (enc5_x _).mono ?_
  rintro e w5 ⟨rfl, hb⟩
  have HB5 := Lib.hid (HB4.out.trans (hb.mono HB4.out.size))
  clear hb
  go_wp2_with fail
  refine (cnt6_x _).mono ?_
  rintro e w6 ⟨rfl, rfl⟩
  go_wp2_with fail
  go_ret
  exact ⟨rfl, HB5.out⟩
end Go.Proofs.Ythnjofgeghpdoaa
