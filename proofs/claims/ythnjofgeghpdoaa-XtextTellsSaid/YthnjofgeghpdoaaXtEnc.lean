/-
  The walks of xtext's plain, Count and Encode.
-/
import Derived.Test.YthnjofgeghpdoaaXtMath
import Derived.Test.YthnjofgeghpdoaaBuildByte
import Derived.Test.YthnjofgeghpdoaaBuildGrow
namespace Go.Proofs.Ythnjofgeghpdoaa
open Go.RowKit
theorem plain_of {b : UInt8} (h1 : 33 ≤ b.toNat) (h2 : b.toNat ≤ 126) (h3 : b ≠ 43) (h4 : b ≠ 61) : plainX b = true := by simp [plainX, h1, h2, h3, h4]
theorem plain_no1 {b : UInt8} (h1 : ¬ 33 ≤ b.toNat) : plainX b = false := by simp [plainX, h1]
theorem plain_no2 {b : UInt8} (h1 : ¬ b.toNat ≤ 126) : plainX b = false := by simp [plainX, h1]
theorem plain_no3 {b : UInt8} (h1 : b = 43) : plainX b = false := by simp [plainX, h1]
theorem plain_no4 {b : UInt8} (h1 : b = 61) : plainX b = false := by simp [plainX, h1]
set_option maxHeartbeats 400000 in
theorem plain_x (b : UInt8) (w : World) : Calls Try.prog 16 #[.int .u8 (b.toNat : Int)] w fun e w' => e = .returned (.bool (plainX b)) ∧ w = w' := by
  have hlt := b.toNat_lt
  by_cases h1 : 33 ≤ b.toNat
  · have d1 : decide ((33 : Int) ≤ (b.toNat : Int)) = true := decide_eq_true (by omega)
    by_cases h2 : b.toNat ≤ 126
    · have d2 : decide ((b.toNat : Int) ≤ 126) = true := decide_eq_true (by omega)
      by_cases h3 : b = 43
      · have d3 : ((b.toNat : Int) != 43) = false := by rw [h3]; rfl
        have HP := Lib.hid (plain_no3 h3)
        clear h3
        go_enter Try.func16, Try.ntmps16
        go_wp2_with fail
        go_ret
        exact ⟨ret_bool HP.out.symm, rfl⟩
      · have d3 : ((b.toNat : Int) != 43) = true := by rw [bne_iff_ne]; exact fun e => h3 ((byte_eq (n := 43) (by decide)).1 (beq_iff_eq.2 e))
        by_cases h4 : b = 61
        · have d4 : ((b.toNat : Int) != 61) = false := by rw [h4]; rfl
          have HP := Lib.hid (plain_no4 h4)
          clear h3 h4
          go_enter Try.func16, Try.ntmps16
          go_wp2_with fail
          go_ret
          exact ⟨ret_bool HP.out.symm, rfl⟩
        · have d4 : ((b.toNat : Int) != 61) = true := by rw [bne_iff_ne]; exact fun e => h4 ((byte_eq (n := 61) (by decide)).1 (beq_iff_eq.2 e))
          have HP := Lib.hid (plain_of h1 h2 h3 h4)
          clear h3 h4
          go_enter Try.func16, Try.ntmps16
          go_wp2_with fail
          go_ret
          exact ⟨ret_bool HP.out.symm, rfl⟩
    · have d2 : decide ((b.toNat : Int) ≤ 126) = false := decide_eq_false (by omega)
      have HP := Lib.hid (plain_no2 h2)
      go_enter Try.func16, Try.ntmps16
      go_wp2_with fail
      go_ret
      exact ⟨ret_bool HP.out.symm, rfl⟩
  · have d1 : decide ((33 : Int) ≤ (b.toNat : Int)) = false := decide_eq_false (by omega)
    have HP := Lib.hid (plain_no1 h1)
    go_enter Try.func16, Try.ntmps16
    go_wp2_with fail
    go_ret
    exact ⟨ret_bool HP.out.symm, rfl⟩

/-- How many bytes a text's xtext takes. -/
def cntX (l : List UInt8) : Nat := (encX l).length
theorem cnt_take {l : List UInt8} {k : Nat} {b : UInt8} (h : l[k]? = some b) : cntX (l.take (k + 1)) = cntX (l.take k) + (if plainX b then 1 else 3) := by
  unfold cntX
  rw [encX_take h, List.length_append]
  unfold encX1
  split <;> rfl
theorem cnt_le (l : List UInt8) (k : Nat) : k ≤ l.length → k ≤ cntX (l.take k) ∧ cntX (l.take k) ≤ 3 * k := by
  intro h
  have := encX_len (l.take k)
  rw [List.length_take, Nat.min_eq_left h] at this
  exact this
set_option maxHeartbeats 1000000 in
theorem count_x (l : List UInt8) (w : World) (hs : l.length ≤ 1000000000) :
    Calls Try.prog 13 #[.string (mkS l)] w fun e w' => e = .returned (.int .i64 (cntX l : Int)) ∧ w = w' := by
  have hms := mkS_size l
  go_enter Try.func13, Try.ntmps13
  go_wp2_with fail
  go_loop [3, 9] (fun n i => ∃ (k c : Nat), k ≤ l.length ∧ c ≤ 3000000000 ∧ i = .int .i64 k ∧ n = .int .i64 (c : Int) ∧ Hid (c + k = l.length + cntX (l.take k))) (fun _ i => l.length - (intOf i).toNat)
  case atStart => exact ⟨0, l.length, Nat.zero_le _, by omega, rfl, rfl, by simp [Hid, cntX, encX]⟩
  case round =>
    obtain ⟨k, c, hk, hc, rfl, rfl, HC⟩ := hrel
    by_cases hlt : k < l.length
    · obtain ⟨x, hx⟩ : ∃ x : UInt8, (mkS l)[k]'(by omega) = x := ⟨_, rfl⟩
      have hX : l[k]? = some x := by rw [← hx]; have := Lib.data_getElem? (mkS l) k (by omega); rwa [mkS_data] at this
      have HT := Lib.hid (cnt_take hX)
      have HP := Lib.hid (plain_x x w)
      clear hX
      cases hp : plainX x
      · rw [hp] at HT HP
        clear hp
        go_wp2_with fail
        refine HP.out.mono ?_
        rintro e w1 ⟨rfl, rfl⟩
        go_wp2_with fail
        go_round
        case rel => exact ⟨k + 1, c + 2, by omega, by have := HC.out; have := cnt_le l k; omega, by go_num, by go_num, show _ + _ = _ by have := HC.out; have := HT.out; simp only [Bool.false_eq_true, if_false] at this; omega⟩
        case measure => simp [intOf]; omega
      · rw [hp] at HT HP
        clear hp
        go_wp2_with fail
        refine HP.out.mono ?_
        rintro e w1 ⟨rfl, rfl⟩
        go_wp2_with fail
        go_round
        case rel => exact ⟨k + 1, c, by omega, by omega, by go_num, rfl, show _ + _ = _ by have := HC.out; have := HT.out; simp only [if_true] at this; omega⟩
        case measure => simp [intOf]; omega
    · have hc := HC.out
      rw [List.take_of_length_le (by omega)] at hc
      have HE := Lib.hid (show c = cntX l by omega)
      clear hc
      go_wp2_with fail
      go_ret
      exact ⟨ret_int (by rw [HE.out]), rfl⟩

theorem digs_at {n : Nat} (h : n < 16) (h' : n < ({ data := #[48, 49, 50, 51, 52, 53, 54, 55, 56, 57, 65, 66, 67, 68, 69, 70] } : ByteArray).size) : ({ data := #[48, 49, 50, 51, 52, 53, 54, 55, 56, 57, 65, 66, 67, 68, 69, 70] } : ByteArray)[n]'h' = digX n :=
  mkS_get (l := digsX) h' (digs_get n h)
set_option maxHeartbeats 1000000 in
theorem encode_x (l : List UInt8) (w : World) (hs : l.length ≤ 1000000000) :
    Calls Try.prog 12 #[.string (mkS l)] w fun e w' => e = .returned (.string (mkS (encX l))) ∧ Below w.heap.size w w' := by
  have hms := mkS_size l
  have HCN := Lib.hid (count_x l (w.alloc (.cells #[.pointer none, .slice none 0 0] 37)) hs)
  have hcl : cntX l ≤ 3000000000 := by have := (encX_len l).2; unfold cntX; omega
  have HG := Lib.hid (bld_grow w (cntX l) (by omega))
  generalize cntX l = cn at HCN HG hcl
  go_enter Try.func12, Try.ntmps12
  go_wp2_with fail
  refine HCN.out.mono ?_
  rintro e w1 ⟨rfl, rfl⟩
  go_wp2_with fail
  refine HG.out.mono ?_
  rintro e w1 ⟨rfl, hb1, hw1⟩
  have HB1 := Lib.hid hb1
  have HW1 := Lib.hid hw1
  clear hb1 hw1
  go_wp2_with fail
  go_loopw [11] (fun i wr => ∃ k : Nat, k ≤ l.length ∧ i = .int .i64 k ∧ Hid (Bld w.heap.size (encX (l.take k)) wr) ∧ Hid (Below w.heap.size w wr)) (fun i _ => l.length - (intOf i).toNat)
  case atStart => exact ⟨0, Nat.zero_le _, rfl, HB1.out, HW1.out⟩
  case round =>
    obtain ⟨k, hk, rfl, HB, HW⟩ := hrel
    by_cases hlt : k < l.length
    · obtain ⟨x, hx⟩ : ∃ x : UInt8, (mkS l)[k]'(by omega) = x := ⟨_, rfl⟩
      have hX : l[k]? = some x := by rw [← hx]; have := Lib.data_getElem? (mkS l) k (by omega); rwa [mkS_data] at this
      have HT := Lib.hid (encX_take hX)
      have HP := Lib.hid (plain_x x wr)
      have hel : (encX (l.take k)).length ≤ 3000000000 := by have := (cnt_le l k (by omega)).2; unfold cntX at this; omega
      generalize encX (l.take k) = ek at HB HT hel
      clear hX
      have hx256 := x.toNat_lt
      have hq : 0 ≤ (x.toNat : Int) / 16 ∧ (x.toNat : Int) / 16 < 16 := by omega
      have hr : 0 ≤ (x.toNat : Int) % 16 ∧ (x.toNat : Int) % 16 < 16 := by omega
      cases hp : plainX x
      · have HE := Lib.hid (show encX1 x = [43, digX (x.toNat / 16), digX (x.toNat % 16)] by rw [encX1, hp]; rfl)
        rw [hp] at HP
        clear hp
        go_wp2_with fail
        refine HP.out.mono ?_
        rintro e w2 ⟨rfl, rfl⟩
        go_wp2_with fail
        refine (bld_byte HB.out 43 (by omega)).mono ?_
        rintro e w3 ⟨rfl, hb3, hw3⟩
        have HB3 := Lib.hid hb3
        have HW3 := Lib.hid hw3
        clear hb3 hw3
        go_wp2_with fail
        refine (bld_byte HB3.out _ (by rw [List.length_append]; simp; omega)).mono ?_
        rintro e w4 ⟨rfl, hb4, hw4⟩
        rw [digs_at (by omega)] at hb4
        have HB4 := Lib.hid hb4
        have HW4 := Lib.hid hw4
        clear hb4 hw4
        go_wp2_with fail
        refine (bld_byte HB4.out _ (by rw [List.length_append, List.length_append]; simp; omega)).mono ?_
        rintro e w5 ⟨rfl, hb5, hw5⟩
        rw [digs_at (by omega)] at hb5
        have HB5 := Lib.hid hb5
        have HW5 := Lib.hid (((HW.out.trans HW3.out).trans HW4.out).trans hw5)
        clear hb5 hw5
        go_wp2_with fail
        go_roundw
        case rel => exact ⟨k + 1, by omega, by go_num, by rw [HT.out, HE.out]; have := HB5.out; rwa [List.append_assoc, List.append_assoc] at this, HW5.out⟩
        case measure => simp [intOf]; omega
      · have HE := Lib.hid (show encX1 x = [x] by rw [encX1, hp]; rfl)
        rw [hp] at HP
        clear hp
        go_wp2_with fail
        refine HP.out.mono ?_
        rintro e w2 ⟨rfl, rfl⟩
        go_wp2_with fail
        refine (bld_byte HB.out x (by omega)).mono ?_
        rintro e w3 ⟨rfl, hb3, hw3⟩
        have HB3 := Lib.hid hb3
        have HW3 := Lib.hid hw3
        clear hb3 hw3
        go_wp2_with fail
        go_roundw
        case rel => exact ⟨k + 1, by omega, by go_num, by rw [HT.out, HE.out]; exact HB3.out, HW.out.trans HW3.out⟩
        case measure => simp [intOf]; omega
    · have hb := HB.out
      rw [List.take_of_length_le (by omega)] at hb
      have HB' := Lib.hid hb
      clear hb
      go_wp2_with fail
      refine (bld_string HB'.out).mono ?_
      rintro e w2 ⟨rfl, _, hw2⟩
      have HW2 := Lib.hid (HW.out.trans hw2)
      clear hw2
      go_wp2_with fail
      go_ret
      exact ⟨rfl, HW2.out⟩
end Go.Proofs.Ythnjofgeghpdoaa
