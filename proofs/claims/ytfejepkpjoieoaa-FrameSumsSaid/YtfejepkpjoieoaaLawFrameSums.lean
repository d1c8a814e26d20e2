/-
  The walk of the law FrameSums.
-/
import Derived.Test.YtfejepkpjoieoaaFrAwake
import Derived.Test.YtfejepkpjoieoaaFrCut
import Derived.Test.YtfejepkpjoieoaaBytesIn
import Derived.Laws.BitsAllLaws
namespace Go.Proofs.Ytfejepkpjoieoaa
set_option maxRecDepth 100000
open Go.RowKit
set_option maxHeartbeats 2000000 in
theorem frameSums_x (s : Txt) (at_ : Int) (turn : Nat) (w : World) (hs : s.length ≤ 140737488355328) (hc1 : IntKind.i64.min ≤ at_) (hc2 : at_ ≤ IntKind.i64.max) (ht : turn < 4294967296) :
    Calls Try.prog 7 #[.string (mkS s), .int .i64 at_, .int .u32 (turn : Int)] w fun e w' => e = .returned (.bool true) ∧ Below w.heap.size w w' := by
  have hc1 : (-9223372036854775808 : Int) ≤ at_ := hc1
  have hc2 : at_ ≤ 9223372036854775807 := hc2
  have hms := mkS_size s
  have HA := Lib.hid (awake_x w)
  go_enter Try.func7, Try.ntmps7
  go_wp2_with fail
  refine HA.out.mono ?_
  rintro e w1 ⟨rfl, hb1⟩
  have HB1 := Lib.hid hb1
  clear hb1
  by_cases h1 : s.length < 5
  · have d1 : decide ((s.length : Int) < 5) = true := decide_eq_true (by omega)
    go_wp2_with fail
    go_ret
    exact ⟨rfl, HB1.out⟩
  have d1 : decide ((s.length : Int) < 5) = false := decide_eq_false (by omega)
  by_cases h2 : 20000 < s.length
  · have d2 : decide ((20000 : Int) < (s.length : Int)) = true := decide_eq_true (by omega)
    go_wp2_with fail
    go_ret
    exact ⟨rfl, HB1.out⟩
  have d2 : decide ((20000 : Int) < (s.length : Int)) = false := decide_eq_false (by omega)
  by_cases h3 : at_ < 0
  · go_wp2_with fail
    go_ret
    exact ⟨rfl, HB1.out⟩
  obtain ⟨cu, rfl⟩ : ∃ cu : Nat, at_ = cu := ⟨at_.toNat, by omega⟩
  have d3 : decide ((cu : Int) < 0) = false := decide_eq_false h3
  clear h3
  by_cases h4 : turn = 0
  · have d4 : ((turn : Int) == 0) = true := by rw [h4]; rfl
    go_wp2_with fail
    go_ret
    exact ⟨rfl, HB1.out⟩
  have d4 : ((turn : Int) == 0) = false := beq_eq_false_iff_ne.2 (by omega)
  obtain ⟨a, ha⟩ : ∃ a : Nat, cu % ((s.length - 4) * 8) = a := ⟨_, rfl⟩
  have hal : a < (s.length - 4) * 8 := by have := Nat.mod_lt cu (show 0 < (s.length - 4) * 8 by omega); omega
  have e1 : (cu : Int) % (((s.length : Int) - 4) * 8) = (a : Int) := by
    rw [← ha, show ((s.length : Int) - 4) * 8 = (((s.length - 4) * 8 : Nat) : Int) by omega]; simp
  clear ha
  have hcv := Lib.run_convert_string_bytes (P := Try.prog) w1 9 38 5 (mkS s) Try.underlying9 Try.underlying38 Try.underlying5
  have HS := Lib.hid (SI.new w1 s)
  rw [hms] at hcv
  generalize Lib.bytesWorld w1 5 (mkS s) = w7 at hcv HS
  generalize grownCap w1 s.length 0 5 = cap at hcv
  go_wp2_with fail
  try rw [e1]
  clear e1 hcv
  go_loopw [8] (fun i wr => ∃ (i0 : Nat) (b : Txt), i0 ≤ 32 ∧ i = .int .i64 i0 ∧ b.length = s.length ∧ Hid (turnF s a turn i0 b) ∧ Hid (SI w1 wr s b)) (fun i _ => 32 - (intOf i).toNat)
  case atStart => exact ⟨0, s, Nat.zero_le _, rfl, rfl, Lib.hid (turnF_zero s a turn), HS⟩
  case round =>
    obtain ⟨i, b, hi, rfl, hbl, HT, HI⟩ := hrel
    by_cases hlt : i < 32
    · have a0 := and_one (turn / 2 ^ i) (Nat.lt_of_le_of_lt (Nat.div_le_self _ _) ht)
      have e0 : (((turn / 2 ^ i : Nat)) : Int) = (turn : Int) / 2 ^ i := by simp
      rw [e0] at a0
      clear e0
      rcases Nat.mod_two_eq_zero_or_one (turn / 2 ^ i) with hbit | hbit
      · rw [hbit] at a0
        have HT2 := Lib.hid (turnF_no HT.out hbit)
        clear hbit
        go_wp2_with fail
        go_roundw
        case rel => exact ⟨i + 1, b, by omega, by go_num, hbl, HT2, HI⟩
        case measure => simp [intOf]; omega
      · rw [hbit] at a0
        obtain ⟨k, hk⟩ : ∃ k : Nat, (a + i) / 8 = k := ⟨_, rfl⟩
        obtain ⟨m, hm⟩ : ∃ m : Nat, (a + i) % 8 = m := ⟨_, rfl⟩
        have hm8 : m < 8 := by omega
        have hks : k < s.length := by omega
        obtain ⟨x, hx⟩ : ∃ x, b[k]? = some x := ⟨_, List.getElem?_eq_getElem (by omega)⟩
        obtain ⟨y, hy⟩ : ∃ y : UInt8, y.toNat = 2 ^ m := ⟨UInt8.ofNat (2 ^ m), by
          rw [UInt8.toNat_ofNat']
          exact Nat.mod_eq_of_lt (Nat.pow_lt_pow_right (by omega) hm8)⟩
        have HT2 := Lib.hid (turnF_yes HT.out hbit hx hy (by omega))
        have g0 := HI.out.cell hx
        have g1 := HI.out.free hks
        have HI2 := Lib.hid (HI.out.set (i := k) (x ^^^ y))
        have ex : bits .xor .u8 (x.toNat : Int) (y.toNat : Int) = ((x ^^^ y).toNat : Int) := by
          rw [u8_xor_nat _ _ x.toNat_lt y.toNat_lt, UInt8.toNat_xor]
        have hlen : (b.set k (x ^^^ y)).length = s.length := by rw [List.length_set]; exact hbl
        generalize x ^^^ y = z at HT2 HI2 ex hlen
        have q1 : IntKind.i64.wrap ((a : Int) + (i : Int)) = (a : Int) + (i : Int) := IntWalk.i64_in _ (by omega)
        have q2 : ((a : Int) + (i : Int)).tdiv 8 = (k : Int) := by rw [Int.tdiv_eq_ediv_of_nonneg (by omega)]; omega
        have q3 : ((a : Int) + (i : Int)).tmod 8 = (m : Int) := by rw [Int.tmod_eq_emod_of_nonneg (by omega)]; omega
        have q4 : IntKind.u8.wrap ((2 : Int) ^ m) = (y.toNat : Int) := by
          have : (2 : Int) ^ m = ((2 ^ m : Nat) : Int) := by simp
          rw [this, ← hy]
          exact IntWalk.u8_in _ (by have := y.toNat_lt; omega)
        have q5 : IntKind.i64.wrap (k : Int) = (k : Int) := IntWalk.i64_in _ (by omega)
        have q6 : IntKind.i64.wrap (m : Int) = (m : Int) := IntWalk.i64_in _ (by omega)
        have c1 : (0 : Int) ≤ (k : Int) := by omega
        have c2 : (k : Int) < (s.length : Int) := by omega
        have c3 : (k : Int).toNat = k := by omega
        have c4 : (0 : Int) ≤ (m : Int) := by omega
        have c5 : (m : Int) ≤ 8 := by omega
        have c6 : (m : Int).toNat = m := by omega
        clear hk hm hbit hx hy
        go_wp2_with fail
        go_still_tail 19, (by kernel_rfl)
        go_wp2_with fail
        go_roundw
        case rel => exact ⟨i + 1, b.set k z, by omega, by go_num, hlen, HT2, Lib.hid (SI.drew HI2.out)⟩
        case measure => simp [intOf]; omega
    · obtain rfl : i = 32 := by omega
      have HNE := Lib.hid (turnF_sum HT.out ht h4 (by omega))
      have hcv2 := HI.out.text s.length cap hbl
      have HSb := Lib.hid (fun w => sum_x b w (by omega))
      have HSs := Lib.hid (fun w => sum_x s w (by omega))
      have hct : mkS s ++ { data := #[] } = mkS s := by have := mkS_cat s []; rw [List.append_nil] at this; exact this
      have hne : (((sumF b : Nat) : Int) != ((sumF s : Nat) : Int)) = true := by
        rw [bne_iff_ne]
        intro e
        exact HNE.out (by omega)
      have HB := Lib.hid (below_next HB1.out HI.out.below)
      generalize sumF b = sb at HSb hne
      generalize sumF s = ss at HSs hne
      go_wp2_with fail
      refine (HSb.out _).mono ?_
      rintro e w2 ⟨rfl, rfl⟩
      go_wp2_with fail
      refine (HSs.out _).mono ?_
      rintro e w2 ⟨rfl, rfl⟩
      go_wp2_with fail
      refine (HSs.out _).mono ?_
      rintro e w2 ⟨rfl, rfl⟩
      go_wp2_with fail
      refine (HSs.out _).mono ?_
      rintro e w2 ⟨rfl, rfl⟩
      go_wp2_with fail
      go_ret
      exact ⟨rfl, HB.out⟩
end Go.Proofs.Ytfejepkpjoieoaa
