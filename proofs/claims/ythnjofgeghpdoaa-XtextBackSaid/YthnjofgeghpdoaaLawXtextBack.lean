/-
  The walk of the law XtextBack.
-/
import Derived.Test.YthnjofgeghpdoaaXtAwake
namespace Go.Proofs.Ythnjofgeghpdoaa
open Go.RowKit
set_option maxRecDepth 100000 in
set_option maxHeartbeats 2000000 in
theorem xtextBack_x (a b : List UInt8) (w : World) (ha : a.length ≤ 140737488355328) (hb : b.length ≤ 140737488355328) :
    Calls Try.prog 4 #[.string (mkS a), .string (mkS b)] w fun e w' => e = .returned (.bool true) ∧ Below w.heap.size w w' := by
  have hma := mkS_size a
  have hmb := mkS_size b
  have HA := Lib.hid (awake_x w)
  go_enter Try.func4, Try.ntmps4
  go_wp2_with fail
  refine HA.out.mono ?_
  rintro e w1 ⟨rfl, hb1⟩
  have HB1 := Lib.hid hb1
  clear hb1
  by_cases h1 : a.length ≤ 5000
  · have d1 : decide ((5000 : Int) < (a.length : Int)) = false := decide_eq_false (by omega)
    by_cases h2 : b.length ≤ 5000
    · have d2 : decide ((5000 : Int) < (b.length : Int)) = false := decide_eq_false (by omega)
      go_wp2_with fail
      refine (encode_x a _ (by omega)).mono ?_
      rintro e w2 ⟨rfl, hb2⟩
      have HB2 := Lib.hid (HB1.out.trans (hb2.mono HB1.out.size))
      clear hb2
      go_wp2_with fail
      refine (encode_x b _ (by omega)).mono ?_
      rintro e w3 ⟨rfl, hb3⟩
      have HB3 := Lib.hid (HB2.out.trans (hb3.mono HB2.out.size))
      clear hb3
      have HD := Lib.hid (decX_encX a)
      have hxl := encX_len a
      have HS := Lib.hid (fun x (h : x ∈ encX a) => encX_signs h)
      have HI := Lib.hid (fun (h : encX a = encX b) => encX_inj h)
      have HC := Lib.hid (show cntX a = (encX a).length from rfl)
      generalize hx : encX a = x at HD hxl HS HI HC
      have HX := Lib.hid hx
      clear hx
      have hmx := mkS_size x
      go_wp2_with fail
      refine (decode_x x _ (by omega)).mono ?_
      rintro e w4 ⟨rfl, hb4⟩
      rw [decS, decE, HD.out]
      have HB4 := Lib.hid (HB3.out.trans (hb4.mono HB3.out.size))
      clear hb4
      simp only [Option.isSome, Option.getD, if_true]
      go_wp2_with fail
      refine (canon_x x _ (by omega)).mono ?_
      rintro e w5 ⟨rfl, hb5⟩
      rw [canS, decE, decS, HD.out]
      have HB5 := Lib.hid (HB4.out.trans (hb5.mono HB4.out.size))
      clear hb5
      simp only [Option.isSome, Option.getD, if_true]
      rw [HX.out]
      have hxy : ((mkS x).toList == (mkS (encX b)).toList) = ((mkS a).toList == (mkS b).toList) := by
        rw [mkS_eqb, mkS_eqb, Bool.eq_iff_iff, beq_iff_eq, beq_iff_eq]
        exact ⟨HI.out, fun h => by rw [← h, HX.out]⟩
      generalize encX b = y at hxy
      cases hab : ((mkS a).toList == (mkS b).toList)
      all_goals rw [hab] at hxy
      all_goals go_wp2_with fail
      all_goals
        go_loop [11] (fun i => ∃ k : Nat, k ≤ x.length ∧ i = .int .i64 k) (fun i => x.length - (intOf i).toNat)
        case atStart => exact ⟨0, Nat.zero_le _, rfl⟩
        case round =>
          obtain ⟨k, hk, rfl⟩ := hrel
          by_cases hlt : k < x.length
          · obtain ⟨z, hz⟩ : ∃ z : UInt8, (mkS x)[k]'(by omega) = z := ⟨_, rfl⟩
            have hZ : x[k]? = some z := by rw [← hz]; have := Lib.data_getElem? (mkS x) k (by omega); rwa [mkS_data] at this
            obtain ⟨z1, z2, z3⟩ := HS.out z (List.mem_of_getElem? hZ)
            have e1 : decide ((z.toNat : Int) < 33) = false := decide_eq_false (by omega)
            have e2 : decide ((126 : Int) < (z.toNat : Int)) = false := decide_eq_false (by omega)
            have e3 : ((z.toNat : Int) == 61) = false := Bool.eq_false_iff.2 fun e => z3 ((byte_eq (n := 61) (by decide)).1 e)
            clear hZ z1 z2 z3
            go_wp2_with fail
            go_round
            case rel => exact ⟨k + 1, by omega, by go_num⟩
            case measure => simp [intOf]; omega
          · have HCN := Lib.hid (count_x a w5 (by omega))
            rw [HC.out] at HCN
            have g1 : decide ((a.length : Int) ≤ (x.length : Int)) = true := decide_eq_true (by omega)
            have g2 : decide ((x.length : Int) ≤ 3 * (a.length : Int)) = true := decide_eq_true (by omega)
            go_wp2_with fail
            refine HCN.out.mono ?_
            rintro e w6 ⟨rfl, rfl⟩
            go_wp2_with fail
            go_ret
            exact ⟨rfl, HB5.out⟩
    · have d2 : decide ((5000 : Int) < (b.length : Int)) = true := decide_eq_true (by omega)
      go_wp2_with fail
      go_ret
      exact ⟨rfl, HB1.out⟩
  · have d1 : decide ((5000 : Int) < (a.length : Int)) = true := decide_eq_true (by omega)
    go_wp2_with fail
    go_ret
    exact ⟨rfl, HB1.out⟩
end Go.Proofs.Ythnjofgeghpdoaa
