/-
  The walks of Print and of the reference's Print.
-/
import Derived.Test.YtfejepkpjoieoaaFrLaid
import Derived.Test.YtfejepkpjoieoaaBuildGrow
import Derived.Test.YtfejepkpjoieoaaBuildStr
namespace Go.Proofs.Ytfejepkpjoieoaa
set_option maxRecDepth 100000
open Go.RowKit
/-- What is printed, and the error. -/
def longF (l : List Txt) : Bool := l.any fun r => decide (65535 < r.length)
def printF (l : List Txt) : Txt := if longF l then [] else framesF l
def printE (l : List Txt) : Int := if longF l then 3 else 0
theorem long_yes {l : List Txt} {k : Nat} {t : Txt} (h : l[k]? = some t) (ht : 65535 < t.length) : longF l = true :=
  List.any_eq_true.2 ⟨t, List.mem_of_getElem? h, decide_eq_true ht⟩
theorem long_no {l : List Txt} (h : ∀ t ∈ l, t.length ≤ 65535) : longF l = false := by
  rw [longF, List.any_eq_false]
  intro t ht
  have := h t ht
  simp; omega
theorem long_all {l : List Txt} (h : longF l = false) : ∀ t ∈ l, t.length ≤ 65535 := by
  rw [longF, List.any_eq_false] at h
  intro t ht
  have := h t ht
  simp at this; omega
theorem mem_take_more {l : List Txt} {k : Nat} {t : Txt} (h : l[k]? = some t) (ht : t.length ≤ 65535) (ih : ∀ t ∈ l.take k, t.length ≤ 65535) : ∀ t ∈ l.take (k + 1), t.length ≤ 65535 := by
  obtain ⟨hk, e⟩ := List.getElem?_eq_some_iff.1 h
  intro u hu
  rw [List.take_succ_eq_append_getElem hk, List.mem_append] at hu
  rcases hu with hu | hu
  · exact ih u hu
  · simp at hu; rw [hu, e]; exact ht
theorem framesF_take {l : List Txt} {k : Nat} {t : Txt} (h : l[k]? = some t) : framesF (l.take (k + 1)) = framesF (l.take k) ++ frameF t := by
  obtain ⟨hk, e⟩ := List.getElem?_eq_some_iff.1 h
  rw [List.take_succ_eq_append_getElem hk, framesF_snoc, e]
theorem framesF_take_le (l : List Txt) (k : Nat) : (framesF (l.take k)).length ≤ (framesF l).length := by
  have : framesF l = framesF (l.take k) ++ framesF (l.drop k) := by rw [← framesF_append, List.take_append_drop]
  rw [this, List.length_append]; omega
theorem print_some {l : List Txt} (h : longF l = false) : printF l = framesF l ∧ printE l = 0 := ⟨by rw [printF, h]; rfl, by rw [printE, h]; rfl⟩
theorem print_long {l : List Txt} (h : longF l = true) : printF l = [] ∧ printE l = 3 := ⟨by rw [printF, h]; rfl, by rw [printE, h]; rfl⟩
def PrintPost (l : List Txt) (w : World) (e : Ending) (w' : World) : Prop := e = .returned (.tuple #[.string (mkS (printF l)), .int .i64 (printE l)]) ∧ Below w.heap.size w w'
set_option maxHeartbeats 2000000 in
theorem rprint_x (v : Value) (l : List Txt) (w : World) (hs : TxtsAt w v l) (hz : (framesF l).length ≤ 1000000) :
    Calls Try.prog 11 #[v] w (PrintPost l w) := by
  obtain ⟨A, c, rfl, _, _, hc⟩ := hs
  have hll : l.length ≤ 100000 := by have := framesF_len l; omega
  have HS := Lib.hid hc
  clear hc
  go_enter Try.func11, Try.ntmps11
  go_wp2_with fail
  go_loopw [4, 5] (fun s i wr => ∃ k : Nat, k ≤ l.length ∧ i = .int .i64 k ∧ s = .string (mkS (framesF (l.take k))) ∧ Hid (∀ t ∈ l.take k, t.length ≤ 65535) ∧ Hid (Below w.heap.size w wr)) (fun _ i _ => l.length - (intOf i).toNat)
  case atStart => exact ⟨0, Nat.zero_le _, rfl, rfl, Lib.hid (by simp), Lib.hid (Below.refl _ _)⟩
  case round =>
    obtain ⟨k, hk, rfl, rfl, HJ, HB⟩ := hrel
    by_cases hlt : k < l.length
    · obtain ⟨t, ht⟩ : ∃ t, l[k]? = some t := ⟨_, List.getElem?_eq_getElem hlt⟩
      obtain ⟨ad, rfl, hab, hcw⟩ := HS.out k t ht
      have hcl : wr.cell? (ad.add k) = some (.string (mkS t)) := (HB.out.cell (by rw [add_block]; exact hab)).trans hcw
      have hms := mkS_size t
      by_cases h6 : 65535 < t.length
      · have d2 : decide ((65535 : Int) < (t.length : Int)) = true := decide_eq_true (by omega)
        have HL := Lib.hid (long_yes ht h6)
        clear ht hcw hab
        go_wp2_with fail
        go_ret2
        exact ⟨by rw [printF, printE, HL.out]; rfl, HB.out⟩
      · have d2 : decide ((65535 : Int) < (t.length : Int)) = false := decide_eq_false (by omega)
        have HJ2 := Lib.hid (mem_take_more ht (by omega) HJ.out)
        have HT := Lib.hid (framesF_take ht)
        have hzz := framesF_take_le l k
        have hmz := mkS_size (framesF (l.take k))
        have hmf := mkS_size (frameF t)
        rw [frameF_len] at hmf
        have HF := Lib.hid (fun w => frame_x t w (by omega))
        have HE := Lib.hid (mkS_cat (framesF (l.take k)) (frameF t))
        rw [← HT.out] at HE
        generalize framesF (l.take k) = fs at hzz hmz HE HT
        generalize frameF t = ft at hmf HF HE HT
        clear ht hcw hab
        go_wp2_with fail
        refine (HF.out _).mono ?_
        rintro e w1 ⟨rfl, hb1⟩
        have HB1 := Lib.hid (below_next HB.out hb1)
        clear hb1 hcl
        go_wp2_with fail
        go_roundw
        case rel => exact ⟨k + 1, by omega, by go_num, by rw [HE.out], HJ2, HB1⟩
        case measure => simp [intOf]; omega
    · obtain rfl : k = l.length := by omega
      have HL := Lib.hid (long_no (l := l) (by have := HJ.out; rwa [List.take_length] at this))
      rw [List.take_length]
      have HP := Lib.hid (show printF l = framesF l by rw [printF, HL.out]; rfl)
      have HQ := Lib.hid (show printE l = 0 by rw [printE, HL.out]; rfl)
      go_wp2_with fail
      go_ret2
      exact ⟨by rw [HP.out, HQ.out]; rfl, HB.out⟩
set_option maxHeartbeats 2000000 in
theorem print_x (v : Value) (l : List Txt) (w : World) (hs : TxtsAt w v l) (hz : (framesF l).length ≤ 1000000) :
    Calls Try.prog 10 #[v] w (PrintPost l w) := by
  obtain ⟨A, c, rfl, _, _, hc⟩ := hs
  have hll : l.length ≤ 100000 := by have := framesF_len l; omega
  have HS := Lib.hid hc
  clear hc
  go_enter Try.func10, Try.ntmps10
  go_wp2_with fail
  go_loop [4, 12] (fun s i => ∃ k n : Nat, k ≤ l.length ∧ i = .int .i64 k ∧ s = .int .i64 (n : Int) ∧ n ≤ 1000000 ∧ Hid (n = (framesF (l.take k)).length) ∧ Hid (∀ t ∈ l.take k, t.length ≤ 65535)) (fun _ i => l.length - (intOf i).toNat)
  case atStart => exact ⟨0, 0, Nat.zero_le _, rfl, rfl, Nat.zero_le _, Lib.hid rfl, Lib.hid (by simp)⟩
  case round =>
    obtain ⟨k, n, hk, rfl, rfl, hn, HN, HJ⟩ := hrel
    by_cases hlt : k < l.length
    · obtain ⟨t, ht⟩ : ∃ t, l[k]? = some t := ⟨_, List.getElem?_eq_getElem hlt⟩
      obtain ⟨ad, rfl, hab, hcl⟩ := HS.out k t ht
      have hms := mkS_size t
      by_cases h6 : 65535 < t.length
      · have d2 : decide ((65535 : Int) < (t.length : Int)) = true := decide_eq_true (by omega)
        have HL := Lib.hid (long_yes ht h6)
        clear ht hab
        go_wp2_with fail
        go_ret2
        exact ⟨by rw [printF, printE, HL.out]; rfl, Below.refl _ _⟩
      · have d2 : decide ((65535 : Int) < (t.length : Int)) = false := decide_eq_false (by omega)
        have HJ2 := Lib.hid (mem_take_more ht (by omega) HJ.out)
        have HT := Lib.hid (show n + (t.length + 10) = (framesF (l.take (k + 1))).length by rw [framesF_take ht, List.length_append, frameF_len, HN.out])
        have hzz := framesF_take_le l (k + 1)
        have hnn := HT.out
        have HZ := Lib.hid (fun w => size_x t w (by omega))
        have hb : n + (t.length + 10) ≤ 1000000 := by omega
        clear ht hab hzz hnn
        go_wp2_with fail
        refine (HZ.out _).mono ?_
        rintro e w1 ⟨rfl, rfl⟩
        go_wp2_with fail
        go_round
        case rel => exact ⟨k + 1, n + (t.length + 10), by omega, by go_num, by go_num, hb, HT, HJ2⟩
        case measure => simp [intOf]; omega
    · obtain rfl : k = l.length := by omega
      have HA := Lib.hid (show ∀ t ∈ l, t.length ≤ 65535 by have := HJ.out; rwa [List.take_length] at this)
      have HL := Lib.hid (long_no HA.out)
      have HP := Lib.hid (show printF l = framesF l by rw [printF, HL.out]; rfl)
      have HQ := Lib.hid (show printE l = 0 by rw [printE, HL.out]; rfl)
      have HG := Lib.hid (bld_grow w n (by omega))
      clear HJ
      go_wp2_with fail
      refine HG.out.mono ?_
      rintro e w1 ⟨rfl, hbl, hbw⟩
      have HB1 := Lib.hid hbl
      have HW1 := Lib.hid hbw
      clear hbl hbw
      go_wp2_with fail
      go_loopw [28] (fun i wr => ∃ k : Nat, k ≤ l.length ∧ i = .int .i64 k ∧ Hid (Bld w.heap.size (framesF (l.take k)) wr) ∧ Hid (Below w.heap.size w wr)) (fun i _ => l.length - (intOf i).toNat)
      case atStart => exact ⟨0, Nat.zero_le _, rfl, HB1, HW1⟩
      case round =>
        obtain ⟨k, hk, rfl, HB, HW⟩ := hrel
        by_cases hlt : k < l.length
        · obtain ⟨t, ht⟩ : ∃ t, l[k]? = some t := ⟨_, List.getElem?_eq_getElem hlt⟩
          obtain ⟨ad, rfl, hab, hcw⟩ := HS.out k t ht
          have hcl : wr.cell? (ad.add k) = some (.string (mkS t)) := (HW.out.cell (by rw [add_block]; exact hab)).trans hcw
          have hms := mkS_size t
          have h65 := HA.out t (List.mem_of_getElem? ht)
          have hmod : (t.length : Int) % 65536 = (t.length : Int) := by omega
          have HL2 := Lib.hid (fun w => laidu16_x t.length w (by omega))
          have HS1 := Lib.hid (fun w => sealed_x (le2 t.length) w (by rw [le2_len]; omega))
          have HS2 := Lib.hid (fun w => sealed_x t w (by omega))
          have HT := Lib.hid (show framesF (l.take (k + 1)) = framesF (l.take k) ++ sealF (le2 t.length) ++ sealF t by rw [framesF_take ht, List.append_assoc]; rfl)
          have hzz := framesF_take_le l k
          have hs1 : (sealF (le2 t.length)).length = 6 := by rw [sealF_len, le2_len]
          have hs2 : (sealF t).length = t.length + 4 := sealF_len t
          generalize framesF (l.take k) = fs at hzz HB HT
          generalize sealF t = s2 at hs2 HS2 HT
          generalize sealF (le2 t.length) = s1 at hs1 HS1 HT
          generalize le2 t.length = p at HL2 HS1
          clear ht hcw hab
          go_wp2_with fail
          refine (HL2.out _).mono ?_
          rintro e w2 ⟨rfl, hb2⟩
          replace HB := Lib.hid (HB.out.below hb2)
          replace HW := Lib.hid (below_next HW.out hb2)
          clear hb2 hcl
          go_wp2_with fail
          refine (HS1.out _).mono ?_
          rintro e w3 ⟨rfl, hb2⟩
          replace HB := Lib.hid (HB.out.below hb2)
          replace HW := Lib.hid (below_next HW.out hb2)
          clear hb2
          go_wp2_with fail
          refine (bld_str HB.out s1 (by omega)).mono ?_
          rintro e w4 ⟨rfl, hbl, hb2⟩
          replace HB := Lib.hid hbl
          replace HW := Lib.hid (HW.out.trans hb2)
          clear hb2 hbl
          go_wp2_with fail
          refine (HS2.out _).mono ?_
          rintro e w5 ⟨rfl, hb2⟩
          replace HB := Lib.hid (HB.out.below hb2)
          replace HW := Lib.hid (below_next HW.out hb2)
          clear hb2
          go_wp2_with fail
          refine (bld_str HB.out s2 (by rw [List.length_append]; omega)).mono ?_
          rintro e w6 ⟨rfl, hbl, hb2⟩
          replace HB := Lib.hid hbl
          replace HW := Lib.hid (HW.out.trans hb2)
          clear hb2 hbl
          go_wp2_with fail
          go_roundw
          case rel => exact ⟨k + 1, by omega, by go_num, Lib.hid (by rw [HT.out]; exact HB.out), HW⟩
          case measure => simp [intOf]; omega
        · have HB2 := HB.out
          rw [List.take_of_length_le (by omega)] at HB2
          have HST := Lib.hid (bld_string HB2)
          clear HB2
          go_wp2_with fail
          refine HST.out.mono ?_
          rintro e w2 ⟨rfl, _, hb2⟩
          have HW2 := Lib.hid (HW.out.trans hb2)
          clear hb2
          go_wp2_with fail
          go_ret2
          exact ⟨by rw [HP.out, HQ.out]; rfl, HW2.out⟩
end Go.Proofs.Ytfejepkpjoieoaa
