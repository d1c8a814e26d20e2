/-
  The walk of the law PathDomains.
-/
import Derived.Test.YtamjoleknjmpoaaPtAwake
import Derived.Test.YtamjoleknjmpoaaPtDom
namespace Go.Proofs.Ytamjoleknjmpoaa
open Go.RowKit
/-- The letters ahead of place j made capital. -/
def upUp (l : List UInt8) (j : Nat) : List UInt8 := (l.take j).map upB ++ l.drop j
theorem upUp_zero (l : List UInt8) : upUp l 0 = l := by simp [upUp]
theorem upUp_all (l : List UInt8) : upUp l l.length = l.map upB := by simp [upUp]
theorem upUp_length (l : List UInt8) (j : Nat) : (upUp l j).length = l.length := by simp [upUp]; omega
theorem upUp_succ {l : List UInt8} {j : Nat} {x : UInt8} (h : l[j]? = some x) : (upUp l j)[j]? = some x ∧ upUp l (j + 1) = (upUp l j).set j (upB x) := by
  obtain ⟨hj, e⟩ := List.getElem?_eq_some_iff.1 h
  have hlen : ((l.take j).map upB).length = j := by simp; omega
  refine ⟨?_, ?_⟩
  · rw [upUp, List.getElem?_append_right (by omega), hlen, Nat.sub_self, List.getElem?_drop, Nat.add_zero, h]
  · rw [upUp, upUp, List.take_succ_eq_append_getElem hj, List.set_append_right _ _ (by omega), hlen, Nat.sub_self, List.drop_eq_getElem_cons hj, e]
    simp
theorem set_same {l : List UInt8} {j : Nat} {x : UInt8} (h : l[j]? = some x) : l.set j x = l := by
  apply List.ext_getElem?
  intro i
  rw [List.getElem?_set]
  split
  · rename_i e; subst e
    split
    · exact h.symm
    · rename_i h2; rw [List.getElem?_eq_none (by omega)] at h; cases h
  · rfl
theorem domT_x {s : List UInt8} (h : domainE s = 0) (w : World) : Calls Try.prog 13 #[.string (mkS s)] w fun e w' => e = .returned (.tuple #[.string (mkS (smallL s)), .int .i64 0]) ∧ Below w.heap.size w w' :=
  (domain_x s w).mono fun e w' ⟨he, hb⟩ => ⟨by rw [he, domV_zero h, h], hb⟩
theorem domX_x {s : List UInt8} (h : domainE s = 0) (w : World) : Calls Try.prog 13 #[.string (mkS (smallL s))] w fun e w' => e = .returned (.tuple #[.string (mkS (smallL s)), .int .i64 0]) ∧ Below w.heap.size w w' :=
  (domain_x (smallL s) w).mono fun e w' ⟨he, hb⟩ => ⟨by rw [he, (domE_small h).2, (domE_small h).1], hb⟩
theorem domU_x {s : List UInt8} (h : domainE s = 0) (w : World) : Calls Try.prog 13 #[.string (mkS (s.map upB))] w fun e w' => e = .returned (.tuple #[.string (mkS (smallL s)), .int .i64 0]) ∧ Below w.heap.size w w' :=
  (domain_x (s.map upB) w).mono fun e w' ⟨he, hb⟩ => ⟨by rw [he, (domE_up h).2, (domE_up h).1], hb⟩
theorem small_at {a : List UInt8} {j : Nat} (hj : j < a.length) : ∃ y : UInt8, (smallL a)[j]? = some y ∧ (y.toNat < 65 ∨ 90 < y.toNat) := by
  refine ⟨smallB a[j], by simp [smallL, hj], ?_⟩
  have := small_cap a[j]
  unfold capB at this
  rw [Bool.and_eq_false_iff, decide_eq_false_iff_not, decide_eq_false_iff_not] at this
  omega
theorem domG_x (s : List UInt8) (w : World) : Calls Try.prog 13 #[.string (mkS s)] w fun e w' => e = .returned (.tuple #[.string (mkS (domainV s)), .int .i64 (domainE s)]) ∧ Below w.heap.size w w' := domain_x s w
theorem c46 : ({ data := #[46] } : ByteArray) = mkS [46] := rfl
theorem SI.move {W V w : World} {l m : List UInt8} (h : SI W w l m) (hb : Below V.heap.size V W) : Below V.heap.size V w := hb.trans (h.below.mono hb.size)
set_option maxRecDepth 100000 in
set_option maxHeartbeats 8000000 in
theorem pathDomains_x (a b : List UInt8) (w : World) (_ : a.length ≤ 140737488355328) (_ : b.length ≤ 140737488355328) :
    Calls Try.prog 5 #[.string (mkS a), .string (mkS b)] w fun e w' => e = .returned (.bool true) ∧ Below w.heap.size w w' := by
  have HA := Lib.hid awake_x
  have hza := mkS_size a
  have hzb := mkS_size b
  by_cases h4a : 400 < a.length
  · have d1 : decide ((400 : Int) < (a.length : Int)) = true := decide_eq_true (by omega)
    go_enter Try.func5, Try.ntmps5
    go_wp2_with fail
    refine (HA.out _).mono ?_
    rintro e w1 ⟨rfl, hb1⟩
    go_wp2_with fail
    go_ret
    exact ⟨rfl, hb1⟩
  have d1 : decide ((400 : Int) < (a.length : Int)) = false := decide_eq_false (by omega)
  by_cases h4b : 400 < b.length
  · have d2 : decide ((400 : Int) < (b.length : Int)) = true := decide_eq_true (by omega)
    go_enter Try.func5, Try.ntmps5
    go_wp2_with fail
    refine (HA.out _).mono ?_
    rintro e w1 ⟨rfl, hb1⟩
    go_wp2_with fail
    go_ret
    exact ⟨rfl, hb1⟩
  have d2 : decide ((400 : Int) < (b.length : Int)) = false := decide_eq_false (by omega)
  have hla : a.length ≤ 400 := by omega
  have hlb : b.length ≤ 400 := by omega
  have hcat : mkS a ++ { data := #[46] } ++ mkS b = mkS (a ++ 46 :: b) := by rw [c46, mkS_cat, mkS_cat]; simp
  have HDB := Lib.hid (fun w => domG_x b w)
  have HDC := Lib.hid (fun w => domG_x (a ++ 46 :: b) w)
  have hzy : (mkS (domainV b)).size = (domainV b).length := mkS_size _
  have hly : (domainV b).length ≤ 400 := by unfold domainV; split <;> simp [smallL] <;> omega
  by_cases ha : domainE a = 0
  · have HDA := Lib.hid (fun w => domT_x ha w)
    have HDX := Lib.hid (fun w => domX_x ha w)
    have HDU := Lib.hid (fun w => domU_x ha w)
    have hzx : (mkS (smallL a)).size = a.length := by rw [mkS_size, smallL_length]
    have HXB := Lib.hid (fun (j : Nat) (hj : j < a.length) => small_at hj)
    have HBV := Lib.hid (fun hb => domV_zero (s := b) hb)
    have HC3 := Lib.hid (fun h => domE_long (a := a) (b := b) h)
    have HC0 := Lib.hid (fun hb h => domE_yes (a := a) (b := b) ha hb h)
    have HCN := Lib.hid (fun (hb : domainE b ≠ 0) (hc : domainE (a ++ 46 :: b) = 0) => hb (domE_cat hc).2)
    have HUA := Lib.hid (upUp_all a)
    generalize a ++ 46 :: b = c at hcat HDC HC3 HC0 HCN
    generalize domainV b = y at HDB hzy hly HBV
    generalize domainV c = z at HDC HC0
    generalize domainE b = eb at HDB HBV HC0 HCN
    generalize domainE c = ec at HDC HC3 HC0 HCN
    clear ha
    go_enter Try.func5, Try.ntmps5
    go_wp2_with fail
    refine (HA.out _).mono ?_
    rintro e w1 ⟨rfl, hb1⟩
    have HB1 := Lib.hid hb1
    clear hb1
    go_wp2_with fail
    refine (HDA.out _).mono ?_
    rintro e w2 ⟨rfl, hb⟩
    have HB2 := Lib.hid (below_next HB1.out hb)
    clear hb
    go_wp2_with fail
    refine (HDB.out _).mono ?_
    rintro e w3 ⟨rfl, hb⟩
    have HB3 := Lib.hid (below_next HB2.out hb)
    clear hb
    go_wp2_with fail
    refine (HDC.out _).mono ?_
    rintro e w4 ⟨rfl, hb⟩
    have HB4 := Lib.hid (below_next HB3.out hb)
    clear hb
    go_wp2_with fail
    refine (HDX.out _).mono ?_
    rintro e w5 ⟨rfl, hb⟩
    have HB5 := Lib.hid (below_next HB4.out hb)
    clear hb hcat
    have hcv := Lib.run_convert_string_bytes (P := Try.prog) w5 9 42 5 (mkS a) Try.underlying9 Try.underlying42 Try.underlying5
    have HS := Lib.hid (SI.new w5 a)
    rw [hza] at hcv
    generalize Lib.bytesWorld w5 5 (mkS a) = w6 at hcv HS
    generalize grownCap w5 a.length 0 5 = cap at hcv
    go_wp2_with fail
    clear hcv
    go_loopw [14] (fun i wr => ∃ j : Nat, j ≤ a.length ∧ i = .int .i64 j ∧ Hid (SI w5 wr a (upUp a j))) (fun i _ => a.length - (intOf i).toNat)
    case atStart => exact ⟨0, Nat.zero_le _, rfl, by rw [upUp_zero]; exact HS⟩
    case round =>
      obtain ⟨j, hj, rfl, HI⟩ := hrel
      by_cases hlt : j < a.length
      · obtain ⟨y', hy1, hy2⟩ := HXB.out j hlt
        have hxe : (mkS (smallL a))[j]'(by omega) = y' := mkS_get (by omega) hy1
        obtain ⟨x, hX⟩ : ∃ x : UInt8, a[j]? = some x := ⟨_, List.getElem?_eq_getElem hlt⟩
        have hc := HI.out.cell (upUp_succ hX).1
        have hf := HI.out.free hlt
        have hy256 := y'.toNat_lt
        have hx256 := x.toNat_lt
        have HN := Lib.hid (show ∀ wr', SI w5 wr' a ((upUp a j).set j (upB x)) → SI w5 wr' a (upUp a (j + 1)) from fun wr' h => by rw [(upUp_succ hX).2]; exact h)
        have HST := Lib.hid (set_same (upUp_succ hX).1)
        have HUN := Lib.hid (fun h => up_not (x := x) h)
        have HUS := Lib.hid (fun h1 h2 => up_sub x h1 h2)
        clear hX hy1
        have rest : ∀ (Q : Prop), (y'.toNat < 65 → Q) → (90 < y'.toNat → Q) → Q := fun Q h1 h2 => by
          rcases hy2 with h | h
          · exact h1 h
          · exact h2 h
        have HRS := Lib.hid hy2
        clear rest hy2
        by_cases hx1 : 97 ≤ x.toNat
        · have e1 : decide ((97 : Int) ≤ (x.toNat : Int)) = true := decide_eq_true (by omega)
          by_cases hx2 : x.toNat ≤ 122
          · have e2 : decide ((x.toNat : Int) ≤ 122) = true := decide_eq_true (by omega)
            have e3 : IntKind.u8.wrap ((x.toNat : Int) - 32) = (x.toNat : Int) - 32 := IntWalk.u8_in _ (by omega)
            have HSUM := Lib.hid (HUS.out hx1 hx2)
            rcases HRS.out with hr | hr
            · have e4 : decide ((65 : Int) ≤ (y'.toNat : Int)) = false := decide_eq_false (by omega)
              go_wp2_with fail
              rw [HSUM.out]
              go_roundw
              case rel => exact ⟨j + 1, by omega, by go_num, HN.out _ (HI.out.set _)⟩
              case measure => simp [intOf]; omega
            · have e4 : decide ((65 : Int) ≤ (y'.toNat : Int)) = true := decide_eq_true (by omega)
              have e5 : decide ((y'.toNat : Int) ≤ 90) = false := decide_eq_false (by omega)
              go_wp2_with fail
              rw [HSUM.out]
              go_roundw
              case rel => exact ⟨j + 1, by omega, by go_num, HN.out _ (HI.out.set _)⟩
              case measure => simp [intOf]; omega
          · have e2 : decide ((x.toNat : Int) ≤ 122) = false := decide_eq_false (by omega)
            have HM := Lib.hid (show SI w5 wr a (upUp a (j + 1)) from HN.out _ (by rw [HUN.out (by omega), HST.out]; exact HI.out))
            rcases HRS.out with hr | hr
            · have e4 : decide ((65 : Int) ≤ (y'.toNat : Int)) = false := decide_eq_false (by omega)
              go_wp2_with fail
              go_roundw
              case rel => exact ⟨j + 1, by omega, by go_num, HM⟩
              case measure => simp [intOf]; omega
            · have e4 : decide ((65 : Int) ≤ (y'.toNat : Int)) = true := decide_eq_true (by omega)
              have e5 : decide ((y'.toNat : Int) ≤ 90) = false := decide_eq_false (by omega)
              go_wp2_with fail
              go_roundw
              case rel => exact ⟨j + 1, by omega, by go_num, HM⟩
              case measure => simp [intOf]; omega
        · have e1 : decide ((97 : Int) ≤ (x.toNat : Int)) = false := decide_eq_false (by omega)
          have HM := Lib.hid (show SI w5 wr a (upUp a (j + 1)) from HN.out _ (by rw [HUN.out (by omega), HST.out]; exact HI.out))
          rcases HRS.out with hr | hr
          · have e4 : decide ((65 : Int) ≤ (y'.toNat : Int)) = false := decide_eq_false (by omega)
            go_wp2_with fail
            go_roundw
            case rel => exact ⟨j + 1, by omega, by go_num, HM⟩
            case measure => simp [intOf]; omega
          · have e4 : decide ((65 : Int) ≤ (y'.toNat : Int)) = true := decide_eq_true (by omega)
            have e5 : decide ((y'.toNat : Int) ≤ 90) = false := decide_eq_false (by omega)
            go_wp2_with fail
            go_roundw
            case rel => exact ⟨j + 1, by omega, by go_num, HM⟩
            case measure => simp [intOf]; omega
      · obtain rfl : j = a.length := by omega
        have hI := HI.out
        rw [HUA.out] at hI
        have hcv := hI.text a.length cap (by simp)
        have HB6 := Lib.hid (hI.move HB5.out)
        clear hI
        go_wp2_with fail
        refine (HDU.out _).mono ?_
        rintro e w7 ⟨rfl, hb⟩
        have HB7 := Lib.hid (below_next HB6.out hb)
        clear hb hcv
        by_cases hb0 : eb = 0
        · have HY := Lib.hid (HBV.out hb0)
          have e1 : (eb == 0) = true := beq_iff_eq.2 hb0
          by_cases hs : 255 < a.length + b.length + 1
          · have e2 : decide ((255 : Int) < (a.length : Int) + (b.length : Int) + 1) = true := decide_eq_true (by omega)
            have e3 : (ec == 3) = true := beq_iff_eq.2 (HC3.out hs)
            clear hb0 hs
            go_wp2_with fail
            go_ret
            exact ⟨rfl, HB7.out⟩
          · have e2 : decide ((255 : Int) < (a.length : Int) + (b.length : Int) + 1) = false := decide_eq_false (by omega)
            have h0 := HC0.out hb0 (by omega)
            have e3 : (ec == 0) = true := beq_iff_eq.2 h0.1
            have hcat : mkS (smallL a) ++ { data := #[46] } ++ mkS y = mkS z := by rw [c46, mkS_cat, mkS_cat, h0.2, HY.out]
            clear hb0 hs h0
            go_wp2_with fail
            go_ret
            exact ⟨rfl, HB7.out⟩
        · have e1 : (eb == 0) = false := beq_eq_false_iff_ne.2 hb0
          have e3 : (ec != 0) = true := bne_iff_ne.2 fun h => HCN.out hb0 h
          clear hb0
          go_wp2_with fail
          go_ret
          exact ⟨rfl, HB7.out⟩
  · have HDA := Lib.hid (fun w => domG_x a w)
    have e1 : (domainE a == 0) = false := beq_eq_false_iff_ne.2 ha
    have e3 : (domainE (a ++ 46 :: b) != 0) = true := bne_iff_ne.2 fun h => ha (domE_cat h).1
    generalize a ++ 46 :: b = c at hcat HDC e3
    generalize domainV b = y at HDB hzy hly
    generalize domainV c = z at HDC
    generalize domainV a = x at HDA
    generalize domainE a = ea at HDA e1
    generalize domainE b = eb at HDB
    generalize domainE c = ec at HDC e3
    clear ha
    go_enter Try.func5, Try.ntmps5
    go_wp2_with fail
    refine (HA.out _).mono ?_
    rintro e w1 ⟨rfl, hb1⟩
    have HB1 := Lib.hid hb1
    clear hb1
    go_wp2_with fail
    refine (HDA.out _).mono ?_
    rintro e w2 ⟨rfl, hb⟩
    have HB2 := Lib.hid (below_next HB1.out hb)
    clear hb
    go_wp2_with fail
    refine (HDB.out _).mono ?_
    rintro e w3 ⟨rfl, hb⟩
    have HB3 := Lib.hid (below_next HB2.out hb)
    clear hb
    go_wp2_with fail
    refine (HDC.out _).mono ?_
    rintro e w4 ⟨rfl, hb⟩
    have HB4 := Lib.hid (below_next HB3.out hb)
    clear hb
    go_wp2_with fail
    go_ret
    exact ⟨rfl, HB4.out⟩
end Go.Proofs.Ytamjoleknjmpoaa
