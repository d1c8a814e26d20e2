/-
  The walk of the reference's Data.
-/
import Derived.Test.YtkkpfencnjnddaaRefCut
import Derived.Test.YtkkpfencnjnddaaLawParts
namespace Go.Proofs.Ytkkpfencnjnddaa
open Go.RowKit
theorem pre_yes {l : List UInt8} (h : l[0]? = some 46) : Lib.hasPrefix l [46] = true := by
  cases l with
  | nil => cases h
  | cons a t => simp at h; subst h; rfl
theorem pre_no {l : List UInt8} {b : UInt8} (h : l[0]? = some b) (hb : b ≠ 46) : Lib.hasPrefix l [46] = false := by
  cases l with
  | nil => cases h
  | cons a t =>
    simp at h
    subst h
    simp [Lib.hasPrefix, List.isPrefixOf, Ne.symm hb]
theorem pre_nil {l : List UInt8} (h : l.length = 0) : Lib.hasPrefix l [46] = false := by
  rw [List.eq_nil_of_length_eq_zero h]; rfl
/-- What holds in Data's loop. -/
structure RD (ps : List ByteArray) (k : Nat) (bo : List UInt8) (lg : Bool) : Prop where
  body : bo = bodyOf (ps.take k)
  long : lg = (ps.take k).any (fun p => decide ((998 : Int) < p.size))
  plain : (ps.take k).any (fun p => !plainB p.data.toList) = false
theorem RD.more {ps : List ByteArray} {k : Nat} {bo : List UInt8} {lg : Bool} {p : ByteArray} (h : RD ps k bo lg) (hp : ps[k]? = some p) (hl : plainB p.data.toList = true) : RD ps (k + 1) (bo ++ laidOf p.data.toList) (lg || decide ((998 : Int) < p.size)) := by
  obtain ⟨hk, e⟩ := List.getElem?_eq_some_iff.1 hp
  refine ⟨by rw [bodyOf_take hp, h.body], ?_, any_more hp h.plain (by simp [hl])⟩
  rw [List.take_succ_eq_append_getElem hk, e, List.any_append, h.long]
  simp
theorem RD.odd {ps : List ByteArray} {k : Nat} {p : ByteArray} (hp : ps[k]? = some p) (hl : plainB p.data.toList = false) : wrongOf 998 ps = 2 :=
  wrongOf_2 (List.any_eq_true.2 ⟨p, List.mem_of_getElem? hp, by simp [hl]⟩)
theorem RD.all {ps : List ByteArray} {k : Nat} {bo : List UInt8} {lg : Bool} (h : RD ps k bo lg) (hk : ps.length ≤ k) : RD ps ps.length bo lg := by
  obtain ⟨h1, h2, h3⟩ := h
  rw [List.take_of_length_le hk] at h1 h2 h3
  exact ⟨by rw [List.take_length]; exact h1, by rw [List.take_length]; exact h2, by rw [List.take_length]; exact h3⟩
def RDataPost (ps : List ByteArray) (w : World) (e : Ending) (w' : World) : Prop :=
  e = .returned (.tuple #[.string ⟨(if wrongOf 998 ps = 0 then dataOf ps else []).toArray⟩, .int .i64 (wrongOf 998 ps)]) ∧ w = w'
theorem rdata_odd {ps : List ByteArray} {w : World} {k : Nat} {p : ByteArray} (hp : ps[k]? = some p) (hl : plainB p.data.toList = false) : RDataPost ps w (.returned (.tuple #[.string ⟨#[]⟩, .int .i64 2])) w := by
  unfold RDataPost
  rw [RD.odd hp hl]
  exact ⟨rfl, rfl⟩
theorem rdata_long {ps : List ByteArray} {w : World} {bo : List UInt8} (h : RD ps ps.length bo true) : RDataPost ps w (.returned (.tuple #[.string ⟨#[]⟩, .int .i64 3])) w := by
  have e1 := h.plain
  have e2 := h.long.symm
  rw [List.take_length] at e1 e2
  unfold RDataPost
  rw [wrongOf_3 e1 e2]
  exact ⟨rfl, rfl⟩
theorem rdata_ok {ps : List ByteArray} {w : World} {bo : List UInt8} (h : RD ps ps.length bo false) : RDataPost ps w (.returned (.tuple #[.string (mkS bo ++ { data := #[46, 13, 10] }), .int .i64 0])) w := by
  have e1 := h.plain
  have e2 := h.long.symm
  have e3 := h.body
  rw [List.take_length] at e1 e2 e3
  unfold RDataPost
  rw [wrongOf_0 e1 e2, mkS_add, e3]
  exact ⟨rfl, rfl⟩

set_option maxHeartbeats 1000000 in
theorem rdata_x (n c : Nat) (ps : List ByteArray) (A : Option Addr) (w : World) (hs : Strs w A n ps) (hz : (joinB ps).length ≤ 1000000000) (hn : n ≤ 1000000000) :
    Calls Try.prog 17 #[.slice A n c] w (RDataPost ps w) := by
  have hzz : ∀ p ∈ ps, p.size ≤ 1000000000 := fun p hp => by
    obtain ⟨k, hk⟩ := List.getElem?_of_mem hp
    have := (join_le (m := 0) hk).2
    omega
  have hbl := bodyOf_len ps
  rw [hs.1] at hbl
  have HS := Lib.hid hs
  have HZ := Lib.hid hzz
  have HBL := Lib.hid hbl
  clear hs hzz hbl
  go_enter Try.func17, Try.ntmps17
  go_wp2_with fail
  go_loop [4, 5, 6] (fun s l i => ∃ (k : Nat) (bo : List UInt8) (lg : Bool), k ≤ n ∧ i = .int .i64 k ∧ s = .string (mkS bo) ∧ l = .bool lg ∧ Hid (RD ps k bo lg)) (fun _ _ i => n - (intOf i).toNat)
  case atStart => exact ⟨0, [], false, Nat.zero_le _, rfl, rfl, rfl, show RD ps 0 [] false from ⟨rfl, rfl, rfl⟩⟩
  case round =>
    obtain ⟨k, bo, lg, hk, rfl, rfl, rfl, HR⟩ := hrel
    by_cases hlt : k < n
    · obtain ⟨ad, p, rfl, hpk, hab, hcw⟩ := HS.out.cell hlt
      have hps := HZ.out p (List.mem_of_getElem? hpk)
      have HPK := Lib.hid hpk
      have hlen : (mkS bo).size ≤ 4000000000 := by rw [mkS, size_mk, HR.out.body]; have := bodyOf_le ps k; have := HBL.out; omega
      have HPL := Lib.hid (rplain_x p w hps)
      clear hpk
      cases hpl : plainB p.data.toList
      · rw [hpl] at HPL
        have HPB := Lib.hid hpl
        clear hpl
        go_wp2_with fail
        refine HPL.out.mono ?_
        rintro e w' ⟨rfl, rfl⟩
        go_wp2_with fail
        go_ret2
        exact rdata_odd HPK.out HPB.out
      · rw [hpl] at HPL
        have HM := Lib.hid (HR.out.more HPK.out hpl)
        clear hpl
        by_cases h998 : 998 < p.size
        · have d1 : decide ((998 : Int) < (p.size : Int)) = true := decide_eq_true (by omega)
          have HLG := Lib.hid (show RD ps (k + 1) (bo ++ laidOf p.data.toList) true by have := HM.out; rw [d1, Bool.or_true] at this; exact this)
          obtain ⟨x, hx⟩ : ∃ x : UInt8, p[0]'(by omega) = x := ⟨_, rfl⟩
          have HX := Lib.hid (show p.data.toList[0]? = some x by rw [← hx]; exact Lib.data_getElem? p 0 (by omega))
          have dz : decide ((0 : Int) < (p.size : Int)) = true := decide_eq_true (by omega)
          by_cases h4 : x = 46
          · have hb4 : ((x.toNat : Int) == 46) = true := by rw [h4]; rfl
            have HLA := Lib.hid (show laidOf p.data.toList = _ from laidOf_yes (pre_yes (by rw [HX.out, h4])))
            clear h4
            go_wp2_with fail
            refine HPL.out.mono ?_
            rintro e w' ⟨rfl, rfl⟩
            go_wp2_with fail
            go_round
            case rel => exact ⟨k + 1, bo ++ laidOf p.data.toList, true, by omega, by go_num, by rw [HLA.out]; rw [mkS_add, mkS_add, mkS_add]; simp, rfl, HLG.out⟩
            case measure => simp [intOf]; omega
          · have hb4 : ((x.toNat : Int) == 46) = false := Bool.eq_false_iff.2 fun e => h4 ((byte_eq (n := 46) (by decide)).1 e)
            have HLA := Lib.hid (show laidOf p.data.toList = _ from laidOf_no (pre_no HX.out h4))
            clear h4
            go_wp2_with fail
            refine HPL.out.mono ?_
            rintro e w' ⟨rfl, rfl⟩
            go_wp2_with fail
            go_round
            case rel => exact ⟨k + 1, bo ++ laidOf p.data.toList, true, by omega, by go_num, by rw [HLA.out]; rw [mkS_add, mkS_add]; simp, rfl, HLG.out⟩
            case measure => simp [intOf]; omega
        · have d1 : decide ((998 : Int) < (p.size : Int)) = false := decide_eq_false (by omega)
          have HLG := Lib.hid (show RD ps (k + 1) (bo ++ laidOf p.data.toList) lg by have := HM.out; rw [d1, Bool.or_false] at this; exact this)
          by_cases h0 : 0 < p.size
          · obtain ⟨x, hx⟩ : ∃ x : UInt8, p[0]'(by omega) = x := ⟨_, rfl⟩
            have HX := Lib.hid (show p.data.toList[0]? = some x by rw [← hx]; exact Lib.data_getElem? p 0 (by omega))
            have dz : decide ((0 : Int) < (p.size : Int)) = true := decide_eq_true (by omega)
            by_cases h4 : x = 46
            · have hb4 : ((x.toNat : Int) == 46) = true := by rw [h4]; rfl
              have HLA := Lib.hid (show laidOf p.data.toList = _ from laidOf_yes (pre_yes (by rw [HX.out, h4])))
              clear h4
              go_wp2_with fail
              refine HPL.out.mono ?_
              rintro e w' ⟨rfl, rfl⟩
              go_wp2_with fail
              go_round
              case rel => exact ⟨k + 1, bo ++ laidOf p.data.toList, lg, by omega, by go_num, by rw [HLA.out]; rw [mkS_add, mkS_add, mkS_add]; simp, rfl, HLG.out⟩
              case measure => simp [intOf]; omega
            · have hb4 : ((x.toNat : Int) == 46) = false := Bool.eq_false_iff.2 fun e => h4 ((byte_eq (n := 46) (by decide)).1 e)
              have HLA := Lib.hid (show laidOf p.data.toList = _ from laidOf_no (pre_no HX.out h4))
              clear h4
              go_wp2_with fail
              refine HPL.out.mono ?_
              rintro e w' ⟨rfl, rfl⟩
              go_wp2_with fail
              go_round
              case rel => exact ⟨k + 1, bo ++ laidOf p.data.toList, lg, by omega, by go_num, by rw [HLA.out]; rw [mkS_add, mkS_add]; simp, rfl, HLG.out⟩
              case measure => simp [intOf]; omega
          · have dz : decide ((0 : Int) < (p.size : Int)) = false := decide_eq_false (by omega)
            have HLA := Lib.hid (show laidOf p.data.toList = _ from laidOf_no (pre_nil (by rw [← Lib.size_eq]; omega)))
            go_wp2_with fail
            refine HPL.out.mono ?_
            rintro e w' ⟨rfl, rfl⟩
            go_wp2_with fail
            go_round
            case rel => exact ⟨k + 1, bo ++ laidOf p.data.toList, lg, by omega, by go_num, by rw [HLA.out]; rw [mkS_add, mkS_add]; simp, rfl, HLG.out⟩
            case measure => simp [intOf]; omega
    · have HA := Lib.hid (HR.out.all (by rw [HS.out.1]; omega))
      have hlen : (mkS bo).size ≤ 4000000000 := by rw [mkS, size_mk, HR.out.body]; have := bodyOf_le ps k; have := HBL.out; omega
      cases lg
      · go_wp2_with fail
        go_ret2
        exact rdata_ok HA.out
      · go_wp2_with fail
        go_ret2
        exact rdata_long HA.out
end Go.Proofs.Ytkkpfencnjnddaa
