/-
  The walks of reply's small functions: bytes, classes, numbers, enhanced codes; texts in a row.
-/
import Derived.Test.YtojpkbonioglbaaGreatDoorRpMath
import Derived.Test.YtojpkbonioglbaaGreatDoorMaBuild
namespace Go.Proofs.YtojpkbonioglbaaGreatDoor.R
set_option maxRecDepth 100000
open Go.RowKit
/-- The world lies as far as the call reads it. -/
theorem dlt1 (a : Nat) (m : Int) (b : Nat) (hm : m = (a : Int)) : decide (m < (b : Int)) = decide (a < b) := by
  rw [hm]
  by_cases h : a < b
  · rw [decide_eq_true h]; exact decide_eq_true (by omega)
  · rw [decide_eq_false h]; exact decide_eq_false (by omega)
theorem pr_bool (x : UInt8) : rpPr x = (decide (32 ≤ x.toNat) && decide (x.toNat ≤ 126)) := rfl
theorem all_take {l : List UInt8} {p : UInt8 → Bool} {k : Nat} {x : UInt8} (hx : l[k]? = some x) (h : (l.take k).all p = true) (hp : p x = true) : (l.take (k + 1)).all p = true := by
  obtain ⟨hk, e⟩ := List.getElem?_eq_some_iff.1 hx
  rw [List.take_succ_eq_append_getElem hk, List.all_append, h, e]
  simp [hp]
theorem all_not {l : List UInt8} {p : UInt8 → Bool} {k : Nat} {x : UInt8} (hx : l[k]? = some x) (hp : p x = false) : l.all p = false := by
  rw [List.all_eq_false]
  exact ⟨x, List.mem_of_getElem? hx, by rw [hp]; exact Bool.false_ne_true⟩
set_option maxHeartbeats 1000000 in
theorem printable_x (l : Txt) (w : World) (hl : l.length ≤ 1000000000000000) :
    Calls Tryz.prog 64 #[.string (mkS l)] w fun e w' => e = .returned (.bool (l.all rpPr)) ∧ w = w' := by
  have hms := mkS_size l
  go_enter Tryz.func64, Tryz.ntmps64
  go_wp2_with fail
  go_loop [6] (fun i => ∃ j : Nat, j ≤ l.length ∧ i = .int .i64 j ∧ Hid ((l.take j).all rpPr = true)) (fun i => l.length - (intOf i).toNat)
  case atStart => exact ⟨0, Nat.zero_le _, rfl, by simp [Hid]⟩
  case round =>
    obtain ⟨j, hj, rfl, HC⟩ := hrel
    by_cases hlt : j < l.length
    · obtain ⟨x, hx⟩ : ∃ x : UInt8, (mkS l)[j]'(by omega) = x := ⟨_, rfl⟩
      have hX : l[j]? = some x := by rw [← hx]; have := Lib.data_getElem? (mkS l) j (by omega); rwa [mkS_data] at this
      by_cases h1 : x.toNat < 32
      · have d1 : decide ((x.toNat : Int) < 32) = true := decide_eq_true (by omega)
        have HN := Lib.hid (all_not (p := rpPr) hX (by rw [pr_bool, decide_eq_false (by omega)]; rfl))
        clear hX h1
        go_wp2_with fail
        go_ret
        exact ⟨ret_bool HN.out.symm, rfl⟩
      · have d1 : decide ((x.toNat : Int) < 32) = false := decide_eq_false (by omega)
        by_cases h2 : 126 < x.toNat
        · have d2 : decide ((126 : Int) < (x.toNat : Int)) = true := decide_eq_true (by omega)
          have HN := Lib.hid (all_not (p := rpPr) hX (by rw [pr_bool, decide_eq_false (p := x.toNat ≤ 126) (by omega), Bool.and_false]))
          clear hX h1 h2
          go_wp2_with fail
          go_ret
          exact ⟨ret_bool HN.out.symm, rfl⟩
        · have d2 : decide ((126 : Int) < (x.toNat : Int)) = false := decide_eq_false (by omega)
          have HN := Lib.hid (all_take (p := rpPr) hX HC.out (by rw [pr_bool, decide_eq_true (p := 32 ≤ x.toNat) (by omega), decide_eq_true (p := x.toNat ≤ 126) (by omega)]; rfl))
          clear hX h1 h2
          go_wp2_with fail
          go_round
          case rel => exact ⟨j + 1, by omega, by go_num, HN⟩
          case measure => simp [intOf]; omega
    · have hc := HC.out
      rw [List.take_of_length_le (by omega)] at hc
      have HE := Lib.hid hc
      clear hc
      go_wp2_with fail
      go_ret
      exact ⟨ret_bool HE.out.symm, rfl⟩
set_option maxHeartbeats 1000000 in
theorem class_x (c : Int) (w : World) : Calls Tryz.prog 66 #[.int .i64 c] w fun e w' => e = .returned (.int .i64 (rpCls c)) ∧ w = w' := by
  have HV := Lib.hid (show rpCls c = if c < 200 then 0 else if 599 < c then 0 else c / 100 from rfl)
  by_cases h1 : c < 200
  · have d1 : decide (c < 200) = true := decide_eq_true h1
    have HN := Lib.hid (show (0 : Int) = rpCls c by rw [HV.out, if_pos h1])
    clear h1
    go_enter Tryz.func66, Tryz.ntmps66
    go_wp2_with fail
    go_ret
    exact ⟨ret_int HN.out, rfl⟩
  · have d1 : decide (c < 200) = false := decide_eq_false h1
    by_cases h2 : 599 < c
    · have d2 : decide (599 < c) = true := decide_eq_true h2
      have HN := Lib.hid (show (0 : Int) = rpCls c by rw [HV.out, if_neg h1, if_pos h2])
      clear h1 h2
      go_enter Tryz.func66, Tryz.ntmps66
      go_wp2_with fail
      go_ret
      exact ⟨ret_int HN.out, rfl⟩
    · have d2 : decide (599 < c) = false := decide_eq_false h2
      have HN := Lib.hid (show c / 100 = rpCls c by rw [HV.out, if_neg h1, if_neg h2])
      have q1 : IntKind.i64.wrap (c.tdiv 100) = c / 100 := IntWalk.i64_quo _ _ (by omega)
      clear h1 h2
      go_enter Tryz.func66, Tryz.ntmps66
      go_wp2_with fail
      go_ret
      exact ⟨ret_int HN.out, rfl⟩
/- Numbers. -/
theorem val_take {l : Txt} {k : Nat} {x : UInt8} (hx : l[k]? = some x) : valX (l.take (k + 1)) = valX (l.take k) * 10 + (x.toNat - 48) := by
  obtain ⟨hk, e⟩ := List.getElem?_eq_some_iff.1 hx
  rw [List.take_succ_eq_append_getElem hk, e, valX_snoc]
theorem val_bd : ∀ (k : Nat) (l : Txt), l.length ≤ k → l.all digB = true → valX l < 10 ^ k
  | 0, l, h, _ => by
    have : l = [] := List.eq_nil_of_length_eq_zero (by omega)
    subst this; decide
  | k + 1, l, h, hd => by
    rcases List.eq_nil_or_concat l with rfl | ⟨a, b, rfl⟩
    · exact Nat.pow_pos (n := k + 1) (show 0 < 10 by decide)
    · rw [List.concat_eq_append] at h hd ⊢
      rw [valX_snoc]
      rw [List.all_append, Bool.and_eq_true] at hd
      have hb := digB_bd (by simpa using hd.2 : digB b = true)
      have := val_bd k a (by simp at h; omega) hd.1
      rw [Nat.pow_succ]
      omega
theorem b48 (b : UInt8) : ((b.toNat : Int) == 48) = (b == 48) := by
  rw [Bool.eq_iff_iff, beq_iff_eq, beq_iff_eq]
  constructor
  · intro h
    exact UInt8.toNat_inj.1 (show b.toNat = 48 by omega)
  · rintro rfl
    rfl
def nmV (l : Txt) : Int := if rpNm l then (valX l : Int) else 0
def NmPost (l : Txt) (w : World) (e : Ending) (w' : World) : Prop := e = .returned (.tuple #[.int .i64 (nmV l), .bool (rpNm l)]) ∧ w = w'
theorem nm_no {l : Txt} {w : World} (h : rpNm l = false) : NmPost l w (.returned (.tuple #[.int .i64 0, .bool false])) w := ⟨by rw [nmV, h]; rfl, rfl⟩
theorem nm_yes {l : Txt} {w : World} (h : rpNm l = true) : NmPost l w (.returned (.tuple #[.int .i64 ((valX l : Nat) : Int), .bool true])) w := ⟨by rw [nmV, h]; rfl, rfl⟩
theorem nm_parts (l : Txt) : rpNm l = (l != [] && decide (l.length ≤ 3) && (l.head? != some 48 || l == [48]) && l.all digB) := rfl
end Go.Proofs.YtojpkbonioglbaaGreatDoor.R
