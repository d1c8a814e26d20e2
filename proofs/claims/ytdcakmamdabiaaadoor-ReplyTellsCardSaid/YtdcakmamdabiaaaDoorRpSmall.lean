/-
  The walks of reply's small functions: bytes, classes, numbers, enhanced codes; texts in a row.
-/
import Derived.Test.YtdcakmamdabiaaaDoorRpMath
import Derived.Test.YtdcakmamdabiaaaDoorBase
namespace Go.Proofs.YtdcakmamdabiaaaDoor
set_option maxRecDepth 100000
open Go.RowKit
/-- The world lies as far as the call reads it. -/
theorem dlt1 (a : Nat) (m : Int) (b : Nat) (hm : m = (a : Int)) : decide (m < (b : Int)) = decide (a < b) := by
  rw [hm]
  by_cases h : a < b
  · rw [decide_eq_true h]; exact decide_eq_true (by omega)
  · rw [decide_eq_false h]; exact decide_eq_false (by omega)
theorem pr_bool (x : UInt8) : rpPr x = (decide (32 ≤ x.toNat) && decide (x.toNat ≤ 126)) := rfl
theorem all_take {l : List UInt8} {p : UInt8 → Bool} {k : Nat} {x : UInt8} (hx : l[k]? = some x) (h : (l.take k).all p = true) (hp : p x = true) : (l.take (k + 1)).all p = true := by
  obtain ⟨hk, e⟩ := List.getElem?_eq_some_iff.1 hx
  rw [List.take_succ_eq_append_getElem hk, List.all_append, h, e]
  simp [hp]
theorem all_not {l : List UInt8} {p : UInt8 → Bool} {k : Nat} {x : UInt8} (hx : l[k]? = some x) (hp : p x = false) : l.all p = false := by
  rw [List.all_eq_false]
  exact ⟨x, List.mem_of_getElem? hx, by rw [hp]; exact Bool.false_ne_true⟩
set_option maxHeartbeats 1000000 in
theorem printable_x (l : Txt) (w : World) (hl : l.length ≤ 1000000000000000) :
    Calls Tryd.prog 31 #[.string (mkS l)] w fun e w' => e = .returned (.bool (l.all rpPr)) ∧ w = w' := by
  have hms := mkS_size l
  go_enter Tryd.func31, Tryd.ntmps31
  go_wp2_with fail
  go_loop [6] (fun i => ∃ j : Nat, j ≤ l.length ∧ i = .int .i64 j ∧ Hid ((l.take j).all rpPr = true)) (fun i => l.length - (intOf i).toNat)
  case atStart => exact ⟨0, Nat.zero_le _, rfl, by simp [Hid]⟩
  case round =>
    obtain ⟨j, hj, rfl, HC⟩ := hrel
    by_cases hlt : j < l.length
    · obtain ⟨x, hx⟩ : ∃ x : UInt8, (mkS l)[j]'(by omega) = x := ⟨_, rfl⟩
      have hX : l[j]? = some x := by rw [← hx]; have := Lib.data_getElem? (mkS l) j (by omega); rwa [mkS_data] at this
      by_cases h1 : x.toNat < 32
      · have d1 : decide ((x.toNat : Int) < 32) = true := decide_eq_true (by omega)
        have HN := Lib.hid (all_not (p := rpPr) hX (by rw [pr_bool, decide_eq_false (by omega)]; rfl))
        clear hX h1
        go_wp2_with fail
        go_ret
        exact ⟨ret_bool HN.out.symm, rfl⟩
      · have d1 : decide ((x.toNat : Int) < 32) = false := decide_eq_false (by omega)
        by_cases h2 : 126 < x.toNat
        · have d2 : decide ((126 : Int) < (x.toNat : Int)) = true := decide_eq_true (by omega)
          have HN := Lib.hid (all_not (p := rpPr) hX (by rw [pr_bool, decide_eq_false (p := x.toNat ≤ 126) (by omega), Bool.and_false]))
          clear hX h1 h2
          go_wp2_with fail
          go_ret
          exact ⟨ret_bool HN.out.symm, rfl⟩
        · have d2 : decide ((126 : Int) < (x.toNat : Int)) = false := decide_eq_false (by omega)
          have HN := Lib.hid (all_take (p := rpPr) hX HC.out (by rw [pr_bool, decide_eq_true (p := 32 ≤ x.toNat) (by omega), decide_eq_true (p := x.toNat ≤ 126) (by omega)]; rfl))
          clear hX h1 h2
          go_wp2_with fail
          go_round
          case rel => exact ⟨j + 1, by omega, by go_num, HN⟩
          case measure => simp [intOf]; omega
    · have hc := HC.out
      rw [List.take_of_length_le (by omega)] at hc
      have HE := Lib.hid hc
      clear hc
      go_wp2_with fail
      go_ret
      exact ⟨ret_bool HE.out.symm, rfl⟩
set_option maxHeartbeats 1000000 in
theorem class_x (c : Int) (w : World) : Calls Tryd.prog 15 #[.int .i64 c] w fun e w' => e = .returned (.int .i64 (rpCls c)) ∧ w = w' := by
  have HV := Lib.hid (show rpCls c = if c < 200 then 0 else if 599 < c then 0 else c / 100 from rfl)
  by_cases h1 : c < 200
  · have d1 : decide (c < 200) = true := decide_eq_true h1
    have HN := Lib.hid (show (0 : Int) = rpCls c by rw [HV.out, if_pos h1])
    clear h1
    go_enter Tryd.func15, Tryd.ntmps15
    go_wp2_with fail
    go_ret
    exact ⟨ret_int HN.out, rfl⟩
  · have d1 : decide (c < 200) = false := decide_eq_false h1
    by_cases h2 : 599 < c
    · have d2 : decide (599 < c) = true := decide_eq_true h2
      have HN := Lib.hid (show (0 : Int) = rpCls c by rw [HV.out, if_neg h1, if_pos h2])
      clear h1 h2
      go_enter Tryd.func15, Tryd.ntmps15
      go_wp2_with fail
      go_ret
      exact ⟨ret_int HN.out, rfl⟩
    · have d2 : decide (599 < c) = false := decide_eq_false h2
      have HN := Lib.hid (show c / 100 = rpCls c by rw [HV.out, if_neg h1, if_neg h2])
      have q1 : IntKind.i64.wrap (c.tdiv 100) = c / 100 := IntWalk.i64_quo _ _ (by omega)
      clear h1 h2
      go_enter Tryd.func15, Tryd.ntmps15
      go_wp2_with fail
      go_ret
      exact ⟨ret_int HN.out, rfl⟩
/- Numbers. -/
theorem val_take {l : Txt} {k : Nat} {x : UInt8} (hx : l[k]? = some x) : valX (l.take (k + 1)) = valX (l.take k) * 10 + (x.toNat - 48) := by
  obtain ⟨hk, e⟩ := List.getElem?_eq_some_iff.1 hx
  rw [List.take_succ_eq_append_getElem hk, e, valX_snoc]
theorem val_bd : ∀ (k : Nat) (l : Txt), l.length ≤ k → l.all digB = true → valX l < 10 ^ k
  | 0, l, h, _ => by
    have : l = [] := List.eq_nil_of_length_eq_zero (by omega)
    subst this; decide
  | k + 1, l, h, hd => by
    rcases List.eq_nil_or_concat l with rfl | ⟨a, b, rfl⟩
    · exact Nat.pow_pos (n := k + 1) (show 0 < 10 by decide)
    · rw [List.concat_eq_append] at h hd ⊢
      rw [valX_snoc]
      rw [List.all_append, Bool.and_eq_true] at hd
      have hb := digB_bd (by simpa using hd.2 : digB b = true)
      have := val_bd k a (by simp at h; omega) hd.1
      rw [Nat.pow_succ]
      omega
theorem b48 (b : UInt8) : ((b.toNat : Int) == 48) = (b == 48) := by
  rw [Bool.eq_iff_iff, beq_iff_eq, beq_iff_eq]
  constructor
  · intro h
    exact UInt8.toNat_inj.1 (show b.toNat = 48 by omega)
  · rintro rfl
    rfl
def nmV (l : Txt) : Int := if rpNm l then (valX l : Int) else 0
def NmPost (l : Txt) (w : World) (e : Ending) (w' : World) : Prop := e = .returned (.tuple #[.int .i64 (nmV l), .bool (rpNm l)]) ∧ w = w'
theorem nm_no {l : Txt} {w : World} (h : rpNm l = false) : NmPost l w (.returned (.tuple #[.int .i64 0, .bool false])) w := ⟨by rw [nmV, h]; rfl, rfl⟩
theorem nm_yes {l : Txt} {w : World} (h : rpNm l = true) : NmPost l w (.returned (.tuple #[.int .i64 ((valX l : Nat) : Int), .bool true])) w := ⟨by rw [nmV, h]; rfl, rfl⟩
theorem nm_parts (l : Txt) : rpNm l = (l != [] && decide (l.length ≤ 3) && (l.head? != some 48 || l == [48]) && l.all digB) := rfl
set_option maxHeartbeats 2000000 in
/-- The loop of number. -/
theorem number_x (l : Txt) (w : World) (hl : l.length ≤ 1000000000000000) :
    Calls Tryd.prog 39 #[.string (mkS l)] w (NmPost l w) := by
  have hms := mkS_size l
  have hT := mkS_toList l
  have HV := Lib.hid (nm_parts l)
  by_cases h0 : l = []
  · have HN := Lib.hid (show rpNm l = false by rw [h0]; rfl)
    have he : l.isEmpty = true := by rw [h0]; rfl
    clear h0
    go_enter Tryd.func39, Tryd.ntmps39
    go_wp2_with fail
    go_ret2
    exact nm_no HN.out
  · have he : l.isEmpty = false := by cases l with | nil => exact absurd rfl h0 | cons => rfl
    have hne : (l != []) = true := bne_iff_ne.2 h0
    have h10 : 0 < l.length := List.length_pos_iff.2 h0
    obtain ⟨b, hb⟩ : ∃ b : UInt8, l[0]? = some b := ⟨_, List.getElem?_eq_getElem h10⟩
    by_cases h3 : 3 < l.length
    · have d3 : decide ((3 : Int) < (l.length : Int)) = true := decide_eq_true (by omega)
      have HN := Lib.hid (show rpNm l = false by rw [HV.out, decide_eq_false (show ¬ l.length ≤ 3 by omega)]; simp)
      clear h3 h0 hb hne
      go_enter Tryd.func39, Tryd.ntmps39
      go_wp2_with fail
      go_ret2
      exact nm_no HN.out
    · have d3 : decide ((3 : Int) < (l.length : Int)) = false := decide_eq_false (by omega)
      have hb0 : (mkS l)[0]'(by rw [hms]; exact h10) = b := mkS_get (by rw [hms]; exact h10) hb
      have d4 : ((b.toNat : Int) == 48) = (b == 48) := b48 b
      have hh : (l.head? != some 48) = !(b == 48) := by rw [List.head?_eq_getElem?, hb]; simp [bne]
      rw [hh, hne, decide_eq_true (show l.length ≤ 3 by omega)] at HV
      have hl3 : l.length ≤ 3 := by omega
      clear hh hne h0 h3 hb
      rcases (show ((b == 48) = true ∧ (l == [48]) = false) ∨ ((b == 48) = true ∧ (l == [48]) = true) ∨ (b == 48) = false by cases (b == 48) <;> cases (l == [48]) <;> simp) with ⟨e4, e5⟩ | ⟨e4, e5⟩ | e4
      · rw [e4] at d4
        have HN := Lib.hid (show rpNm l = false by rw [HV.out, e4, e5]; rfl)
        clear e4
        go_enter Tryd.func39, Tryd.ntmps39
        go_wp2_with fail
        go_ret2
        exact nm_no HN.out
      all_goals
        rw [e4] at d4
        have HA := Lib.hid (show rpNm l = l.all digB by rw [HV.out, e4]; (try rw [e5]); simp)
        clear e4
        go_enter Tryd.func39, Tryd.ntmps39
        go_wp2_with fail
        clear d4 hb0
        go_loop [23, 2] (fun i n => ∃ j : Nat, j ≤ l.length ∧ i = .int .i64 j ∧ n = .int .i64 ((valX (l.take j) : Nat) : Int) ∧ Hid ((l.take j).all digB = true)) (fun i _ => l.length - (intOf i).toNat)
        case atStart => exact ⟨0, Nat.zero_le _, rfl, rfl, Lib.hid rfl⟩
        case round =>
          obtain ⟨j, hj, rfl, rfl, HC⟩ := hrel
          by_cases hlt : j < l.length
          · obtain ⟨x, hx⟩ : ∃ x : UInt8, (mkS l)[j]'(by omega) = x := ⟨_, rfl⟩
            have hX : l[j]? = some x := by rw [← hx]; have := Lib.data_getElem? (mkS l) j (by omega); rwa [mkS_data] at this
            by_cases h1 : x.toNat < 48
            · have d1 : decide ((x.toNat : Int) < 48) = true := decide_eq_true (by omega)
              have HN := Lib.hid (show rpNm l = false by rw [HA.out]; exact all_not (p := digB) hX (by rw [digB, decide_eq_false (by omega)]; rfl))
              clear hX h1
              go_wp2_with fail
              go_ret2
              exact nm_no HN.out
            · have d1 : decide ((x.toNat : Int) < 48) = false := decide_eq_false (by omega)
              by_cases h2 : 57 < x.toNat
              · have d2 : decide ((57 : Int) < (x.toNat : Int)) = true := decide_eq_true (by omega)
                have HN := Lib.hid (show rpNm l = false by rw [HA.out]; exact all_not (p := digB) hX (by rw [digB, decide_eq_false (p := x.toNat ≤ 57) (by omega), Bool.and_false]))
                clear hX h1 h2
                go_wp2_with fail
                go_ret2
                exact nm_no HN.out
              · have d2 : decide ((57 : Int) < (x.toNat : Int)) = false := decide_eq_false (by omega)
                have HN := Lib.hid (all_take (p := digB) hX HC.out (by rw [digB, decide_eq_true (p := 48 ≤ x.toNat) (by omega), decide_eq_true (p := x.toNat ≤ 57) (by omega)]; rfl))
                have hv := val_take hX
                have hb := val_bd 3 (l.take j) (by rw [List.length_take]; omega) HC.out
                have c1 : IntKind.u8.wrap ((x.toNat : Int) - 48) = ((x.toNat - 48 : Nat) : Int) := by
                  have := x.toNat_lt
                  rw [IntWalk.u8_in _ (by omega)]; omega
                generalize valX (l.take j) = v at hv hb
                have HVV := Lib.hid hv
                clear hX hv
                have hx9 : x.toNat - 48 ≤ 9 := by omega
                go_wp2_with fail
                go_round
                case rel => exact ⟨j + 1, by omega, by go_num, by rw [HVV.out]; go_num, HN⟩
                case measure => simp [intOf]; omega
          · have hc := HC.out
            rw [List.take_of_length_le (by omega)] at hc
            have HE := Lib.hid (show rpNm l = true by rw [HA.out]; exact hc)
            rw [List.take_of_length_le (show l.length ≤ j by omega)]
            clear hc
            go_wp2_with fail
            go_ret2
            exact nm_yes HE.out
end Go.Proofs.YtdcakmamdabiaaaDoor
