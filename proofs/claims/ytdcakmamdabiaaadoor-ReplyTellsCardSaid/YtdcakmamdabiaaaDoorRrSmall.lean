/-
  The walks of the reference's small functions: Class, none, fits, shown.
-/
import Derived.Test.YtdcakmamdabiaaaDoorRrMath
import Derived.Test.YtdcakmamdabiaaaDoorRpEnh
namespace Go.Proofs.YtdcakmamdabiaaaDoor
set_option maxRecDepth 100000
open Go.RowKit
set_option maxHeartbeats 1000000 in
theorem rclass_x (c : Int) (w : World) : Calls Tryd.prog 16 #[.int .i64 c] w fun e w' => e = .returned (.int .i64 (rpCls c)) ∧ w = w' := by
  have HV := Lib.hid (show rpCls c = if c < 200 then 0 else if 599 < c then 0 else c / 100 from rfl)
  by_cases h1 : c < 200
  · have d1 : decide (c < 200) = true := decide_eq_true h1
    have HN := Lib.hid (show (0 : Int) = rpCls c by rw [HV.out, if_pos h1])
    clear h1
    go_enter Tryd.func16, Tryd.ntmps16
    go_wp2_with fail
    go_ret
    exact ⟨ret_int HN.out, rfl⟩
  · have d1 : decide (c < 200) = false := decide_eq_false h1
    by_cases h2 : 600 ≤ c
    · have d2 : decide (600 ≤ c) = true := decide_eq_true h2
      have HN := Lib.hid (show (0 : Int) = rpCls c by rw [HV.out, if_neg h1, if_pos (by omega)])
      clear h1 h2
      go_enter Tryd.func16, Tryd.ntmps16
      go_wp2_with fail
      go_ret
      exact ⟨ret_int HN.out, rfl⟩
    · have d2 : decide (600 ≤ c) = false := decide_eq_false h2
      have HN := Lib.hid (show c / 100 = rpCls c by rw [HV.out, if_neg h1, if_neg (by omega)])
      have q1 : IntKind.i64.wrap (c.tdiv 100) = c / 100 := IntWalk.i64_quo _ _ (by omega)
      clear h1 h2
      go_enter Tryd.func16, Tryd.ntmps16
      go_wp2_with fail
      go_ret
      exact ⟨ret_int HN.out, rfl⟩
theorem has_parts (e : E3) : (!rpHas e) = (e.1 == 0 && (e.2.1 == 0 && e.2.2 == 0)) := by
  unfold rpHas rpE0
  rw [Bool.not_not, Bool.eq_iff_iff]
  simp only [Bool.and_eq_true, beq_iff_eq]
  constructor
  · rintro rfl; exact ⟨rfl, rfl, rfl⟩
  · rintro ⟨h1, h2, h3⟩; exact Prod.ext h1 (Prod.ext h2 h3)
set_option maxHeartbeats 1000000 in
theorem rnone_x (e : E3) (w : World) : Calls Tryd.prog 43 #[EV e] w fun x w' => x = .returned (.bool (!rpHas e)) ∧ Below w.heap.size w w' := by
  have HV := Lib.hid (has_parts e)
  have HB := Lib.hid (below_box w (.cells #[.int .i64 e.1, .int .i64 e.2.1, .int .i64 e.2.2] 23))
  obtain ⟨a, b, c⟩ := e
  simp only at HV HB ⊢
  generalize d0 : (a == 0) = q0 at HV
  generalize d1 : (b == 0) = q1 at HV
  generalize d2 : (c == 0) = q2 at HV
  cases q0
  case false =>
    go_enter Tryd.func43, Tryd.ntmps43
    go_wp2_with fail
    go_ret
    exact ⟨ret_bool HV.out.symm, HB.out⟩
  case true =>
    cases q1
    case false =>
      go_enter Tryd.func43, Tryd.ntmps43
      go_wp2_with fail
      go_ret
      exact ⟨ret_bool HV.out.symm, HB.out⟩
    case true =>
      cases q2
      all_goals
        go_enter Tryd.func43, Tryd.ntmps43
        go_wp2_with fail
        go_ret
        exact ⟨ret_bool HV.out.symm, HB.out⟩
set_option maxHeartbeats 1000000 in
theorem shown_x (l : Txt) (w : World) (hl : l.length ≤ 1000000000000000) :
    Calls Tryd.prog 23 #[.string (mkS l)] w fun e w' => e = .returned (.bool (l.all rpPr)) ∧ w = w' := by
  have hms := mkS_size l
  go_enter Tryd.func23, Tryd.ntmps23
  go_wp2_with fail
  go_loop [3] (fun i => ∃ j : Nat, j ≤ l.length ∧ i = .int .i64 j ∧ Hid ((l.take j).all rpPr = true)) (fun i => l.length - (intOf i).toNat)
  case atStart => exact ⟨0, Nat.zero_le _, rfl, by simp [Hid]⟩
  case round =>
    obtain ⟨j, hj, rfl, HC⟩ := hrel
    by_cases hlt : j < l.length
    · obtain ⟨x, hx⟩ : ∃ x : UInt8, (mkS l)[j]'(by omega) = x := ⟨_, rfl⟩
      have hX : l[j]? = some x := by rw [← hx]; have := Lib.data_getElem? (mkS l) j (by omega); rwa [mkS_data] at this
      by_cases h1 : x.toNat < 32
      · have d1 : decide ((x.toNat : Int) < 32) = true := decide_eq_true (by omega)
        have HN := Lib.hid (all_not (p := rpPr) hX (by rw [pr_bool, decide_eq_false (by omega)]; rfl))
        clear hX h1
        go_wp2_with fail
        go_ret
        exact ⟨ret_bool HN.out.symm, rfl⟩
      · have d1 : decide ((x.toNat : Int) < 32) = false := decide_eq_false (by omega)
        by_cases h2 : 126 < x.toNat
        · have d2 : decide ((126 : Int) < (x.toNat : Int)) = true := decide_eq_true (by omega)
          have HN := Lib.hid (all_not (p := rpPr) hX (by rw [pr_bool, decide_eq_false (p := x.toNat ≤ 126) (by omega), Bool.and_false]))
          clear hX h1 h2
          go_wp2_with fail
          go_ret
          exact ⟨ret_bool HN.out.symm, rfl⟩
        · have d2 : decide ((126 : Int) < (x.toNat : Int)) = false := decide_eq_false (by omega)
          have HN := Lib.hid (all_take (p := rpPr) hX HC.out (by rw [pr_bool, decide_eq_true (p := 32 ≤ x.toNat) (by omega), decide_eq_true (p := x.toNat ≤ 126) (by omega)]; rfl))
          clear hX h1 h2
          go_wp2_with fail
          go_round
          case rel => exact ⟨j + 1, by omega, by go_num, HN⟩
          case measure => simp [intOf]; omega
    · have hc := HC.out
      rw [List.take_of_length_le (by omega)] at hc
      have HE := Lib.hid hc
      clear hc
      go_wp2_with fail
      go_ret
      exact ⟨ret_bool HE.out.symm, rfl⟩
theorem region_inr {P : Program} {id : Nat} {Q : Exit → Act → World → Prop} {a : Act} {w : World} {l : List Oper} (hm : P.follows .mixedOrders = true) (hB : Region.lexB .any l.toArray = true) {Y : Type} (F : Y → World) (y0 : Y) (hy : F y0 = w.drew)
  (h : wpQuiet P l.toArray (fun w' => ∃ y, w' = F y) (fun a' => ∀ w', (∃ y, w' = F y) → Q .normal a' w') l a) : (Code.region id l.toArray true).wp P Q a w :=
  wp_region_quiet (C := fun w' => ∃ y, w' = F y) hm hB ⟨y0, hy.symm⟩ (by simpa using h)
/-- What fits, in the order of its tests. -/
theorem fit_parts (c : Int) (e : E3) (h : rpHas e = true) : rpFit c e = ((e.1 == 2 || e.1 == 4 || e.1 == 5) && e.1 == rpCls c && decide (0 ≤ e.2.1) && decide (e.2.1 < 1000) && decide (0 ≤ e.2.2) && decide (e.2.2 < 1000)) := by
  have hd : ∀ x : Int, decide (x ≤ 999) = decide (x < 1000) := fun x => by
    by_cases h : x < 1000
    · rw [decide_eq_true h]; exact decide_eq_true (by omega)
    · rw [decide_eq_false h]; exact decide_eq_false (by omega)
  unfold rpFit rpBel rpIn
  rw [h, hd, hd]
  by_cases hc : e.1 = rpCls c
  · rw [hc]; simp [Bool.and_assoc]
  · rw [beq_eq_false_iff_ne.2 hc]; simp
end Go.Proofs.YtdcakmamdabiaaaDoor
