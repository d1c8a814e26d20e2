/-
  The walks of reply's enhanced codes: equality, hasEnhanced, belongs.
-/
import Derived.Test.YtojpkbonioglbaaGreatDoorRpSmall
import Derived.ChangeKeysEq
import Derived.Laws.StructEq
namespace Go.Proofs.YtojpkbonioglbaaGreatDoor.R
set_option maxRecDepth 100000
open Go.RowKit
/-- An enhanced code as a value, and a reply. -/
abbrev EV (e : E3) : Value := .agg #[.int .i64 e.1, .int .i64 e.2.1, .int .i64 e.2.2]
abbrev RV (c : Int) (e : E3) (v : Value) : Value := .agg #[.int .i64 c, .int .i64 e.1, .int .i64 e.2.1, .int .i64 e.2.2, v]
theorem below_box (w : World) (o : Obj) : Below w.heap.size w (w.alloc o) := (Below.refl _ w).alloc (Nat.le_refl _) _
theorem Tryz.eqE (a b c x y z : Int) (w : World) : (Op.equalIn 10000 35 (.agg #[.int .i64 a, .int .i64 b, .int .i64 c]) (.agg #[.int .i64 x, .int .i64 y, .int .i64 z])).run Tryz.prog w = .ok (a == x && b == y && c == z) w := by
  have u3 := Tryz.underlying3
  have a3 := Tryz.isAgg3
  have z3 := Tryz.sizeOf3
  have hc : Tryz.prog.cellsOf 3 = 1 := by kernel_rfl
  obtain ⟨i, hi⟩ : ∃ i, Tryz.prog.info? 3 = some i := Option.isSome_iff_exists.1 (by kernel_rfl)
  rw [show (10000 : Nat) = 9999 + 1 from rfl, run_equalIn_array w 9999 _ _ Tryz.underlying35 hi, hc]
  simp only [show List.range 3 = [0, 1, 2] from rfl, Op.eqItems]
  go_simp
  by_cases h1 : a = x <;> by_cases h2 : b = y <;> by_cases h3 : c = z <;> simp [h1, h2, h3]
theorem eqE3 (a b : E3) (w : World) : (Op.equalIn 10000 35 (EV a) (EV b)).run Tryz.prog w = .ok (a == b) w := by
  rw [Tryz.eqE]
  have : (a == b) = (a.1 == b.1 && a.2.1 == b.2.1 && a.2.2 == b.2.2) := by
    rw [Bool.eq_iff_iff]
    simp only [Bool.and_eq_true, beq_iff_eq]
    constructor
    · rintro rfl; exact ⟨⟨rfl, rfl⟩, rfl⟩
    · rintro ⟨⟨h1, h2⟩, h3⟩; exact Prod.ext h1 (Prod.ext h2 h3)
  rw [this]
theorem has_x (c : Int) (e : E3) (v : Value) (w : World) : Calls Tryz.prog 67 #[RV c e v] w fun x w' => x = .returned (.bool (rpHas e)) ∧ Below w.heap.size w w' := by
  have he : ∀ w, (Op.equalIn 10000 35 (.agg #[.int .i64 e.1, .int .i64 e.2.1, .int .i64 e.2.2]) (.agg #[.int .i64 0, .int .i64 0, .int .i64 0])).run Tryz.prog w = .ok (e == rpE0) w := fun w => eqE3 e rpE0 w
  go_enter Tryz.func67, Tryz.ntmps67
  go_wp2_with fail
  go_ret
  exact ⟨rfl, below_box _ _⟩
theorem in_x (n : Int) (w : World) : Calls Tryz.prog 91 #[.int .i64 n] w fun x w' => x = .returned (.bool (rpIn n)) ∧ w = w' := by
  have HV := Lib.hid (show rpIn n = (decide (0 ≤ n) && decide (n ≤ 999)) from rfl)
  by_cases h1 : 0 ≤ n
  · have d1 : decide (0 ≤ n) = true := decide_eq_true h1
    by_cases h2 : n ≤ 999
    · have d2 : decide (n ≤ 999) = true := decide_eq_true h2
      rw [d1, d2] at HV
      clear h1 h2
      go_enter Tryz.func91, Tryz.ntmps91
      go_wp2_with fail
      go_ret
      exact ⟨ret_bool HV.out.symm, rfl⟩
    · have d2 : decide (n ≤ 999) = false := decide_eq_false h2
      rw [d1, d2] at HV
      clear h1 h2
      go_enter Tryz.func91, Tryz.ntmps91
      go_wp2_with fail
      go_ret
      exact ⟨ret_bool HV.out.symm, rfl⟩
  · have d1 : decide (0 ≤ n) = false := decide_eq_false h1
    rw [d1] at HV
    clear h1
    go_enter Tryz.func91, Tryz.ntmps91
    go_wp2_with fail
    go_ret
    exact ⟨ret_bool HV.out.symm, rfl⟩
set_option maxHeartbeats 2000000 in
theorem bel_x (e : E3) (code : Int) (w : World) : Calls Tryz.prog 68 #[EV e, .int .i64 code] w fun x w' => x = .returned (.bool (rpBel e code)) ∧ Below w.heap.size w w' := by
  have HV := Lib.hid (show rpBel e code = ((rpCls code == 2 || rpCls code == 4 || rpCls code == 5) && e.1 == rpCls code && rpIn e.2.1 && rpIn e.2.2) from rfl)
  have HC := Lib.hid (fun w => class_x code w)
  have H1 := Lib.hid (fun w => in_x e.2.1 w)
  have H2 := Lib.hid (fun w => in_x e.2.2 w)
  have HB := Lib.hid (below_box w (.cells #[.int .i64 e.1, .int .i64 e.2.1, .int .i64 e.2.2] 35))
  obtain ⟨a, b, c⟩ := e
  simp only at HV H1 H2 HB ⊢
  generalize rpCls code = k at HV HC
  generalize rpIn b = i1 at HV H1
  generalize rpIn c = i2 at HV H2
  generalize d2 : (k == 2) = q2 at HV
  generalize d4 : (k == 4) = q4 at HV
  generalize d5 : (k == 5) = q5 at HV
  generalize d0 : (a == k) = q0 at HV
  cases q2 <;> cases q4 <;> cases q5 <;> try (exfalso; simp only [beq_iff_eq] at d2 d4 d5; omega)
  case false.false.false =>
    go_enter Tryz.func68, Tryz.ntmps68
    go_wp2_with (go_at_call 66; refine (HC.out _).mono ?_; rintro e w' ⟨rfl, rfl⟩)
    go_ret
    exact ⟨ret_bool HV.out.symm, HB.out⟩
  all_goals
    cases q0
    · go_enter Tryz.func68, Tryz.ntmps68
      go_wp2_with (go_at_call 66; refine (HC.out _).mono ?_; rintro e w' ⟨rfl, rfl⟩)
      go_ret
      exact ⟨ret_bool HV.out.symm, HB.out⟩
    · cases i1
      · go_enter Tryz.func68, Tryz.ntmps68
        go_wp2_with (first | (go_at_call 66; refine (HC.out _).mono ?_; rintro e w' ⟨rfl, rfl⟩) | (go_at_call 91; (with_reducible refine (H1.out _).mono ?_); rintro e w' ⟨rfl, rfl⟩))
        go_ret
        exact ⟨ret_bool HV.out.symm, HB.out⟩
      · cases i2 <;>
        · go_enter Tryz.func68, Tryz.ntmps68
          go_wp2_with (first | (go_at_call 66; refine (HC.out _).mono ?_; rintro e w' ⟨rfl, rfl⟩) | (go_at_call 91; (with_reducible refine (H1.out _).mono ?_); rintro e w' ⟨rfl, rfl⟩) | (go_at_call 91; (with_reducible refine (H2.out _).mono ?_); rintro e w' ⟨rfl, rfl⟩))
          go_ret
          exact ⟨ret_bool HV.out.symm, HB.out⟩
end Go.Proofs.YtojpkbonioglbaaGreatDoor.R
