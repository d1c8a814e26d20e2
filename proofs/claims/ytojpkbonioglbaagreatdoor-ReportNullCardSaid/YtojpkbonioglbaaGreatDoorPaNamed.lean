/-
  The walks of param's named, unsaid and ranged.
-/
import Derived.Test.YtojpkbonioglbaaGreatDoorMaPaO
namespace Go.Proofs.YtojpkbonioglbaaGreatDoor
set_option maxRecDepth 100000
open Go.RowKit
theorem left_x (b : Bool) (n : Int) (w : World) : Calls Tryz.prog 202 #[.bool b, .int .i64 n] w fun e w' => e = .returned (.int .i64 (if b then 0 else n)) ∧ w = w' := by
  cases b <;>
  · go_enter Tryz.func202, Tryz.ntmps202
    go_wp2_with fail
    go_ret
    exact ⟨rfl, rfl⟩
theorem rightn_x (b : Bool) (n x y : Int) (w : World) : Calls Tryz.prog 203 #[.bool b, .int .i64 n, .int .i64 x, .int .i64 y] w fun e w' => e = .returned (.bool (inB b n x y)) ∧ w = w' := by
  have HW := Lib.hid (fun w => within_x n x y w)
  have HV := Lib.hid (show inB b n x y = (!b || (decide (x ≤ n) && decide (n ≤ y))) from rfl)
  generalize (decide (x ≤ n) && decide (n ≤ y)) = q at HW HV
  cases b
  · go_enter Tryz.func203, Tryz.ntmps203
    go_wp2_with fail
    go_ret
    exact ⟨ret_bool (by rw [HV.out]; rfl), rfl⟩
  · go_enter Tryz.func203, Tryz.ntmps203
    go_wp2_with fail
    refine (HW.out _).mono ?_
    rintro e w' ⟨rfl, rfl⟩
    go_wp2_with fail
    go_ret
    exact ⟨ret_bool (by rw [HV.out]; rfl), rfl⟩
def eqML (a b : ML) : Bool := (a.hs == b.hs && a.hf == b.hf && a.hu == b.hu && a.hb == b.hb && a.hp == b.hp) && a.sz == b.sz && a.fo == b.fo && a.un == b.un && a.by_ == b.by_ && a.pr == b.pr && a.body == b.body && a.ret == b.ret && a.env == b.env && a.mode == b.mode
theorem eqML_iff {a b : ML} : eqML a b = true ↔ a = b := by
  obtain ⟨a1, a2, a3, a4, a5, a6, a7, a8, a9, a10, a11, a12, a13, a14⟩ := a
  obtain ⟨b1, b2, b3, b4, b5, b6, b7, b8, b9, b10, b11, b12, b13, b14⟩ := b
  simp [eqML, and_assoc]
set_option maxHeartbeats 8000000 in
theorem named_x (m : ML) (w : World) : Calls Tryz.prog 182 #[.agg #[.bool m.hs, .bool m.hf, .bool m.hu, .bool m.hb, .bool m.hp, .int .i64 m.sz, .int .i64 m.fo, .int .i64 m.un, .int .i64 m.by_, .int .i64 m.pr, .string (mkS m.body), .string (mkS m.ret), .string (mkS m.env), .string (mkS m.mode)]] w fun e w' => e = .returned (.bool (namedB m)) ∧ Below w.heap.size w w' := by
  have HV := Lib.hid (show namedB m = ((m.body == [] || isBody m.body) && (m.ret == [] || isRet m.ret) && ((m.hb && isMode m.mode) || (!m.hb && m.mode == []))) from rfl)
  have H1 := Lib.hid (fun w => isBody_x m.body w)
  have H2 := Lib.hid (fun w => isRet_x m.ret w)
  have H3 := Lib.hid (fun w => isMode_x m.mode w)
  have t1 := mkS_toList m.body
  have t2 := mkS_toList m.ret
  have t3 := mkS_toList m.mode
  have d1 : m.body.isEmpty = (m.body == []) := by cases m.body <;> rfl
  have d2 : m.ret.isEmpty = (m.ret == []) := by cases m.ret <;> rfl
  have d3 : m.mode.isEmpty = (m.mode == []) := by cases m.mode <;> rfl
  generalize (m.body == []) = b1 at d1 HV
  generalize isBody m.body = b2 at H1 HV
  generalize (m.ret == []) = c1 at d2 HV
  generalize isRet m.ret = c2 at H2 HV
  generalize isMode m.mode = e1 at H3 HV
  generalize (m.mode == []) = e2 at d3 HV
  obtain ⟨hb, hhb⟩ : ∃ hb, m.hb = hb := ⟨_, rfl⟩
  rw [hhb] at HV
  have HB3 : b1 = true ∨ (b1 = false ∧ b2 = true) ∨ (b1 = false ∧ b2 = false) := by cases b1 <;> cases b2 <;> simp
  have HC3 : c1 = true ∨ (c1 = false ∧ c2 = true) ∨ (c1 = false ∧ c2 = false) := by cases c1 <;> cases c2 <;> simp
  rcases HB3 with rfl | ⟨rfl, rfl⟩ | ⟨rfl, rfl⟩
  · rcases HC3 with rfl | ⟨rfl, rfl⟩ | ⟨rfl, rfl⟩
    · cases hb
      · cases e2
        · go_enter Tryz.func182, Tryz.ntmps182
          go_wp2_with (first | (go_at_call 199; refine (H1.out _).mono ?_; rintro e w' ⟨rfl, rfl⟩) | (go_at_call 200; refine (H2.out _).mono ?_; rintro e w' ⟨rfl, rfl⟩) | (go_at_call 201; refine (H3.out _).mono ?_; rintro e w' ⟨rfl, rfl⟩))
          go_ret
          exact ⟨ret_bool (by rw [HV.out]; simp), (Below.refl _ w).alloc (Nat.le_refl _) _⟩
        · go_enter Tryz.func182, Tryz.ntmps182
          go_wp2_with (first | (go_at_call 199; refine (H1.out _).mono ?_; rintro e w' ⟨rfl, rfl⟩) | (go_at_call 200; refine (H2.out _).mono ?_; rintro e w' ⟨rfl, rfl⟩) | (go_at_call 201; refine (H3.out _).mono ?_; rintro e w' ⟨rfl, rfl⟩))
          go_ret
          exact ⟨ret_bool (by rw [HV.out]; simp), (Below.refl _ w).alloc (Nat.le_refl _) _⟩
      · cases e1
        · go_enter Tryz.func182, Tryz.ntmps182
          go_wp2_with (first | (go_at_call 199; refine (H1.out _).mono ?_; rintro e w' ⟨rfl, rfl⟩) | (go_at_call 200; refine (H2.out _).mono ?_; rintro e w' ⟨rfl, rfl⟩) | (go_at_call 201; refine (H3.out _).mono ?_; rintro e w' ⟨rfl, rfl⟩))
          go_ret
          exact ⟨ret_bool (by rw [HV.out]; simp), (Below.refl _ w).alloc (Nat.le_refl _) _⟩
        · go_enter Tryz.func182, Tryz.ntmps182
          go_wp2_with (first | (go_at_call 199; refine (H1.out _).mono ?_; rintro e w' ⟨rfl, rfl⟩) | (go_at_call 200; refine (H2.out _).mono ?_; rintro e w' ⟨rfl, rfl⟩) | (go_at_call 201; refine (H3.out _).mono ?_; rintro e w' ⟨rfl, rfl⟩))
          go_ret
          exact ⟨ret_bool (by rw [HV.out]; simp), (Below.refl _ w).alloc (Nat.le_refl _) _⟩
    · cases hb
      · cases e2
        · go_enter Tryz.func182, Tryz.ntmps182
          go_wp2_with (first | (go_at_call 199; refine (H1.out _).mono ?_; rintro e w' ⟨rfl, rfl⟩) | (go_at_call 200; refine (H2.out _).mono ?_; rintro e w' ⟨rfl, rfl⟩) | (go_at_call 201; refine (H3.out _).mono ?_; rintro e w' ⟨rfl, rfl⟩))
          go_ret
          exact ⟨ret_bool (by rw [HV.out]; simp), (Below.refl _ w).alloc (Nat.le_refl _) _⟩
        · go_enter Tryz.func182, Tryz.ntmps182
          go_wp2_with (first | (go_at_call 199; refine (H1.out _).mono ?_; rintro e w' ⟨rfl, rfl⟩) | (go_at_call 200; refine (H2.out _).mono ?_; rintro e w' ⟨rfl, rfl⟩) | (go_at_call 201; refine (H3.out _).mono ?_; rintro e w' ⟨rfl, rfl⟩))
          go_ret
          exact ⟨ret_bool (by rw [HV.out]; simp), (Below.refl _ w).alloc (Nat.le_refl _) _⟩
      · cases e1
        · go_enter Tryz.func182, Tryz.ntmps182
          go_wp2_with (first | (go_at_call 199; refine (H1.out _).mono ?_; rintro e w' ⟨rfl, rfl⟩) | (go_at_call 200; refine (H2.out _).mono ?_; rintro e w' ⟨rfl, rfl⟩) | (go_at_call 201; refine (H3.out _).mono ?_; rintro e w' ⟨rfl, rfl⟩))
          go_ret
          exact ⟨ret_bool (by rw [HV.out]; simp), (Below.refl _ w).alloc (Nat.le_refl _) _⟩
        · go_enter Tryz.func182, Tryz.ntmps182
          go_wp2_with (first | (go_at_call 199; refine (H1.out _).mono ?_; rintro e w' ⟨rfl, rfl⟩) | (go_at_call 200; refine (H2.out _).mono ?_; rintro e w' ⟨rfl, rfl⟩) | (go_at_call 201; refine (H3.out _).mono ?_; rintro e w' ⟨rfl, rfl⟩))
          go_ret
          exact ⟨ret_bool (by rw [HV.out]; simp), (Below.refl _ w).alloc (Nat.le_refl _) _⟩
    · go_enter Tryz.func182, Tryz.ntmps182
      go_wp2_with (first | (go_at_call 199; refine (H1.out _).mono ?_; rintro e w' ⟨rfl, rfl⟩) | (go_at_call 200; refine (H2.out _).mono ?_; rintro e w' ⟨rfl, rfl⟩) | (go_at_call 201; refine (H3.out _).mono ?_; rintro e w' ⟨rfl, rfl⟩))
      go_ret
      exact ⟨ret_bool (by rw [HV.out]; simp), (Below.refl _ w).alloc (Nat.le_refl _) _⟩
  · rcases HC3 with rfl | ⟨rfl, rfl⟩ | ⟨rfl, rfl⟩
    · cases hb
      · cases e2
        · go_enter Tryz.func182, Tryz.ntmps182
          go_wp2_with (first | (go_at_call 199; refine (H1.out _).mono ?_; rintro e w' ⟨rfl, rfl⟩) | (go_at_call 200; refine (H2.out _).mono ?_; rintro e w' ⟨rfl, rfl⟩) | (go_at_call 201; refine (H3.out _).mono ?_; rintro e w' ⟨rfl, rfl⟩))
          go_ret
          exact ⟨ret_bool (by rw [HV.out]; simp), (Below.refl _ w).alloc (Nat.le_refl _) _⟩
        · go_enter Tryz.func182, Tryz.ntmps182
          go_wp2_with (first | (go_at_call 199; refine (H1.out _).mono ?_; rintro e w' ⟨rfl, rfl⟩) | (go_at_call 200; refine (H2.out _).mono ?_; rintro e w' ⟨rfl, rfl⟩) | (go_at_call 201; refine (H3.out _).mono ?_; rintro e w' ⟨rfl, rfl⟩))
          go_ret
          exact ⟨ret_bool (by rw [HV.out]; simp), (Below.refl _ w).alloc (Nat.le_refl _) _⟩
      · cases e1
        · go_enter Tryz.func182, Tryz.ntmps182
          go_wp2_with (first | (go_at_call 199; refine (H1.out _).mono ?_; rintro e w' ⟨rfl, rfl⟩) | (go_at_call 200; refine (H2.out _).mono ?_; rintro e w' ⟨rfl, rfl⟩) | (go_at_call 201; refine (H3.out _).mono ?_; rintro e w' ⟨rfl, rfl⟩))
          go_ret
          exact ⟨ret_bool (by rw [HV.out]; simp), (Below.refl _ w).alloc (Nat.le_refl _) _⟩
        · go_enter Tryz.func182, Tryz.ntmps182
          go_wp2_with (first | (go_at_call 199; refine (H1.out _).mono ?_; rintro e w' ⟨rfl, rfl⟩) | (go_at_call 200; refine (H2.out _).mono ?_; rintro e w' ⟨rfl, rfl⟩) | (go_at_call 201; refine (H3.out _).mono ?_; rintro e w' ⟨rfl, rfl⟩))
          go_ret
          exact ⟨ret_bool (by rw [HV.out]; simp), (Below.refl _ w).alloc (Nat.le_refl _) _⟩
    · cases hb
      · cases e2
        · go_enter Tryz.func182, Tryz.ntmps182
          go_wp2_with (first | (go_at_call 199; refine (H1.out _).mono ?_; rintro e w' ⟨rfl, rfl⟩) | (go_at_call 200; refine (H2.out _).mono ?_; rintro e w' ⟨rfl, rfl⟩) | (go_at_call 201; refine (H3.out _).mono ?_; rintro e w' ⟨rfl, rfl⟩))
          go_ret
          exact ⟨ret_bool (by rw [HV.out]; simp), (Below.refl _ w).alloc (Nat.le_refl _) _⟩
        · go_enter Tryz.func182, Tryz.ntmps182
          go_wp2_with (first | (go_at_call 199; refine (H1.out _).mono ?_; rintro e w' ⟨rfl, rfl⟩) | (go_at_call 200; refine (H2.out _).mono ?_; rintro e w' ⟨rfl, rfl⟩) | (go_at_call 201; refine (H3.out _).mono ?_; rintro e w' ⟨rfl, rfl⟩))
          go_ret
          exact ⟨ret_bool (by rw [HV.out]; simp), (Below.refl _ w).alloc (Nat.le_refl _) _⟩
      · cases e1
        · go_enter Tryz.func182, Tryz.ntmps182
          go_wp2_with (first | (go_at_call 199; refine (H1.out _).mono ?_; rintro e w' ⟨rfl, rfl⟩) | (go_at_call 200; refine (H2.out _).mono ?_; rintro e w' ⟨rfl, rfl⟩) | (go_at_call 201; refine (H3.out _).mono ?_; rintro e w' ⟨rfl, rfl⟩))
          go_ret
          exact ⟨ret_bool (by rw [HV.out]; simp), (Below.refl _ w).alloc (Nat.le_refl _) _⟩
        · go_enter Tryz.func182, Tryz.ntmps182
          go_wp2_with (first | (go_at_call 199; refine (H1.out _).mono ?_; rintro e w' ⟨rfl, rfl⟩) | (go_at_call 200; refine (H2.out _).mono ?_; rintro e w' ⟨rfl, rfl⟩) | (go_at_call 201; refine (H3.out _).mono ?_; rintro e w' ⟨rfl, rfl⟩))
          go_ret
          exact ⟨ret_bool (by rw [HV.out]; simp), (Below.refl _ w).alloc (Nat.le_refl _) _⟩
    · go_enter Tryz.func182, Tryz.ntmps182
      go_wp2_with (first | (go_at_call 199; refine (H1.out _).mono ?_; rintro e w' ⟨rfl, rfl⟩) | (go_at_call 200; refine (H2.out _).mono ?_; rintro e w' ⟨rfl, rfl⟩) | (go_at_call 201; refine (H3.out _).mono ?_; rintro e w' ⟨rfl, rfl⟩))
      go_ret
      exact ⟨ret_bool (by rw [HV.out]; simp), (Below.refl _ w).alloc (Nat.le_refl _) _⟩
  · go_enter Tryz.func182, Tryz.ntmps182
    go_wp2_with (first | (go_at_call 199; refine (H1.out _).mono ?_; rintro e w' ⟨rfl, rfl⟩) | (go_at_call 200; refine (H2.out _).mono ?_; rintro e w' ⟨rfl, rfl⟩) | (go_at_call 201; refine (H3.out _).mono ?_; rintro e w' ⟨rfl, rfl⟩))
    go_ret
    exact ⟨ret_bool (by rw [HV.out]; simp), (Below.refl _ w).alloc (Nat.le_refl _) _⟩
def unV (m : ML) : ML := { zeroM with sz := if m.hs then 0 else m.sz, fo := if m.hf then 0 else m.fo, un := if m.hu then 0 else m.un, by_ := if m.hb then 0 else m.by_, pr := if m.hp then 0 else m.pr }
theorem unV_zero (m : ML) : eqML (unV m) zeroM = unB m := by
  obtain ⟨hs, hf, hu, hb, hp, sz, fo, un, by_, pr, body, ret, env, mode⟩ := m
  unfold eqML unV unB zeroM
  cases hs <;> cases hf <;> cases hu <;> cases hb <;> cases hp <;> simp
end Go.Proofs.YtojpkbonioglbaaGreatDoor
