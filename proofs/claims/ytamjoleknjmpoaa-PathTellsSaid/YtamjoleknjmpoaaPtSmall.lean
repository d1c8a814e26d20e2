/-
  The walks of path's small functions: kinds of bytes, every, small, null, hostless, long.
-/
import Derived.Test.YtamjoleknjmpoaaPtMath
import Derived.Test.YtamjoleknjmpoaaBytes
import Derived.Test.YtamjoleknjmpoaaBuild
import Derived.Laws.StructEq
namespace Go.Proofs.Ytamjoleknjmpoaa
open Go.RowKit
theorem dle (a b : Nat) : decide ((a : Int) ≤ (b : Int)) = decide (a ≤ b) := by
  by_cases h : a ≤ b
  · rw [decide_eq_true h]; exact decide_eq_true (by omega)
  · rw [decide_eq_false h]; exact decide_eq_false (by omega)
theorem dle1 (a b : Nat) (m : Int) (hm : m = (a : Int)) : decide (m ≤ (b : Int)) = decide (a ≤ b) := by rw [hm]; exact dle a b
theorem dle2 (a b : Nat) (m : Int) (hm : m = (b : Int)) : decide ((a : Int) ≤ m) = decide (a ≤ b) := by rw [hm]; exact dle a b
theorem byte_beq (b : UInt8) (n : Nat) (hn : n < 256) (m : Int) (hm : m = (n : Int)) : ((b.toNat : Int) == m) = (b == UInt8.ofNat n) := by
  subst hm
  rw [Bool.eq_iff_iff, byte_eq hn, beq_iff_eq]
theorem byte_bne (b : UInt8) (n : Nat) (hn : n < 256) (m : Int) (hm : m = (n : Int)) : ((b.toNat : Int) != m) = (b != UInt8.ofNat n) := by
  rw [bne, byte_beq b n hn m hm]; rfl

/-- The walk of a test of a byte, its tests settled. -/
theorem capital_x (b : UInt8) (w : World) : Calls Try.prog 50 #[.int .u8 (b.toNat : Int)] w fun e w' => e = .returned (.bool (capB b)) ∧ w = w' := by
  have hlt := b.toNat_lt
  have HV := Lib.hid (show capB b = (decide (65 ≤ b.toNat) && decide (b.toNat ≤ 90)) from rfl)
  by_cases h1 : 65 ≤ b.toNat
  · have d1 : decide ((65 : Int) ≤ (b.toNat : Int)) = true := decide_eq_true (by omega)
    by_cases h2 : b.toNat ≤ 90
    · have d2 : decide ((b.toNat : Int) ≤ 90) = true := decide_eq_true (by omega)
      go_enter Try.func50, Try.ntmps50
      go_wp2_with fail
      go_ret
      exact ⟨ret_bool (by rw [HV.out]; simp [h1, h2]), rfl⟩
    · have d2 : decide ((b.toNat : Int) ≤ 90) = false := decide_eq_false (by omega)
      go_enter Try.func50, Try.ntmps50
      go_wp2_with fail
      go_ret
      exact ⟨ret_bool (by rw [HV.out]; simp [h1, h2]), rfl⟩
  · have d1 : decide ((65 : Int) ≤ (b.toNat : Int)) = false := decide_eq_false (by omega)
    go_enter Try.func50, Try.ntmps50
    go_wp2_with fail
    go_ret
    exact ⟨ret_bool (by rw [HV.out]; simp [h1]), rfl⟩
theorem printable_x (b : UInt8) (w : World) : Calls Try.prog 52 #[.int .u8 (b.toNat : Int)] w fun e w' => e = .returned (.bool (printB b)) ∧ w = w' := by
  have hlt := b.toNat_lt
  have HV := Lib.hid (show printB b = (decide (32 ≤ b.toNat) && decide (b.toNat ≤ 126)) from rfl)
  by_cases h1 : 32 ≤ b.toNat
  · have d1 : decide ((32 : Int) ≤ (b.toNat : Int)) = true := decide_eq_true (by omega)
    by_cases h2 : b.toNat ≤ 126
    · have d2 : decide ((b.toNat : Int) ≤ 126) = true := decide_eq_true (by omega)
      go_enter Try.func52, Try.ntmps52
      go_wp2_with fail
      go_ret
      exact ⟨ret_bool (by rw [HV.out]; simp [h1, h2]), rfl⟩
    · have d2 : decide ((b.toNat : Int) ≤ 126) = false := decide_eq_false (by omega)
      go_enter Try.func52, Try.ntmps52
      go_wp2_with fail
      go_ret
      exact ⟨ret_bool (by rw [HV.out]; simp [h1, h2]), rfl⟩
  · have d1 : decide ((32 : Int) ≤ (b.toNat : Int)) = false := decide_eq_false (by omega)
    go_enter Try.func52, Try.ntmps52
    go_wp2_with fail
    go_ret
    exact ⟨ret_bool (by rw [HV.out]; simp [h1]), rfl⟩
set_option linter.unusedSimpArgs false in
set_option maxHeartbeats 1000000 in
theorem plain_x (b : UInt8) (w : World) : Calls Try.prog 55 #[.int .u8 (b.toNat : Int)] w fun e w' => e = .returned (.bool (plainB b)) ∧ w = w' := by
  have hlt := b.toNat_lt
  have HV := Lib.hid (show plainB b = ((decide (97 ≤ b.toNat) && decide (b.toNat ≤ 122)) || capB b || (decide (48 ≤ b.toNat) && decide (b.toNat ≤ 57))) from rfl)
  have HC := Lib.hid (fun w => capital_x b w)
  cases hc : capB b <;> rw [hc] at HC HV <;> clear hc <;>
  · by_cases h1 : 97 ≤ b.toNat <;> by_cases h2 : b.toNat ≤ 122 <;> by_cases h3 : 48 ≤ b.toNat <;> by_cases h4 : b.toNat ≤ 57 <;> try (exfalso; omega)
    all_goals
      have d1 : decide ((97 : Int) ≤ (b.toNat : Int)) = decide (97 ≤ b.toNat) := dle1 97 _ 97 rfl
      have d2 : decide ((b.toNat : Int) ≤ 122) = decide (b.toNat ≤ 122) := dle2 _ 122 122 rfl
      have d3 : decide ((48 : Int) ≤ (b.toNat : Int)) = decide (48 ≤ b.toNat) := dle1 48 _ 48 rfl
      have d4 : decide ((b.toNat : Int) ≤ 57) = decide (b.toNat ≤ 57) := dle2 _ 57 57 rfl
      simp only [h1, h2, h3, h4, decide_true, decide_false, Bool.and_true, Bool.and_false, Bool.or_true, Bool.or_false, Bool.true_or, Bool.false_or, Bool.and_self, Bool.or_self] at d1 d2 d3 d4 HV
      clear h1 h2 h3 h4
      go_enter Try.func55, Try.ntmps55
      go_wp2_with (go_at_call 50; refine (HC.out _).mono ?_; rintro e w' ⟨rfl, rfl⟩)
      go_ret
      exact ⟨ret_bool HV.out.symm, rfl⟩
theorem inLabel_x (b : UInt8) (w : World) : Calls Try.prog 59 #[.int .u8 (b.toNat : Int)] w fun e w' => e = .returned (.bool (labB b)) ∧ w = w' := by
  have HV := Lib.hid (show labB b = (plainB b || b == 45) from rfl)
  have HC := Lib.hid (fun w => plain_x b w)
  have d1 : ((b.toNat : Int) == 45) = (b == 45) := byte_beq b 45 (by decide) 45 rfl
  cases hc : plainB b <;> rw [hc] at HC HV <;> clear hc
  · cases hq : (b == 45) <;> rw [hq] at HV d1 <;> clear hq
    · go_enter Try.func59, Try.ntmps59
      go_wp2_with (go_at_call 55; refine (HC.out _).mono ?_; rintro e w' ⟨rfl, rfl⟩)
      go_ret
      exact ⟨ret_bool HV.out.symm, rfl⟩
    · go_enter Try.func59, Try.ntmps59
      go_wp2_with (go_at_call 55; refine (HC.out _).mono ?_; rintro e w' ⟨rfl, rfl⟩)
      go_ret
      exact ⟨ret_bool HV.out.symm, rfl⟩
  · go_enter Try.func59, Try.ntmps59
    go_wp2_with (go_at_call 55; refine (HC.out _).mono ?_; rintro e w' ⟨rfl, rfl⟩)
    go_ret
    exact ⟨ret_bool (by rw [HV.out]; rfl), rfl⟩

/-- Where a sign stands among those of atoms. -/
theorem ib_none : ∀ (l : List UInt8) (c : UInt8), (0 ≤ Lib.indexByte l c) = (l.contains c = true)
  | [], c => by simp [Lib.indexByte]
  | b :: l, c => by
    have ih := ib_none l c
    have h1 := Lib.indexByte_ge l c
    rw [Lib.indexByte]
    split
    · rename_i h
      have : b = c := eq_of_beq h
      simp [this]
    · rename_i h
      have hne : ¬ c = b := fun e => h (by rw [e]; exact beq_self_eq_true b)
      split
      · rename_i h2
        rw [beq_iff_eq] at h2
        rw [h2] at ih
        simpa [hne] using ih
      · rename_i h2
        have h3 : Lib.indexByte l c ≠ -1 := fun e => h2 (by rw [e]; rfl)
        have : (0 ≤ Lib.indexByte l c + 1) = (0 ≤ Lib.indexByte l c) := propext ⟨fun _ => by omega, fun _ => by omega⟩
        rw [this, ih]
        simp [hne]
theorem ib_dec (c : UInt8) : decide (0 ≤ Lib.indexByte signsL c) = signsL.contains c := by
  rw [Bool.eq_iff_iff, decide_eq_true_iff, ib_none]
theorem ibS_x (x : UInt8) (w : World) :
    Calls Try.prog 56 #[.string { data := #[33, 35, 36, 37, 38, 39, 42, 43, 45, 47, 61, 63, 94, 95, 124, 126, 96, 123, 125] }, .int .u8 (x.toNat : Int)] w fun e w' => e = .returned (.int .i64 (Lib.indexByte signsL x)) ∧ w = w' :=
  (Try.strings_IndexByte _ _ w).mono fun e w' ⟨he, hw⟩ => ⟨by rw [he, byte_of]; rfl, hw.symm⟩
theorem inAtom_x (b : UInt8) (w : World) : Calls Try.prog 44 #[.int .u8 (b.toNat : Int)] w fun e w' => e = .returned (.bool (atomB b)) ∧ w = w' := by
  have HV := Lib.hid (show atomB b = (plainB b || signsL.contains b) from rfl)
  have HC := Lib.hid (fun w => plain_x b w)
  have HI := Lib.hid (fun w => ibS_x b w)
  have d1 := ib_dec b
  cases hc : plainB b <;> rw [hc] at HC HV <;> clear hc
  · generalize signsL.contains b = q at HV d1
    generalize Lib.indexByte signsL b = i at HI d1
    go_enter Try.func44, Try.ntmps44
    go_wp2_with (first | (go_at_call 55; refine (HC.out _).mono ?_; rintro e w' ⟨rfl, rfl⟩) | (go_at_call 56; refine (HI.out _).mono ?_; rintro e w' ⟨rfl, rfl⟩))
    go_ret
    exact ⟨ret_bool (by rw [HV.out]; rfl), rfl⟩
  · go_enter Try.func44, Try.ntmps44
    go_wp2_with (go_at_call 55; refine (HC.out _).mono ?_; rintro e w' ⟨rfl, rfl⟩)
    go_ret
    exact ⟨ret_bool (by rw [HV.out]; rfl), rfl⟩

/-- A function value that answers of a byte whether it is of a kind. -/
def Kind (k : Nat) (p : UInt8 → Bool) : Prop := ∀ (b : UInt8) (w : World), Calls Try.prog k #[.int .u8 (b.toNat : Int)] w fun e w' => e = .returned (.bool (p b)) ∧ w = w'
theorem all_take {l : List UInt8} {p : UInt8 → Bool} {k : Nat} {x : UInt8} (hx : l[k]? = some x) (h : (l.take k).all p = true) (hp : p x = true) : (l.take (k + 1)).all p = true := by
  obtain ⟨hk, e⟩ := List.getElem?_eq_some_iff.1 hx
  rw [List.take_succ_eq_append_getElem hk, List.all_append, h, e]
  simp [hp]
theorem all_not {l : List UInt8} {p : UInt8 → Bool} {k : Nat} {x : UInt8} (hx : l[k]? = some x) (hp : p x = false) : l.all p = false := by
  rw [List.all_eq_false]
  exact ⟨x, List.mem_of_getElem? hx, by rw [hp]; exact Bool.false_ne_true⟩
set_option maxHeartbeats 1000000 in
theorem every_x (k : Nat) (p : UInt8 → Bool) (hk : Kind k p) (ek : ∀ args w, (callFunc k args).run Try.prog w = .ok (.enter k args) w) (l : List UInt8) (w : World) (hl : l.length ≤ 1000000000000) :
    Calls Try.prog 43 #[.string (mkS l), .func (.func k) #[] #[]] w fun e w' => e = .returned (.bool (l.all p)) ∧ w = w' := by
  have hms := mkS_size l
  have HK := Lib.hid hk
  clear hk
  go_enter Try.func43, Try.ntmps43
  go_wp2_with fail
  go_loop [8] (fun i => ∃ j : Nat, j ≤ l.length ∧ i = .int .i64 j ∧ Hid ((l.take j).all p = true)) (fun i => l.length - (intOf i).toNat)
  case atStart => exact ⟨0, Nat.zero_le _, rfl, by simp [Hid]⟩
  case round =>
    obtain ⟨j, hj, rfl, HC⟩ := hrel
    by_cases hlt : j < l.length
    · obtain ⟨x, hx⟩ : ∃ x : UInt8, (mkS l)[j]'(by omega) = x := ⟨_, rfl⟩
      have hX : l[j]? = some x := by rw [← hx]; have := Lib.data_getElem? (mkS l) j (by omega); rwa [mkS_data] at this
      have HP := Lib.hid (HK.out x w)
      cases hp : p x
      · rw [hp] at HP
        have HN := Lib.hid (all_not hX hp)
        clear hp hX
        go_wp2_with fail
        refine HP.out.mono ?_
        rintro e w1 ⟨rfl, rfl⟩
        go_wp2_with fail
        go_ret
        exact ⟨ret_bool HN.out.symm, rfl⟩
      · rw [hp] at HP
        have HN := Lib.hid (all_take hX HC.out hp)
        clear hp hX
        go_wp2_with fail
        refine HP.out.mono ?_
        rintro e w1 ⟨rfl, rfl⟩
        go_wp2_with fail
        go_round
        case rel => exact ⟨j + 1, by omega, by go_num, HN⟩
        case measure => simp [intOf]; omega
    · have hc := HC.out
      rw [List.take_of_length_le (by omega)] at hc
      have HE := Lib.hid hc
      clear hc
      go_wp2_with fail
      go_ret
      exact ⟨ret_bool HE.out.symm, rfl⟩
end Go.Proofs.Ytamjoleknjmpoaa
