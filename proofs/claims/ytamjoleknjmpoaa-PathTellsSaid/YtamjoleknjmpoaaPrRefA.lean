/-
  The walks of the reference's small functions: small, letter, has, Lower, until, cut.
-/
import Derived.Test.YtamjoleknjmpoaaPrMathR
import Derived.Test.YtamjoleknjmpoaaPtBytes
namespace Go.Proofs.Ytamjoleknjmpoaa
open Go.RowKit
theorem rsmall_x (b : UInt8) (w : World) : Calls Try.prog 51 #[.int .u8 (b.toNat : Int)] w fun e w' => e = .returned (.int .u8 ((smallB b).toNat : Int)) ∧ w = w' := by
  have hlt := b.toNat_lt
  by_cases h1 : 65 ≤ b.toNat
  · have d1 : decide ((65 : Int) ≤ (b.toNat : Int)) = true := decide_eq_true (by omega)
    by_cases h2 : b.toNat ≤ 90
    · have d2 : decide ((b.toNat : Int) ≤ 90) = true := decide_eq_true (by omega)
      have HS := Lib.hid (small_sum b (by simp [capB, h1, h2]))
      have e1 : IntKind.u8.wrap ((b.toNat : Int) + 32) = (b.toNat : Int) + 32 := IntWalk.u8_in _ (by omega)
      rw [e1] at HS
      clear e1
      go_enter Try.func51, Try.ntmps51
      go_wp2_with fail
      go_ret
      exact ⟨ret_int HS.out, rfl⟩
    · have d2 : decide ((b.toNat : Int) ≤ 90) = false := decide_eq_false (by omega)
      have HS := Lib.hid (small_not (x := b) (by simp [capB, h2]))
      go_enter Try.func51, Try.ntmps51
      go_wp2_with fail
      go_ret
      exact ⟨ret_int (by rw [HS.out]), rfl⟩
  · have d1 : decide ((65 : Int) ≤ (b.toNat : Int)) = false := decide_eq_false (by omega)
    have HS := Lib.hid (small_not (x := b) (by simp [capB, h1]))
    go_enter Try.func51, Try.ntmps51
    go_wp2_with fail
    go_ret
    exact ⟨ret_int (by rw [HS.out]), rfl⟩
set_option linter.unusedSimpArgs false in
set_option maxHeartbeats 1000000 in
theorem letter_x (b : UInt8) (w : World) : Calls Try.prog 40 #[.int .u8 (b.toNat : Int)] w fun e w' => e = .returned (.bool (plainB b)) ∧ w = w' := by
  have HV := Lib.hid (letter_eq b)
  have HC := Lib.hid (fun w => rsmall_x b w)
  generalize smallB b = c at HV HC
  have hlt := c.toNat_lt
  by_cases h1 : 97 ≤ c.toNat <;> by_cases h2 : c.toNat ≤ 122 <;> by_cases h3 : 48 ≤ c.toNat <;> by_cases h4 : c.toNat ≤ 57 <;> try (exfalso; omega)
  all_goals
    have d1 : decide ((97 : Int) ≤ (c.toNat : Int)) = decide (97 ≤ c.toNat) := dle1 97 _ 97 rfl
    have d2 : decide ((c.toNat : Int) ≤ 122) = decide (c.toNat ≤ 122) := dle2 _ 122 122 rfl
    have d3 : decide ((48 : Int) ≤ (c.toNat : Int)) = decide (48 ≤ c.toNat) := dle1 48 _ 48 rfl
    have d4 : decide ((c.toNat : Int) ≤ 57) = decide (c.toNat ≤ 57) := dle2 _ 57 57 rfl
    simp only [h1, h2, h3, h4, decide_true, decide_false, Bool.and_true, Bool.and_false, Bool.or_true, Bool.or_false, Bool.true_or, Bool.false_or, Bool.and_self, Bool.or_self] at d1 d2 d3 d4 HV
    clear h1 h2 h3 h4
    go_enter Try.func40, Try.ntmps40
    go_wp2_with (go_at_call 51; refine (HC.out _).mono ?_; rintro e w' ⟨rfl, rfl⟩)
    go_ret
    exact ⟨ret_bool HV.out, rfl⟩
theorem contains_take {l : List UInt8} {k : Nat} {x b : UInt8} (hx : l[k]? = some x) (h : (l.take k).contains b = false) (hb : (x == b) = false) : (l.take (k + 1)).contains b = false := by
  obtain ⟨hk, e⟩ := List.getElem?_eq_some_iff.1 hx
  have h1 : b ∉ l.take k := by simpa using h
  have h2 : x ≠ b := fun e => by rw [e] at hb; simp at hb
  rw [List.take_succ_eq_append_getElem hk, e]
  simp
  exact ⟨by simpa using h1, fun e => h2 e.symm⟩
set_option maxHeartbeats 1000000 in
theorem has_x (l : List UInt8) (b : UInt8) (w : World) (hl : l.length ≤ 1000000000) :
    Calls Try.prog 41 #[.string (mkS l), .int .u8 (b.toNat : Int)] w fun e w' => e = .returned (.bool (l.contains b)) ∧ w = w' := by
  have hms := mkS_size l
  obtain ⟨q0, hq0⟩ : ∃ q0, l.contains b = q0 := ⟨_, rfl⟩
  have HQ := Lib.hid hq0
  rw [hq0]
  clear hq0
  go_enter Try.func41, Try.ntmps41
  go_wp2_with fail
  go_loop [5] (fun i => ∃ j : Nat, j ≤ l.length ∧ i = .int .i64 j ∧ Hid ((l.take j).contains b = false)) (fun i => l.length - (intOf i).toNat)
  case atStart => exact ⟨0, Nat.zero_le _, rfl, by simp [Hid]⟩
  case round =>
    obtain ⟨j, hj, rfl, HC⟩ := hrel
    by_cases hlt : j < l.length
    · obtain ⟨x, hx⟩ : ∃ x : UInt8, (mkS l)[j]'(by omega) = x := ⟨_, rfl⟩
      have hX : l[j]? = some x := by rw [← hx]; have := Lib.data_getElem? (mkS l) j (by omega); rwa [mkS_data] at this
      have d1 : ((x.toNat : Int) == (b.toNat : Int)) = (x == b) := by rw [byte_beq x b.toNat b.toNat_lt _ rfl]; simp
      cases hq : (x == b)
      · rw [hq] at d1
        have HN := Lib.hid (contains_take hX HC.out hq)
        clear hX hq
        go_wp2_with fail
        go_round
        case rel => exact ⟨j + 1, by omega, by go_num, HN⟩
        case measure => simp [intOf]; omega
      · rw [hq] at d1
        have HN := Lib.hid (show true = q0 by
          rw [← HQ.out]
          have := eq_of_beq hq
          subst this
          simpa using List.mem_of_getElem? hX)
        clear hX hq
        go_wp2_with fail
        go_ret
        exact ⟨ret_bool HN.out, rfl⟩
    · have hc := HC.out
      rw [List.take_of_length_le (by omega)] at hc
      have HE := Lib.hid (show false = q0 by rw [← HQ.out, hc])
      clear hc
      go_wp2_with fail
      go_ret
      exact ⟨ret_bool HE.out, rfl⟩
theorem sml_take {l : List UInt8} {k : Nat} {x : UInt8} (hx : l[k]? = some x) : smallL (l.take (k + 1)) = smallL (l.take k) ++ [smallB x] := by
  obtain ⟨hk, e⟩ := List.getElem?_eq_some_iff.1 hx
  rw [List.take_succ_eq_append_getElem hk, e]
  simp [smallL]
set_option maxHeartbeats 1000000 in
theorem lower_x (l : List UInt8) (w : World) (hl : l.length ≤ 1000000000) :
    Calls Try.prog 32 #[.string (mkS l)] w fun e w' => e = .returned (.string (mkS (smallL l))) ∧ Below w.heap.size w w' := by
  have hms := mkS_size l
  go_enter Try.func32, Try.ntmps32
  go_wp2_with fail
  go_loopw [3, 4] (fun v i wr => ∃ k : Nat, k ≤ l.length ∧ i = .int .i64 k ∧ Hid (wr.ownsRow w.heap.size 5 1 v (smallL (l.take k)).length (bytesV (smallL (l.take k)))) ∧ Hid (Below w.heap.size w wr)) (fun _ i _ => l.length - (intOf i).toNat)
  case atStart => exact ⟨0, Nat.zero_le _, rfl, World.ownsRow_nil _ _ _ _, Below.refl _ _⟩
  case round =>
    obtain ⟨k, hk, rfl, HO, HW⟩ := hrel
    obtain ⟨A, c, hv⟩ := own_slice HO.out
    by_cases hlt : k < l.length
    · obtain ⟨x, hx⟩ : ∃ x : UInt8, (mkS l)[k]'(by omega) = x := ⟨_, rfl⟩
      have hX : l[k]? = some x := by rw [← hx]; have := Lib.data_getElem? (mkS l) k (by omega); rwa [mkS_data] at this
      have HT := Lib.hid (sml_take hX)
      have HC := Lib.hid (fun w => rsmall_x x w)
      have hlen : (smallL (l.take k)).length ≤ 1000000000 := by rw [smallL_length, List.length_take]; omega
      generalize smallL (l.take k) = ek at HO HT hlen hv
      generalize smallB x = y at HT HC
      subst hv
      clear hX
      go_wp2_with fail
      refine (HC.out _).mono ?_
      rintro e w1 ⟨rfl, rfl⟩
      go_wp2_with (at_builtin; refine app_bytes rfl (.tmp 11) (.tmp 16) rfl w.heap.size (.slice A ek.length c) ek rfl (HO.out.alloc _) ⟨wr.heap.size, 0, none⟩ 1 1 [y] rfl rfl ?c1 ?c2 ?c3 ?_)
      case c1 => exact cells_new wr [y] _ rfl _ rfl
      case c2 => omega
      case c3 => have := HW.out.size; simp; omega
      intro v1 w2 hown hg
      have HO2 := Lib.hid hown
      have HW2 := Lib.hid (bytes_grown HW.out HO.out hg)
      clear hown hg
      go_wp2_with fail
      go_roundw
      case rel => exact ⟨k + 1, by omega, by go_num, by rw [HT.out, List.length_append]; exact HO2.out, HW2⟩
      case measure => simp [intOf]; omega
    · have ho := HO.out
      rw [List.take_of_length_le (by omega)] at ho
      have hcv := conv_own ho
      rw [List.take_of_length_le (by omega)] at hv
      subst hv
      clear ho
      go_wp2_with fail
      go_ret
      exact ⟨rfl, HW.out⟩
end Go.Proofs.Ytamjoleknjmpoaa
