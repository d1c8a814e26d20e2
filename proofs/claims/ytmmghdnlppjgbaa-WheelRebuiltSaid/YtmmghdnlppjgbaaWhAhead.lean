/-
  The walk of ahead.
-/
import Derived.Test.YtmmghdnlppjgbaaWhLayX
namespace Go.Proofs.Ytmmghdnlppjgbaa
set_option maxRecDepth 100000
open Go.RowKit
/-- What ahead answers. -/
def AhP (S : List Tm) (sv : Nat → Option Nat) (n : Int) (l : Nat) (x : Option Nat) (r : Int) : Prop :=
  (x = none ∧ r = 0 ∧ ∀ t ∈ S, t.lv ≠ l) ∨ (∃ q m0, x = some m0 ∧ r = q * wd l ∧ n / wd l < q ∧ q ≤ n / wd l + 64 ∧ sv (slotN l r) = some m0 ∧ (∃ t ∈ S, t.no = slotN l r) ∧ ∀ t ∈ S, t.lv = l → q ≤ t.f / wd l)
theorem len_nil (w : World) : (Builtin.len_ #[59] 3 #[.map none]).run Try.prog w = .ok (.int .i64 0) w := by kernel_rfl
/-- No timers in the first i slots ahead. -/
def NoneTo (S : List Tm) (n : Int) (l i : Nat) : Prop := ∀ j : Nat, j < i → ∀ t ∈ S, t.no ≠ slotN l ((n / wd l + 1 + j) * wd l)
theorem none_at {S : List Tm} {n : Int} {l i : Nat} (hS : ∀ t ∈ S, Stand n t) (hl : l < 4) (h : NoneTo S n l i) : ∀ t ∈ S, t.lv = l → n / wd l + 1 + i ≤ t.f / wd l := by
  intro t ht e
  obtain ⟨h1, h2⟩ := (hS t ht).1 (by omega)
  rw [e] at h1 h2
  rcases Int.lt_or_le (t.f / wd l) (n / wd l + 1 + i) with hlt | hge
  · exfalso
    refine h (t.f / wd l - n / wd l - 1).toNat (by omega) t ht ?_
    have e2 : n / wd l + 1 + ((t.f / wd l - n / wd l - 1).toNat : Int) = t.f / wd l := by omega
    rw [e2]
    unfold Tm.no
    rw [e]
    apply slot_eq
    rw [begins_div]
  · exact hge
section
variable {O : Nat → Prop} {b : Nat} {n : Int} {M : List (Int × Value)} {S P : List Tm} {mt : Nat} {sv : Nat → Option Nat} {v : Value} {L : List Hd} {w w' : World}
theorem WC.slot_len (h : WC O b n M S P mt sv v L w) {k : Nat} (hk : k < 256) : (Builtin.len_ #[59] 3 #[.map (sv k)]).run Try.prog w = .ok (.int .i64 ((S.filter fun t => t.no == k).length : Int)) w := by
  cases e : sv k with
  | none =>
    have : (S.filter fun t => t.no == k) = [] := by
      rw [List.filter_eq_nil_iff]
      intro s hs
      simpa using h.sn k hk e s hs
    rw [this]
    exact len_nil w
  | some m =>
    have := (h.sl k m hk e).len 3
    rwa [List.length_map] at this
set_option maxHeartbeats 4000000 in
theorem ahead_x (h : WC O b n M S P mt sv v L w) (hS : ∀ t ∈ S, Stand n t) (n0 : 0 ≤ n) (n1 : n ≤ 1099511627776) {l : Nat} (hl : l < 4) :
    Calls Try.prog 29 #[.pointer (some ⟨b, 0, none⟩), .int .i64 l] w fun e w' => ∃ x r, e = .returned (.tuple #[.map x, .int .i64 r]) ∧ AhP S sv n l x r ∧ ∃ m, w' = w.drewN m := by
  have HS := Lib.hid hS
  have H := Lib.hid h
  have c0 := h.hs.wb.now
  have HW := Lib.hid (width_x l (by omega))
  have hwp := wd_pos l
  have hwl := wd_le (l := l)
  have hq : n.tdiv (wd l) = n / wd l := Int.tdiv_eq_ediv_of_nonneg n0
  have hz : ((wd l == 0) = false) := by simp; omega
  have h0 : 0 ≤ n / wd l := Int.ediv_nonneg n0 (by omega)
  have hm : n / wd l * wd l ≤ n := div_mul_le l n
  have hle : n / wd l ≤ n := Int.ediv_le_self _ n0
  have HB := Lib.hid (show ∀ i : Nat, i < 64 → 0 ≤ (n / wd l + 1 + i) * wd l ∧ (n / wd l + 1 + i) * wd l ≤ 4398046511104 from fun i hi => by
    have e : (n / wd l + 1 + i) * wd l = n / wd l * wd l + (1 + i) * wd l := by rw [Int.add_assoc, Int.add_mul]
    have h1 : (1 + (i : Int)) * wd l ≤ 64 * 16777216 := Int.mul_le_mul (by omega) hwl (by omega) (by omega)
    have h2 : 0 ≤ (1 + (i : Int)) * wd l := Int.mul_nonneg (by omega) (by omega)
    have h3 : 0 ≤ n / wd l * wd l := Int.mul_nonneg h0 (by omega)
    omega)
  clear h hS hm
  go_enter Try.func29, Try.ntmps29
  go_wp2_with (go_at_call 30; refine (HW.out _).mono ?_; rintro e w1 ⟨rfl, hw1⟩; rw [hw1]; clear hw1 w1)
  go_loopw [12] (fun s wr => ∃ i m : Nat, s = .int .i64 i ∧ i ≤ 64 ∧ wr = w.drewN m ∧ Hid (NoneTo S n l i)) (fun s _ => 64 - (intOf s).toNat)
  case atStart => exact ⟨0, 0, rfl, by omega, rfl, Lib.hid fun k hk => by omega⟩
  case round =>
    obtain ⟨i, m, rfl, hi, rfl, HR⟩ := hrel
    by_cases h4 : i < 64
    · obtain ⟨b0, b1⟩ := HB.out i h4
      have hk4 : slotN l ((n / wd l + 1 + i) * wd l) < 256 := by have := slot_lt l ((n / wd l + 1 + i) * wd l); omega
      have HSl := Lib.hid (fun w => slot_x b l ((n / wd l + 1 + i) * wd l) hl b0 (by omega) w)
      have ck := H.out.hs.wb.slot hk4
      have hlen := fun q => (H.out.drewN q).slot_len hk4
      have HNo := Lib.hid (none_at HS.out hl HR.out)
      have HK : Hid ((n / wd l + 1 + i) * wd l = (n / wd l + 1 + (i : Int)) * wd l ∧ slotN l ((n / wd l + 1 + i) * wd l) = slotN l ((n / wd l + 1 + (i : Int)) * wd l)) := Lib.hid ⟨rfl, rfl⟩
      generalize hB : (n / wd l + 1 + (i : Int)) * wd l = B at *
      generalize hk : slotN l B = k at *
      have HBB := Lib.hid hB
      have HKK := Lib.hid hk
      clear hk HK
      generalize hcn : (S.filter fun t => t.no == k).length = cn at *
      have HCN := Lib.hid hcn
      clear hcn
      cases hc : decide (0 < cn) with
      | false =>
        have HR2 : Hid (NoneTo S n l (i + 1)) := Lib.hid fun j hj t ht => by
          rcases Nat.lt_or_eq_of_le (Nat.le_of_lt_succ hj) with hj | rfl
          · exact HR.out j hj t ht
          · rw [HBB.out, HKK.out]
            intro e
            have := of_decide_eq_false hc
            have h1 : (S.filter fun t => t.no == k).length = 0 := by have := HCN.out; omega
            have h2 := List.eq_nil_of_length_eq_zero h1
            exact (List.filter_eq_nil_iff.1 h2) t ht (by simpa using e)
        go_wp2_with (go_at_call 24; refine (HSl.out _).mono ?_; rintro e w2 ⟨rfl, q, rfl⟩)
        go_roundw
        case rel => exact ⟨i + 1, _, by simp, by omega, rfl, HR2⟩
        case measure => simp [intOf]; omega
      | true =>
        go_wp2_with (go_at_call 24; refine (HSl.out _).mono ?_; rintro e w2 ⟨rfl, q, rfl⟩)
        go_returns
        refine ⟨sv k, B, rfl, .inr ?_, _, rfl⟩
        have h1 : 0 < (S.filter fun t => t.no == k).length := by have := of_decide_eq_true hc; have := HCN.out; omega
        obtain ⟨t, ht⟩ := List.exists_mem_of_length_pos h1
        obtain ⟨ht1, ht2⟩ := List.mem_filter.1 ht
        have hkt : t.no = k := by simpa using ht2
        cases hsv : sv k with
        | none => exact absurd hkt (H.out.sn k hk4 hsv t ht1)
        | some m0 =>
          refine ⟨n / wd l + 1 + i, m0, rfl, HBB.out.symm, by omega, by omega, by rw [HKK.out]; exact hsv, ⟨t, ht1, by rw [HKK.out]; exact hkt⟩, HNo.out⟩
    · have : i = 64 := by omega
      subst this
      have HNo := Lib.hid (none_at HS.out hl HR.out)
      go_wp2_with fail
      go_returns
      refine ⟨none, 0, rfl, .inl ⟨rfl, rfl, fun t ht e => ?_⟩, _, rfl⟩
      have h1 := HNo.out t ht e
      have h2 := ((HS.out t ht).1 (by omega)).2
      rw [e] at h2
      omega
end
end Go.Proofs.Ytmmghdnlppjgbaa
