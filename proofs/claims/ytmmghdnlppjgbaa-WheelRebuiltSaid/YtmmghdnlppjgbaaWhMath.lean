/-
  Where timers stand, as numbers (plain).
-/
import Derived.Test.YtmmghdnlppjgbaaBase
namespace Go.Proofs.Ytmmghdnlppjgbaa
/-- How many ticks a slot of a level is. -/
def wd : Nat → Int
  | 0 => 1
  | 1 => 64
  | 2 => 4096
  | 3 => 262144
  | _ => 16777216
structure Tm where
  a : Nat
  id : Int
  f : Int
  lv : Nat
/-- The slot that a timer of that tick stands in. -/
def slotN (l : Nat) (f : Int) : Nat := 64 * l + ((f / wd l) % 64).toNat
def Tm.no (t : Tm) : Nat := slotN t.lv t.f
theorem lv_cases {l : Nat} (h : l < 4) : l = 0 ∨ l = 1 ∨ l = 2 ∨ l = 3 := by omega
theorem wd_pos (l : Nat) : 0 < wd l := by unfold wd; split <;> decide
theorem wd_next {l : Nat} (h : l < 4) : wd (l + 1) = 64 * wd l := by rcases lv_cases h with rfl | rfl | rfl | rfl <;> rfl
theorem wd_le {l : Nat} : wd l ≤ 16777216 := by unfold wd; split <;> decide
theorem slot_lt (l : Nat) (f : Int) : slotN l f < 64 * (l + 1) ∧ 64 * l ≤ slotN l f := by
  unfold slotN
  have h1 := Int.emod_nonneg (f / wd l) (show (64 : Int) ≠ 0 by decide)
  have h2 := Int.emod_lt_of_pos (f / wd l) (show (0 : Int) < 64 by decide)
  omega
theorem slot_lv {l k : Nat} {f g : Int} (h : slotN l f = slotN k g) : l = k := by
  unfold slotN at h
  have h1 := Int.emod_nonneg (f / wd l) (show (64 : Int) ≠ 0 by decide)
  have h2 := Int.emod_lt_of_pos (f / wd l) (show (0 : Int) < 64 by decide)
  have h3 := Int.emod_nonneg (g / wd k) (show (64 : Int) ≠ 0 by decide)
  have h4 := Int.emod_lt_of_pos (g / wd k) (show (0 : Int) < 64 by decide)
  omega
theorem slot_mod {l : Nat} {f g : Int} (h : slotN l f = slotN l g) : (f / wd l) % 64 = (g / wd l) % 64 := by
  unfold slotN at h
  have h1 := Int.emod_nonneg (f / wd l) (show (64 : Int) ≠ 0 by decide)
  have h3 := Int.emod_nonneg (g / wd l) (show (64 : Int) ≠ 0 by decide)
  omega
theorem slot_eq {l : Nat} {f g : Int} (h : (f / wd l) % 64 = (g / wd l) % 64) : slotN l f = slotN l g := by unfold slotN; rw [h]
/-- A tick that is a slot's begin. -/
theorem begins_div (l : Nat) (q : Int) : (q * wd l) / wd l = q := Int.mul_ediv_cancel _ (by have := wd_pos l; omega)
/-- Where a timer may stand as of now. -/
def Stand (n : Int) (t : Tm) : Prop := (t.lv < 4 → n / wd t.lv < t.f / wd t.lv ∧ t.f / wd t.lv ≤ n / wd t.lv + 64) ∧ (t.lv = 4 → n + 16777216 ≤ t.f) ∧ t.lv ≤ 4
theorem div_lt {l : Nat} {n f : Int} (h : n / wd l < f / wd l) : n < f := by
  have h0 := wd_pos l
  have h1 := Int.mul_ediv_self_le (x := f) (k := wd l) (by omega)
  have h2 := Int.lt_mul_ediv_self_add (x := n) h0
  have h3 : n / wd l + 1 ≤ f / wd l := h
  have h4 := Int.mul_le_mul_of_nonneg_left h3 (Int.le_of_lt h0)
  rw [Int.mul_add, Int.mul_one] at h4
  omega
theorem Stand.ahead {n : Int} {t : Tm} (h : Stand n t) : n < t.f := by
  obtain ⟨h1, h2, h3⟩ := h
  by_cases h4 : t.lv < 4
  · exact div_lt (h1 h4).1
  · have := h2 (by omega); omega
/-- The level of a timer that is laid. -/
def lvOf (n f : Int) : Nat := if f - n < 64 then 0 else if f - n < 4096 then 1 else if f - n < 262144 then 2 else if f - n < 16777216 then 3 else 4
theorem lvOf_le (n f : Int) : lvOf n f ≤ 4 := by unfold lvOf; split <;> (try split) <;> (try split) <;> (try split) <;> omega
theorem lvOf_is {n f : Int} {l : Nat} (hl : l < 4) (h1 : f - n < wd (l + 1)) (h0 : ∀ k, k < l → ¬ f - n < wd (k + 1)) : lvOf n f = l := by
  unfold lvOf
  rcases lv_cases hl with rfl | rfl | rfl | rfl
  · simp only [wd] at h1; simp [h1]
  · have a0 := h0 0 (by omega); simp only [wd] at h1 a0; simp [h1, a0]
  · have a0 := h0 0 (by omega); have a1 := h0 1 (by omega); simp only [wd] at h1 a0 a1; simp [h1, a0, a1]
  · have a0 := h0 0 (by omega); have a1 := h0 1 (by omega); have a2 := h0 2 (by omega); simp only [wd] at h1 a0 a1 a2; simp [h1, a0, a1, a2]
theorem lvOf_far {n f : Int} (h0 : ∀ k, k < 4 → ¬ f - n < wd (k + 1)) : lvOf n f = 4 := by
  unfold lvOf
  have a0 := h0 0 (by omega); have a1 := h0 1 (by omega); have a2 := h0 2 (by omega); have a3 := h0 3 (by omega)
  simp only [wd] at a0 a1 a2 a3; simp [a0, a1, a2, a3]
/-- What was laid just now stands as it may; at the first level it may be due now. -/
theorem laid_stand {n f : Int} (h : n < f) (a : Nat) (i : Int) : Stand n ⟨a, i, f, lvOf n f⟩ := by
  unfold Stand lvOf
  simp only []
  split
  · exact ⟨fun _ => by simp only [wd]; omega, fun e => by omega, by omega⟩
  split
  · exact ⟨fun _ => by simp only [wd]; omega, fun e => by omega, by omega⟩
  split
  · exact ⟨fun _ => by simp only [wd]; omega, fun e => by omega, by omega⟩
  split
  · exact ⟨fun _ => by simp only [wd]; omega, fun e => by omega, by omega⟩
  · exact ⟨fun e => by omega, fun _ => by omega, by omega⟩
/-- A slot's place ahead of now is the only one within its round. -/
theorem slot_one {l : Nat} {n f q : Int} (h1 : n / wd l < f / wd l) (h2 : f / wd l ≤ n / wd l + 64) (hq : n / wd l < q) (hq2 : q ≤ n / wd l + 64) : slotN l f = slotN l (q * wd l) ↔ f / wd l = q := by
  constructor
  · intro h
    have := slot_mod h
    rw [begins_div] at this
    omega
  · intro h
    apply slot_eq
    rw [begins_div, h]
/-- In the midst of an advance to tick n: what stands at levels below c stands as it may. -/
def Mid (n : Int) (c : Nat) (t : Tm) : Prop := (t.lv = 0 → n ≤ t.f ∧ t.f ≤ n + 63) ∧ (0 < t.lv → t.lv < 4 → n ≤ t.f / wd t.lv * wd t.lv ∧ t.f / wd t.lv ≤ n / wd t.lv + 64 ∧ (n % wd t.lv = 0 → t.f / wd t.lv ≤ n / wd t.lv + 63) ∧ (t.lv < c → n / wd t.lv < t.f / wd t.lv)) ∧ (t.lv = 4 → n + 16777215 ≤ t.f) ∧ t.lv ≤ 4
theorem Mid.mono {n : Int} {c d : Nat} {t : Tm} (h : Mid n d t) (hc : c ≤ d) : Mid n c t := ⟨h.1, fun a b => ⟨(h.2.1 a b).1, (h.2.1 a b).2.1, (h.2.1 a b).2.2.1, fun e => (h.2.1 a b).2.2.2 (by omega)⟩, h.2.2⟩
/-- The first tick at which something is to be done for a timer. -/
def turnOf (t : Tm) : Int := if t.lv < 4 then t.f / wd t.lv * wd t.lv else t.f - 16777216 + 1
theorem div_mul_le (l : Nat) (f : Int) : f / wd l * wd l ≤ f := by
  rw [Int.mul_comm]; exact Int.mul_ediv_self_le (by have := wd_pos l; omega)
theorem turn_le {n : Int} {t : Tm} (h : Stand n t) : turnOf t ≤ t.f ∧ n < turnOf t := by
  unfold turnOf
  split
  · rename_i hl
    refine ⟨div_mul_le _ _, ?_⟩
    have h1 := (h.1 hl).1
    apply div_lt (l := t.lv)
    rw [begins_div]; exact h1
  · rename_i hl
    have := h.2.1 (by have := h.2.2; omega)
    omega
/-- Up to the tick at which something is to be done all stand as they may. -/
theorem stand_on {n m : Int} {t : Tm} (h : Stand n t) (hm : n ≤ m) (ht : m < turnOf t) : Stand m t := by
  refine ⟨fun hl => ?_, fun hl => ?_, h.2.2⟩
  · obtain ⟨h1, h2⟩ := h.1 hl
    unfold turnOf at ht
    rw [if_pos hl] at ht
    have a1 : n / wd t.lv ≤ m / wd t.lv := Int.ediv_le_ediv (wd_pos _) hm
    refine ⟨?_, by omega⟩
    have := Int.ediv_lt_of_lt_mul (wd_pos t.lv) ht
    exact this
  · unfold turnOf at ht
    rw [if_neg (by omega)] at ht
    omega
theorem stand_mid {n m : Int} {t : Tm} (h : Stand n t) (hm : n < m) (ht : m ≤ turnOf t) : Mid m 1 t := by
  unfold turnOf at ht
  refine ⟨fun hl => ?_, fun h0 hl => ?_, fun hl => ?_, h.2.2⟩
  · obtain ⟨h1, h2⟩ := h.1 (by omega)
    rw [if_pos (by omega)] at ht
    rw [hl] at h1 h2 ht
    simp only [wd] at h1 h2 ht
    omega
  · obtain ⟨h1, h2⟩ := h.1 hl
    rw [if_pos hl] at ht
    have a1 : n / wd t.lv ≤ m / wd t.lv := Int.ediv_le_ediv (wd_pos _) (Int.le_of_lt hm)
    refine ⟨ht, by omega, fun hz => ?_, fun e => by omega⟩
    have : n / wd t.lv < m / wd t.lv := by
      rcases lv_cases hl with e | e | e | e <;> rw [e] at hz ⊢ <;> simp only [wd] at hz ⊢ <;> omega
    omega
  · rw [if_neg (by omega)] at ht
    omega
/-- Who stands in the slot that begins now is due within it. -/
theorem mid_slot {n : Int} {c : Nat} {t : Tm} (h : Mid n c t) (h0 : 0 < t.lv) (hl : t.lv < 4) (hz : n % wd t.lv = 0) (hs : slotN t.lv t.f = slotN t.lv n) : t.f / wd t.lv = n / wd t.lv ∧ n ≤ t.f ∧ t.f - n < wd t.lv := by
  obtain ⟨h1, h2, h3, _⟩ := h.2.1 h0 hl
  have h3 := h3 hz
  have hm := slot_mod hs
  have hle : n ≤ t.f := Int.le_trans h1 (div_mul_le _ _)
  have a1 : n / wd t.lv ≤ t.f / wd t.lv := Int.ediv_le_ediv (wd_pos _) hle
  have e : t.f / wd t.lv = n / wd t.lv := by omega
  refine ⟨e, hle, ?_⟩
  rcases lv_cases hl with e2 | e2 | e2 | e2 <;> rw [e2] at hz e ⊢ <;> simp only [wd] at hz e ⊢ <;> omega
/-- Who doesn't stand in that slot stands as it may. -/
theorem mid_not {n : Int} {c : Nat} {t : Tm} (h : Mid n c t) (h0 : 0 < t.lv) (hl : t.lv < 4) (hs : slotN t.lv t.f ≠ slotN t.lv n ∨ n % wd t.lv ≠ 0) : n / wd t.lv < t.f / wd t.lv := by
  obtain ⟨h1, h2, h3, _⟩ := h.2.1 h0 hl
  have hle : n ≤ t.f := Int.le_trans h1 (div_mul_le _ _)
  have a1 : n / wd t.lv ≤ t.f / wd t.lv := Int.ediv_le_ediv (wd_pos _) hle
  rcases Int.lt_or_eq_of_le a1 with a2 | a2
  · exact a2
  · exfalso
    rcases hs with hs | hs
    · exact hs (slot_eq (by rw [a2]))
    · rw [← a2] at h1
      have := div_mul_le t.lv n
      have e : n / wd t.lv * wd t.lv = n := by omega
      exact hs (by rw [← e]; exact Int.mul_emod_left _ _)
theorem laid_mid {n f : Int} {c : Nat} (h : n ≤ f) (a : Nat) (i : Int) (hf : f - n < 16777216) : Mid n c ⟨a, i, f, lvOf n f⟩ ∧ lvOf n f < 4 := by
  unfold Mid lvOf
  simp only []
  split
  · exact ⟨⟨fun _ => by omega, fun e => by omega, fun e => by omega, by omega⟩, by omega⟩
  split
  · exact ⟨⟨fun e => by omega, fun _ _ => by simp only [wd]; omega, fun e => by omega, by omega⟩, by omega⟩
  split
  · exact ⟨⟨fun e => by omega, fun _ _ => by simp only [wd]; omega, fun e => by omega, by omega⟩, by omega⟩
  · exact ⟨⟨fun e => by omega, fun _ _ => by simp only [wd]; omega, fun e => by omega, by omega⟩, by omega⟩
/-- Behind what is laid anew, and what fires: all stand as they may. -/
theorem mid_end {n : Int} {t : Tm} (h : Mid n 4 t) (h4 : t.lv = 4 → n + 16777216 ≤ t.f) (h0 : t.lv = 0 → t.f ≠ n) : Stand n t := by
  refine ⟨fun hl => ?_, h4, h.2.2.2⟩
  rcases Nat.eq_zero_or_pos t.lv with e | e
  · have := h.1 e
    have := h0 e
    rw [e]; simp only [wd]; omega
  · obtain ⟨_, h2, _, h5⟩ := h.2.1 e hl
    exact ⟨h5 hl, h2⟩
end Go.Proofs.Ytmmghdnlppjgbaa
