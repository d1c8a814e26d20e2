/-
  Plain mathematics of domains: side by side, in small letters and in capital ones.
-/
import Derived.Test.YtojpkbonioglbaaGreatDoorPtMath
namespace Go.Proofs.YtojpkbonioglbaaGreatDoor.P
set_option maxRecDepth 100000
theorem domE_zero {s : List UInt8} : domainE s = 0 ↔ s.length ≤ 255 ∧ labels s = true := by
  unfold domainE
  split
  · rename_i h
    exact ⟨fun e => by simp at e, fun ⟨h1, _⟩ => by omega⟩
  · rename_i h
    split
    · rename_i h2
      exact ⟨fun _ => ⟨by omega, h2⟩, fun _ => rfl⟩
    · rename_i h2
      exact ⟨fun e => by simp at e, fun ⟨_, h3⟩ => absurd h3 h2⟩
theorem domV_zero {s : List UInt8} (h : domainE s = 0) : domainV s = smallL s := by rw [domainV, if_pos h]
theorem domE_small {s : List UInt8} (h : domainE s = 0) : domainE (smallL s) = 0 ∧ domainV (smallL s) = smallL s := by
  obtain ⟨h1, h2⟩ := domE_zero.1 h
  have e : domainE (smallL s) = 0 := domE_zero.2 ⟨by rw [smallL_length]; exact h1, by rw [labels_small]; exact h2⟩
  exact ⟨e, by rw [domV_zero e, smallL_small]⟩
theorem domE_cat {a b : List UInt8} (h : domainE (a ++ 46 :: b) = 0) : domainE a = 0 ∧ domainE b = 0 := by
  obtain ⟨h1, h2⟩ := domE_zero.1 h
  rw [labels_cat, Bool.and_eq_true] at h2
  simp at h1
  exact ⟨domE_zero.2 ⟨by omega, h2.1⟩, domE_zero.2 ⟨by omega, h2.2⟩⟩
theorem domE_long {a b : List UInt8} (h : 255 < a.length + b.length + 1) : domainE (a ++ 46 :: b) = 3 := by
  rw [domainE, if_pos (by simp; omega)]
theorem domE_yes {a b : List UInt8} (ha : domainE a = 0) (hb : domainE b = 0) (h : a.length + b.length + 1 ≤ 255) : domainE (a ++ 46 :: b) = 0 ∧ domainV (a ++ 46 :: b) = smallL a ++ [46] ++ smallL b := by
  obtain ⟨_, h2⟩ := domE_zero.1 ha
  obtain ⟨_, h4⟩ := domE_zero.1 hb
  have e : domainE (a ++ 46 :: b) = 0 := domE_zero.2 ⟨by simp; omega, by rw [labels_cat, h2, h4]; rfl⟩
  refine ⟨e, ?_⟩
  rw [domV_zero e]
  simp [smallL, show smallB 46 = 46 by decide]
/-- A letter's capital one. -/
def upB (b : UInt8) : UInt8 := if decide (97 ≤ b.toNat) && decide (b.toNat ≤ 122) then b - 32 else b
theorem up_46 (b : UInt8) : (upB b == 46) = (b == 46) := beq_iff_eq.1 (all_bytes (P := fun b => (upB b == 46) == (b == 46)) (by decide +kernel) b)
theorem up_45 (b : UInt8) : (upB b == 45) = (b == 45) := beq_iff_eq.1 (all_bytes (P := fun b => (upB b == 45) == (b == 45)) (by decide +kernel) b)
theorem up_lab (b : UInt8) : labB (upB b) = labB b := beq_iff_eq.1 (all_bytes (P := fun b => labB (upB b) == labB b) (by decide +kernel) b)
theorem up_small (b : UInt8) : smallB (upB b) = smallB b := beq_iff_eq.1 (all_bytes (P := fun b => smallB (upB b) == smallB b) (by decide +kernel) b)
theorem domE_up {s : List UInt8} (h : domainE s = 0) : domainE (s.map upB) = 0 ∧ domainV (s.map upB) = smallL s := by
  obtain ⟨h1, h2⟩ := domE_zero.1 h
  have e : domainE (s.map upB) = 0 := domE_zero.2 ⟨by rw [List.length_map]; exact h1, by rw [labels_map upB up_46 up_45 up_lab]; exact h2⟩
  refine ⟨e, ?_⟩
  rw [domV_zero e]
  simp [smallL, up_small]
theorem up_sub (x : UInt8) (h1 : 97 ≤ x.toNat) (h2 : x.toNat ≤ 122) : (x.toNat : Int) - 32 = ((upB x).toNat : Int) := by
  have := all_bytes (P := fun x => !(decide (97 ≤ x.toNat) && decide (x.toNat ≤ 122)) || ((x.toNat : Int) - 32 == ((upB x).toNat : Int))) (by decide +kernel) x
  rw [decide_eq_true h1, decide_eq_true h2] at this
  simpa using this
theorem up_not {x : UInt8} (h : ¬ (97 ≤ x.toNat ∧ x.toNat ≤ 122)) : upB x = x := by
  unfold upB
  rw [if_neg]
  simpa using h
end Go.Proofs.YtojpkbonioglbaaGreatDoor.P
