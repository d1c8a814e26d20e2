/-
  Plain: what the laws of outcomes, of Notify and of many tries say.
-/
import Derived.Test.YtcedhgihebollaaGreatDoorJgOk
import Derived.Test.YtcedhgihebollaaGreatDoorMaJgM
namespace Go.Proofs.YtcedhgihebollaaGreatDoor.E.J
set_option maxRecDepth 100000
open Go.RowKit Go.Shelf
theorem mode_of {x : EM} (h : OkE x) (hb : x.m.hb = true) : x.m.mode = [82] ∨ x.m.mode = [78] ∨ x.m.mode = [82, 84] ∨ x.m.mode = [78, 84] := by
  have h1 := (rightM_iff.1 (ok_mail h)).1.1
  simp only [namedB, hb, Bool.and_eq_true, Bool.true_and, Bool.not_true, Bool.false_and, Bool.or_false] at h1
  have h2 := h1.2
  unfold isMode at h2
  simp only [Bool.or_eq_true, beq_iff_eq] at h2
  rcases h2 with ((h2 | h2) | h2) | h2
  · exact .inl h2
  · exact .inr (.inl h2)
  · exact .inr (.inr (.inl h2))
  · exact .inr (.inr (.inr h2))
section
variable {p : PJ} {x : EM} {no : Txt} {k : KJ} {f : Bool} {t : ST} {now o : Int}
/-- A try whose outcome leaves it open. -/
theorem later_all (h : mayJ p x t now = 0) (ht : t.tr ≤ 900) (hs : t.st = [82]) (ho : o = 4 ∨ o = 0) : tryE p x t now o = 0 ∧ (tryT p x t now o).tr = t.tr + 1 ∧ (tryT p x t now o).ne = now + waitJ p (t.tr + 1) ∧ (tryT p x t now o).st = if overJ p x now then [70] else [82] := by
  have e : min t.tr 999 + 1 = t.tr + 1 := by omega
  refine ⟨try_0 h (by omega), ?_, ?_, ?_⟩
  · rw [(try_later h ho).1, pass_tr]; show min t.tr 999 + 1 = _; exact e
  · rw [(try_later h ho).1, pass_ne]; show now + waitJ p (min t.tr 999 + 1) = _; rw [e]
  · rw [(try_later h ho).1, pass_st]; show (if overJ p x now then [70] else t.st) = _; rw [hs]
/-- What was made, and told. -/
def SaidJ (x : EM) (no : Txt) (F : Bool) (t T : ST) (L : List Txt) : Prop :=
  (L = [] ∧ T.told = t.told) ∨ ∃ k f, kindB4 k ∧ L = [k.name] ∧ T.told = t.told + k.bit ∧ hasB t.told k.bit = false ∧ nullJ x = false ∧ askJ k no f = true ∧ (f = true → F = true ∧ (k = kF ∨ k = kD)) ∧ ((k = kS ∧ T.st = [68]) ∨ (k = kG ∧ T.st = [71]) ∨ (k = kF ∧ T.st = [70]) ∨ (k = kD ∧ T.st = t.st))
theorem rep_said {t0 : ST} {F : Bool} (hk : kindB4 k) (h0 : t0.told = t.told) (hf : f = true → F = true ∧ (k = kF ∨ k = kD)) (hst : (k = kS ∧ t0.st = [68]) ∨ (k = kG ∧ t0.st = [71]) ∨ (k = kF ∧ t0.st = [70]) ∨ (k = kD ∧ t0.st = t.st)) : SaidJ x no F t (repT x no k f t0) (repL x no k f t0) := by
  cases h : madeJ x no k f t0 with
  | false => rw [(rep_no h).1, (rep_no h).2]; exact .inl ⟨rfl, h0⟩
  | true =>
    have hb := made_has h
    rw [(rep_yes h).1, (rep_yes h).2]
    unfold madeJ at h
    simp only [Bool.and_eq_true, Bool.not_eq_true'] at h
    exact .inr ⟨k, f, hk, rfl, by show t0.told + k.bit = _; rw [h0], by rw [← h0]; exact hb, h.1, h.2.2, hf, hst⟩
theorem pass_said {t0 : ST} {F : Bool} (h0 : t0.told = t.told) (hs : t0.st = t.st) (hF : comeJ x now = true → F = true) : SaidJ x no F t (passT p x no now t0) (passL p x no now t0) := by
  have hbk : bkJ x now = true → comeJ x now = true := fun h => by unfold bkJ at h; rw [Bool.and_eq_true] at h; exact h.1
  unfold passT passL
  split
  · exact rep_said (.inr (.inl rfl)) h0 (fun h => ⟨hF (hbk h), .inl rfl⟩) (.inr (.inr (.inl ⟨rfl, rfl⟩)))
  · split
    · rename_i hc
      exact rep_said (.inl rfl) h0 (fun _ => ⟨hF hc, .inr rfl⟩) (.inr (.inr (.inr ⟨rfl, hs⟩)))
    · split
      · exact rep_said (.inl rfl) h0 (fun h => absurd h (by decide)) (.inr (.inr (.inr ⟨rfl, hs⟩)))
      · exact .inl ⟨rfl, h0⟩
/-- All that a try makes. -/
theorem try_said (h : mayJ p x t now = 0) : SaidJ x (noJ x t) (comeJ x now && (decide (o = 0) || decide (o = 4))) t (tryT p x t now o) (tryL p x t now o) ∨ tryE p x t now o = 10 := by
  by_cases ho : o = 2 ∨ o = 3 ∨ o = 5 ∨ o = 4 ∨ o = 0
  · refine .inl ?_
    by_cases hl : o = 4 ∨ o = 0
    · rw [(try_later h hl).1, (try_later h hl).2]
      refine pass_said rfl rfl (fun hc => ?_)
      rw [hc]
      rcases hl with rfl | rfl <;> rfl
    · unfold tryT tryL
      rw [if_pos h, if_pos h]
      rcases ho with rfl | rfl | rfl | ho
      · rw [if_pos rfl, if_pos rfl]
        exact rep_said (.inr (.inr (.inl rfl))) rfl (fun h => absurd h (by decide)) (.inl ⟨rfl, rfl⟩)
      · rw [if_neg (show ¬ (3 : Int) = 2 by decide), if_pos (show (3 : Int) = 3 from rfl), if_neg (show ¬ (3 : Int) = 2 by decide), if_pos (show (3 : Int) = 3 from rfl)]
        exact rep_said (.inr (.inr (.inr rfl))) rfl (fun h => absurd h (by decide)) (.inr (.inl ⟨rfl, rfl⟩))
      · rw [if_neg (show ¬ (5 : Int) = 2 by decide), if_neg (show ¬ (5 : Int) = 3 by decide), if_pos (show (5 : Int) = 5 from rfl), if_neg (show ¬ (5 : Int) = 2 by decide), if_neg (show ¬ (5 : Int) = 3 by decide), if_pos (show (5 : Int) = 5 from rfl)]
        exact rep_said (.inr (.inl rfl)) rfl (fun h => absurd h (by decide)) (.inr (.inr (.inl ⟨rfl, rfl⟩)))
      · exact absurd ho hl
  · exact .inr (try_1 h ho)
theorem time_said (h : mayJ p x t now = 0) : SaidJ x (noJ x t) true t (timeT p x t now) (timeL p x t now) := by
  unfold timeT timeL
  rw [if_pos h, if_pos h]
  exact pass_said rfl rfl (fun _ => rfl)
theorem name_ne {k : KJ} (hk : kindB4 k) : (k.name == kF.name) = (decide (k.bit = 2)) ∧ (k.name == kD.name) = decide (k.bit = 1) := by
  rcases hk with rfl | rfl | rfl | rfl <;> exact ⟨rfl, rfl⟩
/-- Who asks. -/
theorem ask_no (hk : kindB4 k) (hn : no = [] ∨ no = [78] ∨ no = [83] ∨ no = [70] ∨ no = [68]) (h : askJ k no f = true) : no ≠ [78] ∧ ((k = kF ∧ (f = true ∨ no = [] ∨ no = [70])) ∨ (k = kD ∧ (f = true ∨ no = [] ∨ no = [68])) ∨ ((k = kS ∨ k = kG) ∧ (f = true ∨ no = [83]))) := by
  rcases hk with rfl | rfl | rfl | rfl <;> rcases hn with rfl | rfl | rfl | rfl | rfl <;> cases f <;> first | (exact absurd h (by decide)) | (refine ⟨by decide, ?_⟩; simp)
end
end Go.Proofs.YtcedhgihebollaaGreatDoor.E.J
