/-
  Plain mathematics: a line of any bytes without an end in it; the lines behind a line are as they would be.
-/
import Derived.Test.YtkkpfencnjnddaaBack
namespace Go.Proofs.Ytkkpfencnjnddaa
/-- No end stands in these bytes, that come behind that one. -/
def noEnd : UInt8 → List UInt8 → Bool
  | _, [] => true
  | a, b :: t => !(a == 13 && b == 10) && noEnd b t
theorem noEnd_of : ∀ (l : List UInt8) (a : UInt8), ¬ (a = 13 ∧ l[0]? = some 10) → (∀ j : Nat, ¬ (l[j]? = some 13 ∧ l[j + 1]? = some 10)) → noEnd a l = true
  | [], _, _, _ => rfl
  | b :: t, a, h0, h => by
    have h1 : (a == 13 && b == 10) = false := by
      rw [Bool.eq_false_iff]
      intro e
      simp only [Bool.and_eq_true, beq_iff_eq] at e
      exact h0 ⟨e.1, by simp [e.2]⟩
    rw [noEnd, h1, noEnd_of t b (fun e => h 0 ⟨by simp [e.1], by simpa using e.2⟩) (fun j e => h (j + 1) ⟨by simpa using e.1, by simpa using e.2⟩)]
    rfl
theorem feed_noEnd (most : Nat) : ∀ (t : List UInt8) (s : St), noEnd s.last t = true → ∃ K last, feed most s t = (⟨K, s.pend + t.length, last, s.lines⟩, []) ∧ (s.pend + t.length ≤ most → K = s.kept ++ t)
  | [], s, _ => ⟨s.kept, s.last, by simp [feed], fun _ => by simp⟩
  | b :: t, s, h => by
    simp only [noEnd, Bool.and_eq_true, Bool.not_eq_true'] at h
    have hst : step most s b = (⟨keepB most s b, s.pend + 1, b, s.lines⟩, []) := by rw [step, h.1, if_neg (by decide)]
    obtain ⟨K, last, he, hk⟩ := feed_noEnd most t ⟨keepB most s b, s.pend + 1, b, s.lines⟩ h.2
    refine ⟨K, last, ?_, fun hl => ?_⟩
    · rw [feed, hst, he]
      simp only [List.length_cons, List.append_nil, Prod.mk.injEq, St.mk.injEq, true_and, and_true]
      omega
    · simp only [List.length_cons] at hl
      rw [hk (by show s.pend + 1 + t.length ≤ most; omega)]
      show keepB most s b ++ t = _
      rw [keepB, if_pos (by omega)]
      simp
/-- What is told of one line of these bytes. -/
def badLine (most : Nat) (t : List UInt8) : List UInt8 × Int := if most < t.length + 2 then ([], 3) else if plainB t then (t, 0) else ([], 2)
theorem feed_bad (most : Nat) (t : List UInt8) (h : noEnd 0 t = true) : feed most st0 (t ++ [13, 10]) = (⟨[], 0, 10, 1⟩, [badLine most t]) := by
  obtain ⟨K, last, he, hk⟩ := feed_noEnd most t st0 h
  have e0 : st0.pend = 0 ∧ st0.kept = [] ∧ st0.lines = 0 := ⟨rfl, rfl, rfl⟩
  rw [e0.1, e0.2.2, Nat.zero_add] at he
  rw [e0.1, e0.2.1, Nat.zero_add, List.nil_append] at hk
  rw [feed_append, he]
  have s1 : step most ⟨K, t.length, last, 0⟩ 13 = (⟨keepB most ⟨K, t.length, last, 0⟩ 13, t.length + 1, 13, 0⟩, []) := by
    have e : (last == 13 && (13 : UInt8) == 10) = false := by rw [Bool.and_eq_false_iff]; exact .inr rfl
    rw [step, e, if_neg (by decide)]
  generalize hK1 : keepB most ⟨K, t.length, last, 0⟩ 13 = K1 at s1
  have s2 : step most ⟨K1, t.length + 1, 13, 0⟩ 10 = (⟨[], 0, 10, 1⟩, [badLine most t]) := by
    have e2 : lineOf most (t.length + 1 + 1) (keepB most ⟨K1, t.length + 1, 13, 0⟩ 10) = badLine most t := by
      by_cases hl : most < t.length + 2
      · rw [lineOf, if_pos (by omega), badLine, if_pos hl]
      · have hK : K = t := hk (by omega)
        have h1 : K1 = t ++ [13] := by rw [← hK1, keepB, if_pos (by show t.length + 1 ≤ most; omega), hK]
        have h2 : keepB most ⟨K1, t.length + 1, 13, 0⟩ 10 = t ++ [13, 10] := by rw [keepB, if_pos (by show t.length + 1 + 1 ≤ most; omega), h1]; simp
        have h3 : (t ++ [13, 10]).take ((t ++ [13, 10]).length - 2) = t := by simp
        rw [h2, lineOf, if_neg (by omega), h3, badLine, if_neg hl]
    rw [step, if_pos (show ((13 : UInt8) == 13 && (10 : UInt8) == 10) = true from rfl), e2]
  simp only [feed, s1, s2, List.nil_append, List.append_nil]

/-- Two states that go on alike. -/
structure Sim (s s' : St) : Prop where
  kept : s.kept = s'.kept
  pend : s.pend = s'.pend
  last : s.last = s'.last ∨ s.last ≠ 13 ∧ s'.last ≠ 13
theorem Sim.step {most : Nat} {s s' : St} (h : Sim s s') (b : UInt8) : Sim (step most s b).1 (step most s' b).1 ∧ (step most s b).2 = (step most s' b).2 := by
  have hk : keepB most s b = keepB most s' b := by rw [keepB, keepB, h.pend, h.kept]
  have he : (s.last == 13 && b == 10) = (s'.last == 13 && b == 10) := by
    rcases h.last with e | ⟨h1, h2⟩
    · rw [e]
    · rw [beq_eq_false_iff_ne.2 h1, beq_eq_false_iff_ne.2 h2]
  unfold Ytkkpfencnjnddaa.step
  rw [he]
  split
  · exact ⟨⟨rfl, rfl, .inl rfl⟩, by rw [h.pend, hk]⟩
  · exact ⟨⟨hk, by show s.pend + 1 = s'.pend + 1; rw [h.pend], .inl rfl⟩, rfl⟩
theorem Sim.feed {most : Nat} : ∀ (l : List UInt8) {s s' : St}, Sim s s' → Sim (feed most s l).1 (feed most s' l).1 ∧ (feed most s l).2 = (feed most s' l).2
  | [], _, _, h => ⟨h, rfl⟩
  | b :: l, s, s', h => by
    obtain ⟨h1, h2⟩ := h.step (most := most) b
    obtain ⟨k1, k2⟩ := Sim.feed l h1
    exact ⟨k1, by simp only [Ytkkpfencnjnddaa.feed, h2, k2]⟩
theorem sim0 : Sim ⟨[], 0, 10, 1⟩ st0 := ⟨rfl, rfl, .inr ⟨by decide, by decide⟩⟩
end Go.Proofs.Ytkkpfencnjnddaa
