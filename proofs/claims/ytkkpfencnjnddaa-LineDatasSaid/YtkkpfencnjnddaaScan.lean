/-
  Plain mathematics: the reference's cut, byte by byte, and what it has to do with the cutter.
-/
import Derived.Test.YtkkpfencnjnddaaSim
namespace Go.Proofs.Ytkkpfencnjnddaa
/-- The texts of lines, and what stands behind them; cur came before. -/
def sc (cur : List UInt8) : List UInt8 → List (List UInt8) × List UInt8
  | [] => ([], cur)
  | b :: t => if cur.getLast? = some 13 ∧ b = 10 then (cur.dropLast :: (sc [] t).1, (sc [] t).2) else sc (cur ++ [b]) t
theorem sc_append : ∀ (l m cur : List UInt8), sc cur (l ++ m) = ((sc cur l).1 ++ (sc (sc cur l).2 m).1, (sc (sc cur l).2 m).2)
  | [], m, cur => by simp [sc]
  | b :: l, m, cur => by
    by_cases h : cur.getLast? = some 13 ∧ b = 10
    · simp only [List.cons_append, sc, if_pos h, sc_append l m []]
    · simp only [List.cons_append, sc, if_neg h, sc_append l m (cur ++ [b])]
theorem sc_snoc_yes {l cur : List UInt8} {b : UInt8} (h : (sc cur l).2.getLast? = some 13 ∧ b = 10) : sc cur (l ++ [b]) = ((sc cur l).1 ++ [(sc cur l).2.dropLast], []) := by
  rw [sc_append]
  simp only [sc, if_pos h]
theorem sc_snoc_no {l cur : List UInt8} {b : UInt8} (h : ¬ ((sc cur l).2.getLast? = some 13 ∧ b = 10)) : sc cur (l ++ [b]) = ((sc cur l).1, (sc cur l).2 ++ [b]) := by
  rw [sc_append]
  simp only [sc, if_neg h, List.append_nil]

/-- A cutter's state, and the bytes behind the last end. -/
structure Beside (most : Nat) (s : St) (cur : List UInt8) : Prop where
  pend : s.pend = cur.length
  kept : cur.length ≤ most → s.kept = cur
  last : s.last = 13 ↔ cur.getLast? = some 13
theorem Beside.step {most : Nat} {s : St} {cur : List UInt8} (h : Beside most s cur) (b : UInt8) :
    (cur.getLast? = some 13 ∧ b = 10 → (step most s b).2 = [badLine most cur.dropLast] ∧ Beside most (step most s b).1 []) ∧ (¬ (cur.getLast? = some 13 ∧ b = 10) → (step most s b).2 = [] ∧ Beside most (step most s b).1 (cur ++ [b])) := by
  have hk : cur.length + 1 ≤ most → keepB most s b = cur ++ [b] := fun hl => by rw [keepB, if_pos (by rw [h.pend]; exact hl), h.kept (by omega)]
  constructor
  · rintro ⟨h13, rfl⟩
    have he : (s.last == 13 && (10 : UInt8) == 10) = true := by rw [h.last.2 h13]; rfl
    obtain ⟨c, rfl⟩ : ∃ c, cur = c ++ [13] := by
      rw [List.getLast?_eq_some_iff] at h13
      exact h13
    refine ⟨?_, ?_⟩
    · rw [Ytkkpfencnjnddaa.step, if_pos he]
      have hp := h.pend
      simp only [List.length_append, List.length_cons, List.length_nil] at hp hk
      simp only [List.dropLast_concat]
      by_cases hl : most < c.length + 2
      · rw [lineOf, if_pos (by omega), badLine, if_pos hl]
      · have hkk := hk (by omega)
        have h3 : (c ++ [13] ++ [10]).take ((c ++ [13] ++ [10]).length - 2) = c := by simp
        rw [lineOf, if_neg (by omega), hkk, h3, badLine, if_neg hl]
    · rw [Ytkkpfencnjnddaa.step, if_pos he]
      exact ⟨rfl, fun _ => rfl, by simp⟩
  · intro hn
    have he : (s.last == 13 && b == 10) = false := by
      rw [Bool.eq_false_iff]
      intro e
      simp only [Bool.and_eq_true, beq_iff_eq] at e
      exact hn ⟨h.last.1 e.1, e.2⟩
    rw [Ytkkpfencnjnddaa.step, he, if_neg (by decide)]
    refine ⟨rfl, ⟨by show s.pend + 1 = _; rw [h.pend]; simp, fun hl => hk (by simpa using hl), ?_⟩⟩
    show b = 13 ↔ _
    simp
theorem Beside.feed {most : Nat} : ∀ (l : List UInt8) {s : St} {cur : List UInt8}, Beside most s cur → (feed most s l).2 = (sc cur l).1.map (badLine most) ∧ Beside most (feed most s l).1 (sc cur l).2
  | [], _, _, h => ⟨rfl, h⟩
  | b :: l, s, cur, h => by
    obtain ⟨h1, h2⟩ := h.step b
    by_cases hc : cur.getLast? = some 13 ∧ b = 10
    · obtain ⟨e1, e2⟩ := h1 hc
      obtain ⟨k1, k2⟩ := Beside.feed l e2
      simp only [Ytkkpfencnjnddaa.feed, sc, if_pos hc, e1, k1, List.map_cons]
      exact ⟨rfl, k2⟩
    · obtain ⟨e1, e2⟩ := h2 hc
      obtain ⟨k1, k2⟩ := Beside.feed l e2
      simp only [Ytkkpfencnjnddaa.feed, sc, if_neg hc, e1, k1, List.nil_append]
      exact ⟨trivial, k2⟩
theorem feed_sc (most : Nat) (l : List UInt8) : (feed most st0 l).2 = (sc [] l).1.map (badLine most) ∧ (feed most st0 l).1.pend = (sc [] l).2.length := by
  obtain ⟨h1, h2⟩ := Beside.feed (most := most) l (s := st0) (cur := []) ⟨rfl, fun _ => rfl, by simp [st0]⟩
  exact ⟨h1, h2.pend⟩
theorem sc_len : ∀ (l cur : List UInt8), (sc cur l).1.length ≤ l.length ∧ (sc cur l).2.length ≤ cur.length + l.length ∧ ∀ t ∈ (sc cur l).1, t.length ≤ cur.length + l.length
  | [], cur => by simp [sc]
  | b :: l, cur => by
    by_cases h : cur.getLast? = some 13 ∧ b = 10
    · obtain ⟨h1, h2, h3⟩ := sc_len l []
      simp only [List.length_nil, Nat.zero_add] at h2 h3
      simp only [sc, if_pos h, List.length_cons]
      refine ⟨by omega, by omega, fun t ht => ?_⟩
      rcases List.mem_cons.1 ht with rfl | ht
      · rw [List.length_dropLast]; omega
      · have := h3 t ht; omega
    · obtain ⟨h1, h2, h3⟩ := sc_len l (cur ++ [b])
      simp only [List.length_append, List.length_cons, List.length_nil] at h2 h3
      simp only [sc, if_neg h, List.length_cons]
      exact ⟨by omega, by omega, fun t ht => by have := h3 t ht; omega⟩
end Go.Proofs.Ytkkpfencnjnddaa
