/-
  Plain mathematics: what a cutter is after the bytes that it was fed, and which lines it gave.
-/
import Derived.Test.YtkkpfencnjnddaaWhole
namespace Go.Proofs.Ytkkpfencnjnddaa
structure St where
  kept : List UInt8
  pend : Nat
  last : UInt8
  lines : Nat

def keepB (most : Nat) (s : St) (b : UInt8) : List UInt8 := if s.pend + 1 ≤ most then s.kept ++ [b] else s.kept
def step (most : Nat) (s : St) (b : UInt8) : St × List (List UInt8 × Int) :=
  if (s.last == 13 && b == 10) = true then (⟨[], 0, b, s.lines + 1⟩, [lineOf most (s.pend + 1) (keepB most s b)]) else (⟨keepB most s b, s.pend + 1, b, s.lines⟩, [])
def feed (most : Nat) : St → List UInt8 → St × List (List UInt8 × Int)
  | s, [] => (s, [])
  | s, b :: l => ((feed most (step most s b).1 l).1, (step most s b).2 ++ (feed most (step most s b).1 l).2)

theorem feed_append (most : Nat) : ∀ (l m : List UInt8) (s : St), feed most s (l ++ m) = ((feed most (feed most s l).1 m).1, (feed most s l).2 ++ (feed most (feed most s l).1 m).2)
  | [], m, s => by simp [feed]
  | b :: l, m, s => by simp only [List.cons_append, feed, feed_append most l m, List.append_assoc]
theorem feed_snoc (most : Nat) (l : List UInt8) (b : UInt8) (s : St) : feed most s (l ++ [b]) = ((step most (feed most s l).1 b).1, (feed most s l).2 ++ (step most (feed most s l).1 b).2) := by
  rw [feed_append]; simp [feed]

/-- What holds of every state. -/
structure Inv (most : Nat) (s : St) : Prop where
  len : s.kept.length = min s.pend most
  cr : s.last = 13 → 1 ≤ s.pend
theorem keepB_len {most : Nat} {s : St} (h : Inv most s) (b : UInt8) : (keepB most s b).length = min (s.pend + 1) most := by
  have := h.len
  unfold keepB
  split
  · simp; omega
  · omega
theorem Inv.step {most : Nat} {s : St} (h : Inv most s) (b : UInt8) : Inv most (step most s b).1 := by
  have hl := keepB_len h b
  unfold Ytkkpfencnjnddaa.step
  split
  · rename_i he
    simp only [Bool.and_eq_true, beq_iff_eq] at he
    exact ⟨by simp, fun e => by have e' : b = 13 := e; rw [he.2] at e'; exact absurd e' (by decide)⟩
  · exact ⟨hl, fun _ => by simp⟩
theorem Inv.feed {most : Nat} : ∀ (l : List UInt8) {s : St}, Inv most s → Inv most (feed most s l).1
  | [], _, h => h
  | b :: l, _, h => Inv.feed l (h.step b)
theorem step_count (most : Nat) (s : St) (b : UInt8) : (step most s b).1.pend ≤ s.pend + 1 ∧ (step most s b).1.lines = s.lines + (step most s b).2.length ∧ (step most s b).2.length ≤ 1 := by
  unfold step
  split <;> simp
theorem feed_count (most : Nat) : ∀ (l : List UInt8) (s : St), (feed most s l).1.pend ≤ s.pend + l.length ∧ (feed most s l).1.lines = s.lines + (feed most s l).2.length ∧ (feed most s l).2.length ≤ l.length
  | [], s => by simp [feed]
  | b :: l, s => by
    obtain ⟨h1, h2, h3⟩ := step_count most s b
    obtain ⟨k1, k2, k3⟩ := feed_count most l (step most s b).1
    simp only [feed, List.length_append, List.length_cons]
    omega
end Go.Proofs.Ytkkpfencnjnddaa
