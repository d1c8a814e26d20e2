/-
  What is scanned of frames that are cut off, of which one byte is turned; sums of bytes of which some bits side by side are turned.
-/
import Derived.Test.YtfejepkpjoieoaaFrMath
namespace Go.Proofs.Ytfejepkpjoieoaa
set_option maxRecDepth 100000
theorem framesF_at {l : List Txt} {k : Nat} {t : Txt} (h : l[k]? = some t) : framesF l = framesF (l.take k) ++ (frameF t ++ framesF (l.drop (k + 1))) := by
  obtain ⟨hk, e⟩ := List.getElem?_eq_some_iff.1 h
  rw [← framesF_cons, ← framesF_append, ← e, ← List.drop_eq_getElem_cons hk, List.take_append_drop]
theorem cut_scan {l : List Txt} {k cut : Nat} (hl : ∀ t ∈ l, t.length ≤ 65535) (h1 : (framesF (l.take k)).length ≤ cut) (h2 : ∀ t, l[k]? = some t → cut < (framesF (l.take k)).length + (t.length + 10)) : scanF ((framesF l).take cut) = l.take k := by
  have hk : ∀ t ∈ l.take k, t.length ≤ 65535 := fun t ht => hl t (List.mem_of_mem_take ht)
  cases e : l[k]? with
  | none =>
    have hlen : l.length ≤ k := List.getElem?_eq_none_iff.1 e
    rw [List.take_of_length_le hlen] at h1 ⊢
    rw [List.take_of_length_le h1]
    have := scanF_is (l := l) (t := []) hl first_nil
    rwa [List.append_nil] at this
  | some t =>
    have h3 := h2 t e
    have ht := hl t (List.mem_of_getElem? e)
    rw [framesF_at e, List.take_append, List.take_of_length_le h1]
    refine scanF_is hk ?_
    rw [List.take_append, show cut - (framesF (l.take k)).length - (frameF t).length = 0 by rw [frameF_len]; omega, List.take_zero, List.append_nil]
    refine first_cut ht (List.take_append_drop (cut - (framesF (l.take k)).length) (frameF t)).symm ?_
    intro h
    have := congrArg List.length h
    rw [List.length_drop, frameF_len] at this
    simp at this
    omega
theorem turned_scan {l : List Txt} {k at_ : Nat} {t : Txt} {b x : UInt8} (hl : ∀ t ∈ l, t.length ≤ 65535) (ht : l[k]? = some t) (h1 : (framesF (l.take k)).length ≤ at_) (h2 : at_ < (framesF (l.take k)).length + (t.length + 10)) (hb : (framesF l)[at_]? = some b) (hx : x ≠ 0) :
    scanF ((framesF l).set at_ (b ^^^ x)) = l.take k := by
  have hk : ∀ t ∈ l.take k, t.length ≤ 65535 := fun t ht => hl t (List.mem_of_mem_take ht)
  rw [framesF_at ht, List.getElem?_append_right h1, List.getElem?_append_left (by rw [frameF_len]; omega)] at hb
  rw [framesF_at ht, List.set_append_right _ _ h1, List.set_append_left _ _ (by rw [frameF_len]; omega)]
  exact scanF_is hk (first_turned (hl t (List.mem_of_getElem? ht)) hb hx _)
/-- The bits so far. -/
theorem mod_bit (x i : Nat) : x % 2 ^ (i + 1) = x % 2 ^ i ^^^ (x / 2 ^ i % 2) * 2 ^ i := by
  apply Nat.eq_of_testBit_eq
  intro j
  rw [Nat.testBit_xor, Nat.testBit_mod_two_pow, Nat.testBit_mod_two_pow]
  have hd : x / 2 ^ i % 2 = if x.testBit i then 1 else 0 := by
    rw [Nat.testBit_eq_decide_div_mod_eq]
    rcases Nat.mod_two_eq_zero_or_one (x / 2 ^ i) with h | h <;> simp [h]
  rw [hd]
  by_cases hx : x.testBit i = true
  · rw [if_pos hx, Nat.one_mul, Nat.testBit_two_pow]
    by_cases e : i = j
    · subst e; simp [hx]
    · by_cases hj : j < i
      · simp [hj, e, show j < i + 1 by omega]
      · simp [hj, e, show ¬ j < i + 1 by omega]
  · rw [if_neg hx, Nat.zero_mul, Nat.zero_testBit]
    by_cases e : i = j
    · subst e; simp at hx; simp [hx]
    · by_cases hj : j < i
      · simp [hj, show j < i + 1 by omega]
      · simp [hj, show ¬ j < i + 1 by omega]
/-- Behind i bits of turn, from bit a on. -/
def turnF (s : Txt) (a turn i : Nat) (b : Txt) : Prop := b.length = s.length ∧ leF b = leF s ^^^ turn % 2 ^ i * 2 ^ a
theorem turnF_zero (s : Txt) (a turn : Nat) : turnF s a turn 0 s := ⟨rfl, by simp [Nat.mod_one]⟩
theorem turnF_no {s b : Txt} {a turn i : Nat} (h : turnF s a turn i b) (hb : turn / 2 ^ i % 2 = 0) : turnF s a turn (i + 1) b := by
  refine ⟨h.1, ?_⟩
  rw [h.2, mod_bit, hb, Nat.zero_mul, Nat.xor_zero]
theorem turnF_yes {s b : Txt} {a turn i k m : Nat} {x y : UInt8} (h : turnF s a turn i b) (hb : turn / 2 ^ i % 2 = 1) (hx : b[k]? = some x) (hy : y.toNat = 2 ^ m) (he : 8 * k + m = a + i) : turnF s a turn (i + 1) (b.set k (x ^^^ y)) := by
  refine ⟨by rw [List.length_set]; exact h.1, ?_⟩
  rw [leF_set b k x y hx, h.2, mod_bit, hb, Nat.one_mul, hy, xor_mul, ← Nat.pow_add, ← Nat.pow_add, Nat.xor_assoc, show m + 8 * k = i + a by omega]
theorem turnF_sum {s b : Txt} {a turn : Nat} (h : turnF s a turn 32 b) (ht : turn < 4294967296) (h0 : turn ≠ 0) (ha : a ≤ 8 * s.length) : sumF b ≠ sumF s := by
  have e := h.2
  rw [Nat.mod_eq_of_lt (show turn < 2 ^ 32 from ht)] at e
  refine sum_ne h.1 ht h0 (by rw [h.1]; exact ha) ?_
  rw [e, Nat.xor_comm (leF s), Nat.xor_assoc, Nat.xor_self, Nat.xor_zero]
end Go.Proofs.Ytfejepkpjoieoaa
