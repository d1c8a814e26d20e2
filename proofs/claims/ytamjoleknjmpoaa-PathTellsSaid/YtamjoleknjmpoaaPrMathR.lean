/-
  Plain mathematics of the reference: parts, cut one by one.
-/
import Derived.Test.YtamjoleknjmpoaaPtMath
namespace Go.Proofs.Ytamjoleknjmpoaa
theorem splitG_form : ∀ (l acc : List UInt8), ∃ done cur, splitG acc l = done ++ [cur]
  | [], acc => ⟨[], acc, rfl⟩
  | x :: t, acc => by
    rw [splitG]
    split
    · obtain ⟨d, c, h⟩ := splitG_form t []
      exact ⟨acc :: d, c, by rw [h]; rfl⟩
    · exact splitG_form t _
theorem splitG_snoc (b : UInt8) : ∀ (l acc : List UInt8) (done : List (List UInt8)) (cur : List UInt8), splitG acc l = done ++ [cur] → splitG acc (l ++ [b]) = if b == 46 then done ++ [cur] ++ [[]] else done ++ [cur ++ [b]]
  | [], acc, done, cur, h => by
    have h' : [] ++ [acc] = done ++ [cur] := h
    obtain ⟨h1, h2⟩ := List.append_inj' h' rfl
    injection h2 with h2 _
    subst h1; subst h2
    rw [List.nil_append, splitG]
    split <;> simp [splitG]
  | x :: t, acc, done, cur, h => by
    rw [List.cons_append, splitG]
    rw [splitG] at h
    split
    · rename_i hx
      rw [if_pos hx] at h
      obtain ⟨d, c, hd⟩ := splitG_form t []
      rw [hd] at h
      have h' : (acc :: d) ++ [c] = done ++ [cur] := h
      obtain ⟨h1, h2⟩ := List.append_inj' h' rfl
      injection h2 with h2 _
      subst h1; subst h2
      rw [splitG_snoc b t [] d c hd]
      split <;> simp
    · rename_i hx
      rw [if_neg hx] at h
      exact splitG_snoc b t _ done cur h
/-- What holds in the loop that cuts: the parts that are over, and the one that began at place f. -/
structure CutAt (s : List UInt8) (i f : Nat) (done : List (List UInt8)) : Prop where
  le : f ≤ i
  eq : splitG [] (s.take i) = done ++ [(s.take i).drop f]
theorem CutAt.zero (s : List UInt8) : CutAt s 0 0 [] := ⟨Nat.le_refl _, by simp [splitG]⟩
theorem CutAt.dot {s : List UInt8} {i f : Nat} {done : List (List UInt8)} (h : CutAt s i f done) (hi : s[i]? = some 46) : CutAt s (i + 1) (i + 1) (done ++ [(s.take i).drop f]) := by
  obtain ⟨hk, e⟩ := List.getElem?_eq_some_iff.1 hi
  refine ⟨Nat.le_refl _, ?_⟩
  have := splitG_snoc 46 (s.take i) [] done _ h.eq
  rw [if_pos (by simp)] at this
  rw [List.take_succ_eq_append_getElem hk, e, this]
  congr 1
  rw [List.drop_eq_nil_of_le (by simp; omega)]
theorem CutAt.step {s : List UInt8} {i f : Nat} {done : List (List UInt8)} {b : UInt8} (h : CutAt s i f done) (hi : s[i]? = some b) (hb : (b == 46) = false) : CutAt s (i + 1) f done := by
  obtain ⟨hk, e⟩ := List.getElem?_eq_some_iff.1 hi
  have := splitG_snoc b (s.take i) [] done _ h.eq
  rw [if_neg (by rw [hb]; exact Bool.false_ne_true)] at this
  refine ⟨Nat.le_succ_of_le h.le, ?_⟩
  rw [List.take_succ_eq_append_getElem hk, e, this, List.drop_append_of_le_length (by rw [List.length_take]; have := h.le; omega)]
theorem CutAt.all {s : List UInt8} {f : Nat} {done : List (List UInt8)} (h : CutAt s s.length f done) : splitD s = done ++ [s.drop f] := by
  have := h.eq
  rw [List.take_length] at this
  exact this
/-- Letters and digits, signs of atoms, in the reference's words. -/
theorem letter_eq (b : UInt8) : ((decide (97 ≤ (smallB b).toNat) && decide ((smallB b).toNat ≤ 122)) || (decide (48 ≤ (smallB b).toNat) && decide ((smallB b).toNat ≤ 57))) = plainB b :=
  beq_iff_eq.1 (all_bytes (P := fun b => ((decide (97 ≤ (smallB b).toNat) && decide ((smallB b).toNat ≤ 122)) || (decide (48 ≤ (smallB b).toNat) && decide ((smallB b).toNat ≤ 57))) == plainB b) (by decide +kernel) b)
def signsR : List UInt8 := [33, 35, 36, 37, 38, 39, 42, 43, 45, 47, 61, 63, 94, 95, 124, 126, 123, 125]
theorem atom_eq (b : UInt8) : atomB b = (plainB b || signsR.contains b || b == 96) :=
  beq_iff_eq.1 (all_bytes (P := fun b => atomB b == (plainB b || signsR.contains b || b == 96)) (by decide +kernel) b)
theorem alls_take {l : List (List UInt8)} {p : List UInt8 → Bool} {k : Nat} {x : List UInt8} (hx : l[k]? = some x) (h : (l.take k).all p = true) (hp : p x = true) : (l.take (k + 1)).all p = true := by
  obtain ⟨hk, e⟩ := List.getElem?_eq_some_iff.1 hx
  rw [List.take_succ_eq_append_getElem hk, List.all_append, h, e]
  simp [hp]
theorem alls_not {l : List (List UInt8)} {p : List UInt8 → Bool} {k : Nat} {x : List UInt8} (hx : l[k]? = some x) (hp : p x = false) : l.all p = false := by
  rw [List.all_eq_false]
  exact ⟨x, List.mem_of_getElem? hx, by rw [hp]; exact Bool.false_ne_true⟩
end Go.Proofs.Ytamjoleknjmpoaa
