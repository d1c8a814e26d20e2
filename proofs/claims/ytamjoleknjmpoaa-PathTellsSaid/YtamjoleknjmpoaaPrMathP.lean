/-
  Plain mathematics of the reference's Parse: the ways that it goes, in Parse's own words.
-/
import Derived.Test.YtamjoleknjmpoaaPtMath
namespace Go.Proofs.Ytamjoleknjmpoaa
abbrev none2 : Pth × List UInt8 × Int := (([], []), [], 2)
theorem endV_false (a b : List UInt8) : endV a b false = none2 := rfl
theorem endV_true (a b : List UInt8) : endV a b true = if hasC 62 b && labels (preC 62 b) then (if longB (a, smallL (preC 62 b)) then (([], []), [], 3) else ((a, smallL (preC 62 b)), postC 62 b, 0)) else none2 := rfl
theorem parse_short {s : List UInt8} (h : s.length < 2) : parseV s = none2 := by
  match s, h with
  | [], _ => rfl
  | [b], _ =>
    rw [parseV]
    split
    · rfl
    · rfl
theorem parse_head {s : List UInt8} (h : s.head? ≠ some 60) : parseV s = none2 := by rw [parseV, if_neg (by simpa using h)]
theorem parse_null (r : List UInt8) : parseV (60 :: 62 :: r) = (([], []), r, 0) := by
  obtain ⟨c1, c2, c3⟩ := cut_at (c := 62) (a := []) r (by simp)
  simp only [List.nil_append] at c1 c2 c3
  simp [parseV, aloneV, c1, c2, c3]
theorem alone_q (u : List UInt8) : aloneV (34 :: u) = none := by
  have e3 : preC 62 (34 :: u) = 34 :: preC 62 u := by simp [preC]
  refine alone_no (by rw [e3]; simp) ?_
  rw [e3]
  intro hc
  have : (smallL (34 :: preC 62 u)).head? = pmL.head? := by rw [hc]
  simp [smallL, pmL, smallB, capB] at this
theorem parse_q (u : List UInt8) : parseV (60 :: 34 :: u) = endV (unqV u).1 (cutP 64 (unqV u).2.1).1 ((unqV u).2.2 && (cutP 64 (unqV u).2.1).2 && (unqV u).1 != []) := by
  rw [parseV]
  simp only [List.head?_cons, List.drop_succ_cons, List.drop_zero, alone_q, localV, beq_self_eq_true, if_true]
theorem parse_q0 {u : List UInt8} (h : unqL u false [] = none) : parseV (60 :: 34 :: u) = none2 := by rw [parse_q, unqV, h]; rfl
theorem parse_q1 {u r : List UInt8} (h : unqL u false [] = some ([], r)) : parseV (60 :: 34 :: u) = none2 := by rw [parse_q, unqV, h]; simp [endV]
theorem parse_q2 {u a r : List UInt8} (h : unqL u false [] = some (a, r)) (hr : r.head? ≠ some 64) : parseV (60 :: 34 :: u) = none2 := by
  rw [parse_q, unqV, h]
  simp [endV, cutP, hr]
theorem parse_q3 {u a b : List UInt8} (h : unqL u false [] = some (a, 64 :: b)) (ha : a ≠ []) : parseV (60 :: 34 :: u) = endV a b true := by
  rw [parse_q, unqV, h]
  cases a with
  | nil => exact absurd rfl ha
  | cons y l =>
    rw [show (y :: l != []) = true from rfl]
    simp [cutP]
/-- The bytes of a text ahead of the first @ or >. -/
def Free (l : List UInt8) : Prop := 64 ∉ l ∧ 62 ∉ l
theorem has_no {c : UInt8} {l : List UInt8} (h : c ∉ l) : hasC c l = false := by simpa [hasC] using h
theorem parse_d {x : UInt8} {t : List UInt8} (h34 : x ≠ 34) (ha : aloneV (x :: t) = none) : parseV (60 :: x :: t) = endV (preC 64 (x :: t)) (postC 64 (x :: t)) (hasC 64 (x :: t) && atoms (preC 64 (x :: t))) := by
  rw [parseV]
  simp only [List.head?_cons, List.drop_succ_cons, List.drop_zero, ha, localV, beq_self_eq_true, if_true]
  rw [if_neg (by simpa using h34)]
theorem pm_atoms {l : List UInt8} (h : smallL l = pmL) : atoms l = true := by
  have hb : ∀ b ∈ l, plainB b = true ∧ b ≠ 46 := by
    intro b hb
    have h1 : smallB b ∈ pmL := by rw [← h]; exact List.mem_map.2 ⟨b, hb, rfl⟩
    have := all_bytes (P := fun b => !pmL.contains (smallB b) || (plainB b && b != 46)) (by decide +kernel) b
    rw [show pmL.contains (smallB b) = true by simpa using h1] at this
    simpa using this
  have h46 : hasC 46 l = false := has_no fun h' => (hb 46 h').2 rfl
  have hne : l ≠ [] := by rintro rfl; simp [smallL, pmL] at h
  rw [atoms, splitD_no h46]
  simp only [List.all_cons, List.all_nil, Bool.and_true, isAtom, Bool.and_eq_true, bne_iff_ne]
  refine ⟨hne, List.all_eq_true.2 fun b hb' => ?_⟩
  rw [atomB, (hb b hb').1]
  rfl
theorem parse_d0 {x : UInt8} {t : List UInt8} (h34 : x ≠ 34) (hf : Free (x :: t)) : parseV (60 :: x :: t) = none2 := by
  have ha : aloneV (x :: t) = none := by rw [aloneV, has_no hf.2, if_neg (by simp)]
  rw [parse_d h34 ha, has_no hf.1]
  rfl
theorem parse_d1 {loc r : List UInt8} {x : UInt8} {t : List UInt8} (h34 : x ≠ 34) (h62 : x ≠ 62) (ht : x :: t = loc ++ 62 :: r) (hf : Free loc) :
    parseV (60 :: x :: t) = if atoms loc && smallL loc == pmL then ((pmL, []), r, 0) else none2 := by
  obtain ⟨c1, c2, c3⟩ := cut_at r hf.2
  have hne : loc ≠ [] := by
    rintro rfl
    injection ht with h _
    exact h62 h
  by_cases hp : smallL loc = pmL
  · have ha : aloneV (x :: t) = some ((pmL, []), r) := by
      rw [ht, aloneV, if_pos c1, c2, c3, if_neg (by simpa using hne), if_pos (by simpa using hp)]
    rw [pm_atoms hp, hp]
    rw [parseV]
    simp only [List.head?_cons, List.drop_succ_cons, List.drop_zero, ha, beq_self_eq_true, if_true, Bool.and_self]
  · have ha : aloneV (x :: t) = none := alone_no (by rw [ht, c2]; exact hne) (by rw [ht, c2]; exact hp)
    rw [if_neg (by simp [hp]), parse_d h34 ha]
    have hat : (hasC 64 (x :: t) && atoms (preC 64 (x :: t))) = false := by
      rw [ht]
      cases h64 : hasC 64 (loc ++ 62 :: r)
      · rfl
      · rw [Bool.true_and]
        cases hq : atoms (preC 64 (loc ++ 62 :: r))
        · rfl
        · exfalso
          have hm : (62 : UInt8) ∈ preC 64 (loc ++ 62 :: r) := by
            have hl : ∀ y ∈ loc, (y != 64) = true := fun y hy => bne_iff_ne.2 fun e => hf.1 (e ▸ hy)
            rw [preC, List.takeWhile_append_of_pos hl]
            simp
          exact (atoms_frame hq).2.1 hm
    rw [hat]
    rfl
theorem parse_d2 {loc b : List UInt8} {x : UInt8} {t : List UInt8} (h34 : x ≠ 34) (ht : x :: t = loc ++ 64 :: b) (hf : Free loc) :
    parseV (60 :: x :: t) = if atoms loc then endV loc b true else none2 := by
  obtain ⟨c1, c2, c3⟩ := cut_at b hf.1
  have ha : aloneV (x :: t) = none := by
    rw [ht]
    cases h62 : hasC 62 (loc ++ 64 :: b)
    · rw [aloneV, h62, if_neg (by simp)]
    · have hm : (64 : UInt8) ∈ preC 62 (loc ++ 64 :: b) := by
        have hl : ∀ y ∈ loc, (y != 62) = true := fun y hy => bne_iff_ne.2 fun e => hf.2 (e ▸ hy)
        rw [preC, List.takeWhile_append_of_pos hl]
        simp
      refine alone_no (fun h => by rw [h] at hm; simp at hm) (fun h => ?_)
      have : (64 : UInt8) ∈ pmL := by rw [← h]; exact List.mem_map.2 ⟨64, hm, by decide⟩
      exact absurd this (by decide)
  rw [parse_d h34 ha, ht, c1, c2, c3]
  cases atoms loc <;> rfl
/- What stands between quotes, one sign at a time. -/
theorem unq_end34 {t acc : List UInt8} : unqL (34 :: t) false acc = some (acc, t) := by
  rw [unqL, if_pos (by decide), if_pos (by decide)]
theorem unq_stop {x : UInt8} {t acc : List UInt8} {m : Bool} (h : printB x = false) : unqL (x :: t) m acc = none := by rw [unqL, h]; rfl
theorem unq_lone {acc : List UInt8} : unqL [92] false acc = none := by
  rw [unqL, if_pos (by decide), if_neg (by decide), if_pos (by decide), unqL]
theorem unq_back {y : UInt8} {t acc : List UInt8} : unqL (92 :: y :: t) false acc = if printB y then unqL t false (acc ++ [y]) else none := by
  rw [unqL, if_pos (by decide), if_neg (by decide), if_pos (by decide), unqL]
  rfl
theorem unq_more {x : UInt8} {t acc : List UInt8} (h : printB x = true) (h34 : x ≠ 34) (h92 : x ≠ 92) : unqL (x :: t) false acc = unqL t false (acc ++ [x]) := by
  rw [unqL, if_pos h, if_neg (by simp [h34]), if_neg (by simp [h92])]
theorem free_take {s : List UInt8} {k : Nat} {x : UInt8} (hk : 1 ≤ k) (hx : s[k]? = some x) (h : Free ((s.take k).drop 1)) (h1 : x ≠ 64) (h2 : x ≠ 62) : Free ((s.take (k + 1)).drop 1) ∧ (s.take (k + 1)).drop 1 = (s.take k).drop 1 ++ [x] := by
  obtain ⟨hlt, e⟩ := List.getElem?_eq_some_iff.1 hx
  have he : (s.take (k + 1)).drop 1 = (s.take k).drop 1 ++ [x] := by
    rw [List.take_succ_eq_append_getElem hlt, e, List.drop_append_of_le_length (by rw [List.length_take]; omega)]
  refine ⟨?_, he⟩
  rw [he]
  refine ⟨fun hm => ?_, fun hm => ?_⟩
  · rcases List.mem_append.1 hm with hm | hm
    · exact h.1 hm
    · simp at hm; exact h1 hm.symm
  · rcases List.mem_append.1 hm with hm | hm
    · exact h.2 hm
    · simp at hm; exact h2 hm.symm
end Go.Proofs.Ytamjoleknjmpoaa
