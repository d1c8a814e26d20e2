/-
  Plain mathematics: the lines of bytes, cut one by one, are those that the reference cuts at once; what Undata answers, in the reference's words.
-/
import Derived.Test.YtkkpfencnjnddaaScan
namespace Go.Proofs.Ytkkpfencnjnddaa
theorem occ_iff (r : List UInt8) (i : Nat) : Lib.occAt r [13, 10] i = true ↔ r[i]? = some 13 ∧ r[i + 1]? = some 10 := by
  have e0 : r[i]? = (r.drop i)[0]? := by rw [List.getElem?_drop]; rfl
  have e1 : r[i + 1]? = (r.drop i)[1]? := by rw [List.getElem?_drop]
  rw [e0, e1, Lib.occAt]
  match r.drop i with
  | [] => simp [List.isPrefixOf]
  | [a] => simp [List.isPrefixOf]
  | a :: b :: t =>
    simp only [List.isPrefixOf, Bool.and_eq_true, beq_iff_eq, Bool.and_true, List.getElem?_cons_zero, List.getElem?_cons_succ, Option.some.injEq]
    exact ⟨fun ⟨h1, h2⟩ => ⟨h1.symm, h2.symm⟩, fun ⟨h1, h2⟩ => ⟨h1.symm, h2.symm⟩⟩
/-- No end within the first n bytes (its second byte stands ahead of n). -/
def NoCut (r : List UInt8) (n : Nat) : Prop := ∀ j, j + 1 < n → ¬ (r[j]? = some 13 ∧ r[j + 1]? = some 10)
theorem sc_none (r : List UInt8) : ∀ n, n ≤ r.length → NoCut r n → sc [] (r.take n) = ([], r.take n)
  | 0, _, _ => by simp [sc]
  | n + 1, hn, h => by
    have ih := sc_none r n (by omega) (fun j hj => h j (by omega))
    have hlt : n < r.length := by omega
    rw [List.take_succ_eq_append_getElem hlt]
    have hy : ¬ ((sc [] (r.take n)).2.getLast? = some 13 ∧ r[n] = 10) := by
      rw [ih]
      rintro ⟨h1, h2⟩
      cases n with
      | zero => simp at h1
      | succ m =>
        simp only at h1
        rw [List.take_succ_eq_append_getElem (by omega), List.getLast?_append] at h1
        simp at h1
        exact h m (by omega) ⟨by rw [List.getElem?_eq_getElem (by omega), h1], by rw [List.getElem?_eq_getElem hlt, h2]⟩
    rw [sc_snoc_no hy, ih]
theorem cutE_sc (r : List UInt8) : ((cutE r).2.2 = true ∧ sc [] r = ((cutE r).1 :: (sc [] (cutE r).2.1).1, (sc [] (cutE r).2.1).2) ∧ r = (cutE r).1 ++ ([13, 10] ++ (cutE r).2.1)) ∨ ((cutE r).2.2 = false ∧ sc [] r = ([], r)) := by
  rcases Lib.index_spec r [13, 10] with ⟨h, hn⟩ | ⟨i, h, hi, ho, hn⟩
  · refine .inr ⟨by unfold cutE Lib.cut; rw [h]; rfl, ?_⟩
    have := sc_none r r.length (Nat.le_refl _) (fun j hj hc => by
      have := hn j (by omega)
      rw [(occ_iff r j).2 hc] at this
      cases this)
    rw [List.take_length] at this
    exact this
  · refine .inl ?_
    have ec : cutE r = (r.take i, r.drop (i + 2), true) := by
      unfold cutE Lib.cut
      rw [h, if_pos (by omega)]
      simp
    obtain ⟨o1, o2⟩ := (occ_iff r i).1 ho
    obtain ⟨l1, o1⟩ := List.getElem?_eq_some_iff.1 o1
    obtain ⟨l2, o2⟩ := List.getElem?_eq_some_iff.1 o2
    have er : r = r.take i ++ ([13, 10] ++ r.drop (i + 2)) := by
      conv => lhs; rw [← List.take_append_drop i r, List.drop_eq_getElem_cons l1, List.drop_eq_getElem_cons l2, o1, o2]
      rfl
    rw [ec]
    refine ⟨rfl, ?_, er⟩
    have h1 := sc_none r (i + 1) (by omega) (fun j hj hc => by
      have := hn j (by omega)
      rw [(occ_iff r j).2 hc] at this
      cases this)
    rw [List.take_succ_eq_append_getElem l1, o1] at h1
    have h2 : sc [] (r.take i ++ [13] ++ [10]) = ([r.take i], []) := by
      rw [sc_snoc_yes (by rw [h1]; simp), h1]
      simp
    have e2 : r = (r.take i ++ [13] ++ [10]) ++ r.drop (i + 2) := by
      rw [List.append_assoc, List.append_assoc]
      exact er
    conv => lhs; rw [e2, sc_append, h2]
    rfl

/-- How many bytes lines take. -/
def usedOf (ts : List (List UInt8)) : Nat := (ts.map fun t => t.length + 2).sum
theorem usedOf_append (a b : List (List UInt8)) : usedOf (a ++ b) = usedOf a + usedOf b := by simp [usedOf]
theorem usedOf_take {ts : List (List UInt8)} {k : Nat} {t : List UInt8} (h : ts[k]? = some t) : usedOf (ts.take (k + 1)) = usedOf (ts.take k) + t.length + 2 := by
  obtain ⟨hk, e⟩ := List.getElem?_eq_some_iff.1 h
  rw [List.take_succ_eq_append_getElem hk, e, usedOf_append]
  simp [usedOf]; omega
theorem usedOf_le (ts : List (List UInt8)) (k : Nat) : usedOf (ts.take k) ≤ usedOf ts := by
  have := usedOf_append (ts.take k) (ts.drop k)
  rw [List.take_append_drop] at this
  omega
theorem sc_used : ∀ (l cur : List UInt8), usedOf (sc cur l).1 + (sc cur l).2.length = cur.length + l.length
  | [], cur => by simp [sc, usedOf]
  | b :: l, cur => by
    by_cases h : cur.getLast? = some 13 ∧ b = 10
    · have ih := sc_used l []
      obtain ⟨c, rfl⟩ := List.getLast?_eq_some_iff.1 h.1
      simp only [sc, if_pos h]
      simp [usedOf] at ih ⊢
      omega
    · have ih := sc_used l (cur ++ [b])
      simp only [sc, if_neg h]
      simp at ih ⊢
      omega
/-- The lines ahead of the first . alone. -/
def frontOf (ts : List (List UInt8)) : List (List UInt8) := ts.takeWhile (fun t => decide (t ≠ [46]))
theorem front_yes {ts : List (List UInt8)} {k : Nat} {t : List UInt8} (hk : k ≤ (frontOf ts).length) (h : ts[k]? = some t) (ht : t ≠ [46]) : k + 1 ≤ (frontOf ts).length := by
  induction ts generalizing k with
  | nil => simp at h
  | cons a ts ih =>
    by_cases ha : a = [46]
    · subst ha
      simp [frontOf] at hk
      subst hk
      simp at h
      exact absurd h.symm ht
    · have e : frontOf (a :: ts) = a :: frontOf ts := by simp [frontOf, ha]
      rw [e] at hk ⊢
      cases k with
      | zero => simp
      | succ k =>
        simp only [List.length_cons] at hk ⊢
        simp at h
        have := ih (by omega) h
        omega
theorem front_no {ts : List (List UInt8)} {k : Nat} (hk : k ≤ (frontOf ts).length) (h : ts[k]? = some [46]) : k = (frontOf ts).length := by
  induction ts generalizing k with
  | nil => simp at h
  | cons a ts ih =>
    by_cases ha : a = [46]
    · subst ha
      simp [frontOf] at hk ⊢
      exact hk
    · have e : frontOf (a :: ts) = a :: frontOf ts := by simp [frontOf, ha]
      rw [e] at hk ⊢
      cases k with
      | zero => simp at h; exact absurd h ha
      | succ k =>
        simp only [List.length_cons] at hk ⊢
        simp at h
        have := ih (by omega) h
        omega
theorem front_get {ts : List (List UInt8)} {k : Nat} {t : List UInt8} (h : (frontOf ts)[k]? = some t) : ts[k]? = some t := by
  obtain ⟨m, hm⟩ := List.takeWhile_prefix (l := ts) (fun t => decide (t ≠ [46]))
  have hm' : frontOf ts ++ m = ts := hm
  obtain ⟨hk, _⟩ := List.getElem?_eq_some_iff.1 h
  have e : (frontOf ts ++ m)[k]? = some t := by rw [List.getElem?_append_left hk]; exact h
  rwa [hm'] at e
theorem front_le (ts : List (List UInt8)) : (frontOf ts).length ≤ ts.length := (List.takeWhile_prefix _).length_le
theorem front_used {ts : List (List UInt8)} (h : ts[(frontOf ts).length]? = some [46]) : usedOf (frontOf ts) + 3 ≤ usedOf ts := by
  have e : frontOf ts = ts.take (frontOf ts).length := (List.prefix_iff_eq_take.1 (List.takeWhile_prefix _))
  have h1 := usedOf_take h
  have h2 := usedOf_le ts ((frontOf ts).length + 1)
  rw [← e] at h1
  simp only [List.length_cons, List.length_nil] at h1
  omega
theorem und_front : ∀ (f : Nat) (acc : List (List UInt8)) (r : List UInt8), r.length < f →
    und f acc r = if (frontOf (sc [] r).1).length = (sc [] r).1.length then none else some (acc ++ frontOf (sc [] r).1, r.drop (3 + usedOf (frontOf (sc [] r).1)))
  | 0, _, _, h => by omega
  | f + 1, acc, r, h => by
    rw [und]
    rcases cutE_sc r with ⟨h1, h2, h3⟩ | ⟨h1, h2⟩
    · rw [h1, if_pos rfl, h2]
      generalize cutE r = q at h1 h2 h3
      obtain ⟨t, r', ok⟩ := q
      simp only at h1 h2 h3 ⊢
      by_cases ht : t = [46]
      · subst ht
        have e : frontOf ([46] :: (sc [] r').1) = [] := by simp [frontOf]
        rw [if_pos rfl, e, if_neg (by simp), h3]
        simp [usedOf]
      · have e : frontOf (t :: (sc [] r').1) = t :: frontOf (sc [] r').1 := by simp [frontOf, ht]
        have hl : r.length = t.length + 2 + r'.length := by rw [h3]; simp; omega
        rw [if_neg ht, und_front f (acc ++ [t]) r' (by omega), e]
        have e2 : r.drop (3 + usedOf (t :: frontOf (sc [] r').1)) = r'.drop (3 + usedOf (frontOf (sc [] r').1)) := by
          have eu : 3 + usedOf (t :: frontOf (sc [] r').1) = (t ++ [13, 10]).length + (3 + usedOf (frontOf (sc [] r').1)) := by simp [usedOf]; omega
          rw [eu, h3, ← List.append_assoc, List.drop_append]
          simp
        rw [e2]
        simp
    · rw [h1, h2]
      simp [frontOf]
end Go.Proofs.Ytkkpfencnjnddaa
