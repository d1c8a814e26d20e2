/-
  Timers as the document has them: by when they fire, then by numbers (plain).
-/
import Derived.Test.YtmmghdnlppjgbaaWhMath
namespace Go.Proofs.Ytmmghdnlppjgbaa
/-- When, and who. -/
abbrev En := Int × Int
def lt2 (p q : En) : Prop := p.1 < q.1 ∨ p.1 = q.1 ∧ p.2 < q.2
def Srt (M : List En) : Prop := M.Pairwise lt2
instance (p q : En) : Decidable (lt2 p q) := inferInstanceAs (Decidable (_ ∨ _))
theorem lt2_trans {p q r : En} (h : lt2 p q) (k : lt2 q r) : lt2 p r := by unfold lt2 at *; omega
theorem lt2_irr (p : En) : ¬ lt2 p p := by unfold lt2; omega
theorem lt2_tot {p q : En} (h : ¬ lt2 p q) (h2 : p ≠ q) : lt2 q p := by
  unfold lt2 at *
  have : ¬ (p.1 = q.1 ∧ p.2 = q.2) := fun e => h2 (Prod.ext e.1 e.2)
  omega
theorem srt_eq {M N : List En} (hM : Srt M) (hN : Srt N) (h : M.Perm N) : M = N :=
  List.Perm.eq_of_pairwise (le := lt2) (fun a _ _ _ h1 h2 => absurd (lt2_trans h1 h2) (lt2_irr a)) hM hN h
def insE (x : En) : List En → List En
  | [] => [x]
  | y :: r => if lt2 y x then y :: insE x r else x :: y :: r
theorem insE_perm (x : En) : ∀ M : List En, (insE x M).Perm (x :: M)
  | [] => List.Perm.refl _
  | y :: r => by
    rw [insE]
    split
    · exact (List.Perm.cons y (insE_perm x r)).trans (List.Perm.swap x y r)
    · exact List.Perm.refl _
theorem insE_srt {x : En} : ∀ {M : List En}, Srt M → (∀ y ∈ M, y ≠ x) → Srt (insE x M)
  | [], _, _ => by unfold insE Srt; simp
  | y :: r, h, hx => by
    obtain ⟨h1, h2⟩ := List.pairwise_cons.1 h
    rw [insE]
    split
    · rename_i hy
      refine List.pairwise_cons.2 ⟨fun z hz => ?_, insE_srt h2 fun z hz => hx z (List.mem_cons_of_mem _ hz)⟩
      rcases List.mem_cons.1 ((insE_perm x r).mem_iff.1 hz) with rfl | hz
      · exact hy
      · exact h1 z hz
    · rename_i hy
      have hxy := lt2_tot hy (hx y (List.mem_cons_self))
      exact List.pairwise_cons.2 ⟨fun z hz => by
        rcases List.mem_cons.1 hz with rfl | hz
        · exact hxy
        · exact lt2_trans hxy (h1 z hz), h⟩
def delE (M : List En) (i : Int) : List En := M.filter fun p => p.2 != i
def setE (M : List En) (i f : Int) : List En := insE (f, i) (delE M i)
theorem delE_srt {M : List En} (h : Srt M) (i : Int) : Srt (delE M i) := h.filter _
theorem delE_mem {M : List En} {i : Int} {p : En} : p ∈ delE M i ↔ p ∈ M ∧ p.2 ≠ i := by simp [delE]
theorem setE_srt {M : List En} (h : Srt M) (i f : Int) : Srt (setE M i f) := insE_srt (delE_srt h i) fun y hy e => (delE_mem.1 hy).2 (by rw [e])
theorem setE_perm (M : List En) (i f : Int) : (setE M i f).Perm ((f, i) :: delE M i) := insE_perm _ _
theorem setE_mem {M : List En} {i f : Int} {p : En} : p ∈ setE M i f ↔ p = (f, i) ∨ p ∈ M ∧ p.2 ≠ i := by rw [(setE_perm M i f).mem_iff, List.mem_cons, delE_mem]
theorem delE_length (M : List En) (i : Int) : (delE M i).length ≤ M.length := List.length_filter_le _ _
theorem setE_length (M : List En) (i f : Int) : (setE M i f).length ≤ M.length + 1 := by
  rw [(setE_perm M i f).length_eq, List.length_cons]
  have := delE_length M i
  omega
/-- An advance that is over: so many have fired, and where it is. -/
structure AdvP (M : List En) (n to : Int) (batch : Int) (k : Nat) (m : Int) : Prop where
  le : k ≤ M.length
  past : ∀ p ∈ M.take k, p.1 ≤ m
  next : ∀ p ∈ M.drop k, m < p.1
  lo : n ≤ m
  hi : m ≤ to
  over : (m = to ∧ (k : Int) < batch) ∨ (batch ≤ k ∧ ∃ j : Nat, (j : Int) < batch ∧ j < k ∧ ∀ p ∈ (M.take k).drop j, p.1 = m)
/-- The document's advance: how many fire; where it stopped, if it did. -/
def advK (to batch : Int) : List En → Nat → Nat × Option Int
  | [], c => (c, none)
  | p :: r, c => if p.1 ≤ to then (if batch ≤ (c + 1 : Nat) ∧ (∀ q ∈ r.head?, p.1 < q.1) then (c + 1, some p.1) else advK to batch r (c + 1)) else (c, none)
theorem advK_go {to batch : Int} {M : List En} : ∀ {j : Nat}, j ≤ M.length → (∀ p ∈ M.take j, p.1 ≤ to) → (∀ i, i < j → (i + 1 : Nat) < batch ∨ ∃ p q, M[i]? = some p ∧ M[i + 1]? = some q ∧ q.1 ≤ p.1) → advK to batch M 0 = advK to batch (M.drop j) j
  | 0, _, _, _ => rfl
  | j + 1, hj, h1, h2 => by
    have hjl : j < M.length := hj
    rw [advK_go (j := j) (by omega) (fun p hp => h1 p (List.mem_of_mem_take (i := j) (by rw [List.take_take, Nat.min_eq_left (by omega)]; exact hp))) (fun i hi => h2 i (by omega))]
    rw [List.drop_eq_getElem_cons hjl, advK]
    have hm : M[j] ∈ M.take (j + 1) := List.mem_of_getElem? (i := j) (by rw [List.getElem?_take_of_lt (by omega), List.getElem?_eq_getElem hjl])
    rw [if_pos (h1 _ hm), if_neg]
    rintro ⟨a1, a2⟩
    rcases h2 j (by omega) with h | ⟨p, q, e1, e2, e3⟩
    · omega
    · rw [List.getElem?_eq_getElem hjl] at e1
      injection e1 with e1
      have := a2 q (by rw [List.head?_drop, e2]; rfl)
      rw [e1] at this
      omega
theorem AdvP.doc {M : List En} {n to batch : Int} {k : Nat} {m : Int} (h : AdvP M n to batch k m) : advK to batch M 0 = (k, some m) ∨ (advK to batch M 0 = (k, none) ∧ m = to) := by
  obtain ⟨h1, h2, h3, h4, h5, h6⟩ := h
  rcases h6 with ⟨rfl, h6⟩ | ⟨h6, j, h7, h8, h9⟩
  · right
    refine ⟨?_, rfl⟩
    rw [advK_go h1 h2 (fun i hi => .inl (by omega))]
    cases e : M.drop k with
    | nil => rfl
    | cons p r =>
      rw [advK, if_neg]
      have := h3 p (by rw [e]; exact List.mem_cons_self)
      omega
  · left
    obtain ⟨k, rfl⟩ : ∃ k', k = k' + 1 := ⟨k - 1, by omega⟩
    have hkl : k < M.length := by omega
    have hat : ∀ i, j ≤ i → (hi : i < k + 1) → ∃ p, M[i]? = some p ∧ p.1 = m := fun i hi hi2 => by
      refine ⟨M[i], List.getElem?_eq_getElem (by omega), h9 _ ?_⟩
      refine List.mem_of_getElem? (i := i - j) ?_
      rw [List.getElem?_drop, List.getElem?_take_of_lt (by omega), show j + (i - j) = i by omega, List.getElem?_eq_getElem]
    rw [advK_go (j := k) (by omega) (fun p hp => Int.le_trans (h2 p (List.mem_of_mem_take (i := k) (by rw [List.take_take, Nat.min_eq_left (by omega)]; exact hp))) h5) (fun i hi => ?_)]
    · obtain ⟨p, e1, e2⟩ := hat k (by omega) (by omega)
      rw [List.getElem?_eq_getElem hkl] at e1
      injection e1 with e1
      have a2 : ∀ q ∈ (M.drop (k + 1)).head?, m < q.1 := fun q hq => by
        rw [List.head?_drop] at hq
        refine h3 q (List.mem_of_getElem? (i := 0) ?_)
        rw [List.getElem?_drop]
        exact hq
      rw [List.drop_eq_getElem_cons hkl, advK, e1, e2, if_pos h5, if_pos ⟨h6, a2⟩]
    · by_cases hij : j ≤ i
      · obtain ⟨p, e1, e2⟩ := hat i hij (by omega)
        obtain ⟨q, e3, e4⟩ := hat (i + 1) (by omega) (by omega)
        exact .inr ⟨p, q, e1, e3, by omega⟩
      · exact .inl (by omega)
end Go.Proofs.Ytmmghdnlppjgbaa
