/-
  The order of readings plays no part in the tick (no walk).
-/
import Derived.Test.YtokpenkkgbnioaaCkMath
namespace Go.Proofs.Ytokpenkkgbnioaa
set_option maxRecDepth 100000
def mostK (m : Int) (l : List Int) : Int := l.foldl (fun t r => max t r) m
theorem most_snoc (m : Int) (l : List Int) (r : Int) : mostK m (l ++ [r]) = max (mostK m l) r := by simp [mostK]
theorem tick_most (m : Int) (l : List Int) (h : m ≤ 1099511627776) : tickK m l = min (mostK m l) 1099511627776 := by
  suffices H : ∀ (l : List Int) (t u : Int), t = min u 1099511627776 → tickK t l = min (mostK u l) 1099511627776 from H l m m (by omega)
  intro l
  induction l with
  | nil => intro t u h; exact h
  | cons a l ih =>
    intro t u h
    exact ih (max t (min a 1099511627776)) (max u a) (by omega)
theorem tick_le_iff (l : List Int) : ∀ (m t : Int), tickK m l ≤ t ↔ m ≤ t ∧ ∀ r ∈ l, min r 1099511627776 ≤ t := by
  induction l with
  | nil => intro m t; simp [tickK]
  | cons a l ih =>
    intro m t
    have e : tickK m (a :: l) = tickK (max m (min a 1099511627776)) l := rfl
    rw [e, ih]
    simp only [List.mem_cons, forall_eq_or_imp]
    constructor
    · rintro ⟨h1, h2⟩; exact ⟨by omega, by omega, h2⟩
    · rintro ⟨h1, h2, h3⟩; exact ⟨by omega, h3⟩
theorem tick_same {l l' : List Int} (m : Int) (h : ∀ r, r ∈ l ↔ r ∈ l') : tickK m l = tickK m l' := by
  apply Int.le_antisymm
  · rw [tick_le_iff]
    have := (tick_le_iff l' m (tickK m l')).1 (Int.le_refl _)
    exact ⟨this.1, fun r hr => this.2 r ((h r).1 hr)⟩
  · rw [tick_le_iff]
    have := (tick_le_iff l m (tickK m l)).1 (Int.le_refl _)
    exact ⟨this.1, fun r hr => this.2 r ((h r).2 hr)⟩
def rotF (l : List Int) (q i : Nat) : Int := l.getD ((i + q) % l.length) 0
def rotL (l : List Int) (q k : Nat) : List Int := (List.range k).map (rotF l q)
theorem rot_snoc (l : List Int) (q k : Nat) : rotL l q (k + 1) = rotL l q k ++ [rotF l q k] := by simp [rotL, List.range_succ]
theorem rot_len (l : List Int) (q k : Nat) : (rotL l q k).length = k := by simp [rotL]
theorem rot_get {l : List Int} (q i : Nat) (h : 0 < l.length) : l[(i + q) % l.length]? = some (rotF l q i) := by
  have := Nat.mod_lt (i + q) h
  rw [rotF, List.getD_eq_getElem?_getD, List.getElem?_eq_getElem this]
  rfl
theorem rot_tick (m : Int) (l : List Int) (q : Nat) (hq : 0 < l.length → q < l.length) : tickK m (rotL l q l.length) = tickK m l := by
  refine tick_same m fun r => ?_
  rw [rotL, List.mem_map]
  constructor
  · rintro ⟨i, hi, rfl⟩
    rw [List.mem_range] at hi
    exact List.mem_of_getElem? (rot_get q i (by omega))
  · intro hr
    obtain ⟨i, hi, e⟩ := List.getElem_of_mem hr
    have hq' := hq (by omega)
    have key : ∀ j, j < l.length → (j + q) % l.length = i → rotF l q j = r := by
      intro j hj hm
      have h1 := rot_get q j (by omega : 0 < l.length)
      rw [hm, List.getElem?_eq_getElem hi, e] at h1
      injection h1 with h1
      exact h1.symm
    by_cases hiq : q ≤ i
    · exact ⟨i - q, List.mem_range.2 (by omega), key _ (by omega) (by rw [Nat.sub_add_cancel hiq]; exact Nat.mod_eq_of_lt hi)⟩
    · exact ⟨i + l.length - q, List.mem_range.2 (by omega), key _ (by omega) (by rw [show i + l.length - q + q = i + l.length by omega, Nat.add_mod_right]; exact Nat.mod_eq_of_lt hi)⟩
end Go.Proofs.Ytokpenkkgbnioaa
