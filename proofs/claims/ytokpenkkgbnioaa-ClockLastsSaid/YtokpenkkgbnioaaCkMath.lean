/-
  A clock's readings as lists (no walk).
-/
import Derived.Test.YtokpenkkgbnioaaCkRead
namespace Go.Proofs.Ytokpenkkgbnioaa
set_option maxRecDepth 100000
/-- The tick behind readings. -/
def tickK (m : Int) (l : List Int) : Int := l.foldl (fun t r => max t (min r 1099511627776)) m
def backK : Int → List Int → Int
  | _, [] => 0
  | m, r :: l => (if r < m then 1 else 0) + backK (max m (min r 1099511627776)) l
def rdL (S : Ck) (l : List Int) : Ck := l.foldl rdK S
theorem tick_snoc (m : Int) (l : List Int) (r : Int) : tickK m (l ++ [r]) = max (tickK m l) (min r 1099511627776) := by simp [tickK]
theorem back_snoc (l : List Int) (r : Int) : ∀ m, backK m (l ++ [r]) = backK m l + (if r < tickK m l then 1 else 0) := by
  induction l with
  | nil =>
    intro m
    by_cases h : r < m <;> simp [backK, tickK, h]
  | cons a l ih =>
    intro m
    rw [List.cons_append, backK, backK, ih, Int.add_assoc]
    rfl
theorem rdL_snoc (S : Ck) (l : List Int) (r : Int) : rdL S (l ++ [r]) = rdK (rdL S l) r := by simp [rdL]
theorem rdL_e (S : Ck) (l : List Int) : rdL S l = ⟨tickK S.tick l, S.mark, S.step, S.all + l.length, S.back + backK S.tick l⟩ := by
  induction l generalizing S with
  | nil => simp [rdL, tickK, backK]
  | cons a l ih =>
    show rdL (rdK S a) l = _
    rw [ih]
    simp only [rdK, backK, tickK, List.foldl_cons, List.length_cons, Ck.mk.injEq, true_and]
    refine ⟨by push_cast; omega, ?_⟩
    split <;> omega
theorem take_snoc {α : Type} {l : List α} {k : Nat} {x : α} (h : l[k]? = some x) : l.take (k + 1) = l.take k ++ [x] := by
  obtain ⟨hk, e⟩ := List.getElem?_eq_some_iff.1 h
  rw [List.take_succ_eq_append_getElem hk, e]
theorem tick_ge (m : Int) (l : List Int) : m ≤ tickK m l := by
  induction l generalizing m with
  | nil => exact Int.le_refl _
  | cons a l ih =>
    have := ih (max m (min a 1099511627776))
    have e : tickK m (a :: l) = tickK (max m (min a 1099511627776)) l := rfl
    rw [e]; omega
theorem tick_le (m : Int) (l : List Int) (h : m ≤ 1099511627776) : tickK m l ≤ 1099511627776 := by
  induction l generalizing m with
  | nil => exact h
  | cons a l ih =>
    have e : tickK m (a :: l) = tickK (max m (min a 1099511627776)) l := rfl
    rw [e]
    exact ih _ (by omega)
theorem back_le (m : Int) (l : List Int) : 0 ≤ backK m l ∧ backK m l ≤ l.length := by
  induction l generalizing m with
  | nil => simp [backK]
  | cons a l ih =>
    have := ih (max m (min a 1099511627776))
    rw [backK, List.length_cons]
    split <;> (push_cast; omega)
theorem inv_new {m s : Int} (h : 0 ≤ m ∧ m ≤ 1099511627776 ∧ 1 ≤ s ∧ s ≤ 1048576) : Inv (newK m s) := ⟨h.1, h.2.1, h.1, Int.le_refl _, h.2.2.1, h.2.2.2, Int.le_refl _, (by show (0 : Int) ≤ 1000000; decide), Int.le_refl _, Int.le_refl _⟩
theorem Inv.rdL {S : Ck} (h : Inv S) (l : List Int) (hl : S.all + l.length ≤ 1000000) : Inv (Go.Proofs.Ytokpenkkgbnioaa.rdL S l) := by
  induction l generalizing S with
  | nil => exact h
  | cons a l ih =>
    rw [List.length_cons] at hl
    push_cast at hl
    exact ih (h.read a (by omega)) (by show S.all + 1 + (l.length : Int) ≤ _; omega)
end Go.Proofs.Ytokpenkkgbnioaa
