/-
  Printed texts stand in the order of their times.
-/
import Derived.Test.YtafbapmbhjkheaaDoorPrBack
import GoSem.Op.String
namespace Go.Proofs.YtafbapmbhjkheaaDoor
theorem less_same : ∀ (p x y : List UInt8), Op.bytesLess (p ++ x) (p ++ y) = Op.bytesLess x y
  | [], _, _ => rfl
  | a :: p, x, y => by
    have h : ¬ a < a := UInt8.lt_irrefl a
    rw [List.cons_append, List.cons_append, Op.bytesLess, less_same p x y]
    simp [h]
theorem dg_lt {a b : Nat} (h : a < b) (hb : b < 10) : dg a < dg b := by
  rw [UInt8.lt_iff_toNat_lt, dg_nat (by omega), dg_nat hb]
  omega
theorem less_1 {a b : UInt8} (h : a < b) (x y : List UInt8) : Op.bytesLess (a :: x) (b :: y) = true := by
  rw [Op.bytesLess]
  simp [h]
theorem less_2 {a b : Nat} (h : a < b) (hb : b < 100) (x y : List UInt8) : Op.bytesLess (b2 a ++ x) (b2 b ++ y) = true := by
  show Op.bytesLess (dg (a / 10) :: dg (a % 10) :: x) (dg (b / 10) :: dg (b % 10) :: y) = true
  by_cases e : a / 10 = b / 10
  · rw [e]
    have := less_same [dg (b / 10)] (dg (a % 10) :: x) (dg (b % 10) :: y)
    rw [List.singleton_append, List.singleton_append] at this
    rw [this]
    exact less_1 (dg_lt (by omega) (by omega)) _ _
  · exact less_1 (dg_lt (by omega) (by omega)) _ _
theorem less_4 {a b : Nat} (h : a < b) (hb : b < 10000) (x y : List UInt8) : Op.bytesLess (b4 a ++ x) (b4 b ++ y) = true := by
  have e4 : ∀ n z, b4 n ++ z = b2 (n / 100) ++ (b2 (n % 100) ++ z) := fun n z => by
    show dg (n / 1000) :: dg (n / 100 % 10) :: dg (n / 10 % 10) :: dg (n % 10) :: z = dg (n / 100 / 10) :: dg (n / 100 % 10) :: dg (n % 100 / 10) :: dg (n % 100 % 10) :: z
    rw [show n / 100 / 10 = n / 1000 by omega, show n % 100 / 10 = n / 10 % 10 by omega, show n % 100 % 10 = n % 10 by omega]
  rw [e4, e4]
  by_cases e : a / 100 = b / 100
  · rw [e, less_same]
    exact less_2 (by omega) (by omega) _ _
  · exact less_2 (by omega) (by omega) _ _
theorem text_right (y m d h i s : Nat) : textX y m d h i s = b4 y ++ ([45] ++ (b2 m ++ ([45] ++ (b2 d ++ ([84] ++ (b2 h ++ ([58] ++ (b2 i ++ ([58] ++ (b2 s ++ [90])))))))))) := rfl
theorem text_less {y m d h i s y' m' d' h' i' s' : Nat} (k : Clk y' m' d' h' i' s')
    (hl : y < y' ∨ (y = y' ∧ (m < m' ∨ (m = m' ∧ (d < d' ∨ (d = d' ∧ (h < h' ∨ (h = h' ∧ (i < i' ∨ (i = i' ∧ s < s')))))))))) : Op.bytesLess (textX y m d h i s) (textX y' m' d' h' i' s') = true := by
  have hb := k.bd
  have hh := k.h
  have hi := k.i
  have hs := k.s
  rw [text_right, text_right]
  rcases hl with hl | ⟨rfl, hl⟩
  · exact less_4 hl (by omega) _ _
  rw [less_same, less_same]
  rcases hl with hl | ⟨rfl, hl⟩
  · exact less_2 hl (by omega) _ _
  rw [less_same, less_same]
  rcases hl with hl | ⟨rfl, hl⟩
  · exact less_2 hl (by omega) _ _
  rw [less_same, less_same]
  rcases hl with hl | ⟨rfl, hl⟩
  · exact less_2 hl (by omega) _ _
  rw [less_same, less_same]
  rcases hl with hl | ⟨rfl, hl⟩
  · exact less_2 hl (by omega) _ _
  rw [less_same, less_same]
  exact less_2 hl (by omega) _ _
/-- Who has the smaller number is the earlier date. -/
theorem date_less {y m d y' m' d' : Int} (h : Vld y m d) (h' : Vld y' m' d') (e : numD y m d < numD y' m' d') : y < y' ∨ (y = y' ∧ (m < m' ∨ (m = m' ∧ d < d'))) := by
  have i := h.inYear
  have i' := h'.inYear
  rcases Int.lt_trichotomy y y' with hl | hl | hl
  · exact .inl hl
  · subst hl
    refine .inr ⟨rfl, ?_⟩
    obtain ⟨a, b⟩ := h.m
    obtain ⟨a', b'⟩ := h'.m
    have c' := cum_succ y m' a' b'
    have hd1 := h.d1
    have hd2' := h'.d2
    unfold numD at e
    rcases Int.lt_trichotomy m m' with hm | hm | hm
    · exact .inl hm
    · subst hm
      exact .inr ⟨rfl, by omega⟩
    · have := cum_mono y (a := m' + 1) (b := m) (by omega) (by omega) (by omega)
      omega
  · have := beg_mono (a := y' + 1) (b := y) (by omega)
    omega
/-- On one day the clock tells who is earlier. -/
theorem clock_less {t t' : Int} (hl : t < t') (hd : t / 86400 = t' / 86400) :
    (t % 86400 / 3600).toNat < (t' % 86400 / 3600).toNat ∨ ((t % 86400 / 3600).toNat = (t' % 86400 / 3600).toNat ∧ ((t % 3600 / 60).toNat < (t' % 3600 / 60).toNat ∨ ((t % 3600 / 60).toNat = (t' % 3600 / 60).toNat ∧ (t % 60).toNat < (t' % 60).toNat))) := by
  have a : t % 86400 < t' % 86400 := by omega
  by_cases h1 : t % 86400 / 3600 < t' % 86400 / 3600
  · exact .inl (by omega)
  · have e1 : t % 86400 / 3600 = t' % 86400 / 3600 := by omega
    refine .inr ⟨by rw [e1], ?_⟩
    have b : t % 3600 < t' % 3600 := by omega
    by_cases h2 : t % 3600 / 60 < t' % 3600 / 60
    · exact .inl (by omega)
    · have e2 : t % 3600 / 60 = t' % 3600 / 60 := by omega
      exact .inr ⟨by rw [e2], by omega⟩
theorem print_less {t t' : Int} (h0 : 0 ≤ t) (hl : t < t') (h1 : t' ≤ 253402300799) : Op.bytesLess (printS t) (printS t') = true := by
  have ht : timB t = true := timB_iff.2 ⟨h0, by omega⟩
  have ht' : timB t' = true := timB_iff.2 ⟨by omega, h1⟩
  obtain ⟨k, hk⟩ := clk_of ht
  obtain ⟨k', hk'⟩ := clk_of ht'
  have e0 := ofD_spec (n := t / 86400) (by omega) (by omega)
  have e1 := ofD_spec (n := t' / 86400) (by omega) (by omega)
  unfold printS
  rw [ht, ht', if_pos rfl, if_pos rfl, printX, printX]
  refine text_less k' ?_
  by_cases hd : t / 86400 = t' / 86400
  · rw [← hd]
    exact .inr ⟨rfl, .inr ⟨rfl, .inr ⟨rfl, clock_less hl hd⟩⟩⟩
  · have hdl := date_less e0.1 e1.1 (by rw [e0.2, e1.2]; omega)
    have a1 := e0.1.y1
    have a2 := e0.1.m
    have a3 := e0.1.d1
    have c1 := e1.1.y1
    have c2 := e1.1.m
    have c3 := e1.1.d1
    generalize (ofD (t / 86400)).1 = y at *
    generalize (ofD (t / 86400)).2.1 = m at *
    generalize (ofD (t / 86400)).2.2 = d at *
    generalize (ofD (t' / 86400)).1 = y' at *
    generalize (ofD (t' / 86400)).2.1 = m' at *
    generalize (ofD (t' / 86400)).2.2 = d' at *
    rcases hdl with hdl | ⟨rfl, hdl⟩
    · exact .inl (by omega)
    · refine .inr ⟨rfl, ?_⟩
      rcases hdl with hdl | ⟨rfl, hdl⟩
      · exact .inl (by omega)
      · exact .inr ⟨rfl, .inl (by omega)⟩
end Go.Proofs.YtafbapmbhjkheaaDoor
