/-
  Dates as numbers of days: what a year and a month have, what a date's number is, that no two dates have one number, and that each number in range has a date.
-/
namespace Go.Proofs.YtdcakmamdabiaaaDoor
set_option maxRecDepth 100000
/-- Has a year's February 29 days? -/
def leapD (y : Int) : Bool := (y % 4 == 0 && y % 100 != 0) || y % 400 == 0
def lpD (y : Int) : Int := if leapD y then 1 else 0
def tabD : List Int := [31, 28, 31, 30, 31, 30, 31, 31, 30, 31, 30, 31]
def dimD (y m : Int) : Int := if m < 1 ∨ 12 < m then 0 else tabD.getD (m - 1).toNat 0 + (if m = 2 then lpD y else 0)
def aheadD (y : Int) : Int := (y - 1) * 365 + (y - 1) / 4 - (y - 1) / 100 + (y - 1) / 400
def begD (y : Int) : Int := aheadD y - 719162
/-- The days of a year that are ahead of a month. -/
def cumD (y m : Int) : Int := (367 * m - 362) / 12 - (if m ≤ 2 then 0 else 2 - lpD y)
def numD (y m d : Int) : Int := begD y + cumD y m + d - 1
structure Vld (y m d : Int) : Prop where
  y1 : 1970 ≤ y
  y2 : y ≤ 9999
  d1 : 1 ≤ d
  d2 : d ≤ dimD y m
theorem lp_01 (y : Int) : 0 ≤ lpD y ∧ lpD y ≤ 1 := by unfold lpD; split <;> omega
theorem leap_cases (y : Int) : (leapD y = true ∧ ((y % 4 = 0 ∧ y % 100 ≠ 0) ∨ y % 400 = 0)) ∨ (leapD y = false ∧ ¬ ((y % 4 = 0 ∧ y % 100 ≠ 0) ∨ y % 400 = 0)) := by
  cases h : leapD y
  · refine .inr ⟨rfl, ?_⟩
    simp [leapD] at h
    omega
  · refine .inl ⟨rfl, ?_⟩
    simp [leapD] at h
    omega
theorem beg_succ (y : Int) : begD (y + 1) = begD y + 365 + lpD y := by
  unfold begD aheadD lpD
  rcases leap_cases y with ⟨h, e⟩ | ⟨h, e⟩
  · rw [h, if_pos rfl]; omega
  · rw [h, if_neg (by decide)]; omega
theorem beg_mono {a b : Int} (h : a ≤ b) : begD a ≤ begD b := by unfold begD aheadD; omega
theorem beg_lt {a b : Int} (h : a < b) : begD a + 365 ≤ begD b := by
  have := beg_mono (a := a + 1) (b := b) (by omega)
  have := beg_succ a
  have := lp_01 a
  omega
theorem beg_0 : begD 1970 = 0 := by decide
theorem beg_end : begD 10000 = 2932897 := by decide
theorem beg_bd {y : Int} (h1 : 1970 ≤ y) (h2 : y ≤ 10000) : 0 ≤ begD y ∧ begD y ≤ 2932897 := by
  have := beg_mono h1
  have := beg_mono h2
  rw [beg_0] at *
  rw [beg_end] at *
  omega
theorem month_cases {m : Int} (h1 : 1 ≤ m) (h2 : m ≤ 12) : m = 1 ∨ m = 2 ∨ m = 3 ∨ m = 4 ∨ m = 5 ∨ m = 6 ∨ m = 7 ∨ m = 8 ∨ m = 9 ∨ m = 10 ∨ m = 11 ∨ m = 12 := by omega
theorem cum_succ (y m : Int) (h1 : 1 ≤ m) (h2 : m ≤ 12) : cumD y (m + 1) = cumD y m + dimD y m := by
  rcases month_cases h1 h2 with rfl | rfl | rfl | rfl | rfl | rfl | rfl | rfl | rfl | rfl | rfl | rfl <;> simp [cumD, dimD, tabD] <;> omega
theorem cum_1 (y : Int) : cumD y 1 = 0 := by simp [cumD]
theorem cum_13 (y : Int) : cumD y 13 = 365 + lpD y := by simp [cumD]; omega
theorem dim_no {y m : Int} (h : m < 1 ∨ 12 < m) : dimD y m = 0 := by rw [dimD, if_pos h]
theorem dim_bd (y m : Int) (h1 : 1 ≤ m) (h2 : m ≤ 12) : 28 ≤ dimD y m ∧ dimD y m ≤ 31 := by
  have := lp_01 y
  rcases month_cases h1 h2 with rfl | rfl | rfl | rfl | rfl | rfl | rfl | rfl | rfl | rfl | rfl | rfl <;> simp [dimD, tabD] <;> omega
theorem dim_le (y m : Int) : 0 ≤ dimD y m ∧ dimD y m ≤ 31 := by
  by_cases h : m < 1 ∨ 12 < m
  · rw [dim_no h]; omega
  · have := dim_bd y m (by omega) (by omega); omega
theorem cum_mono (y : Int) {a b : Int} (h1 : 1 ≤ a) (h : a ≤ b) (h2 : b ≤ 13) : cumD y a ≤ cumD y b := by
  have := lp_01 y
  unfold cumD
  split <;> split <;> omega
theorem cum_bd (y : Int) {m : Int} (h1 : 1 ≤ m) (h2 : m ≤ 13) : 0 ≤ cumD y m ∧ cumD y m ≤ 365 + lpD y := by
  have a := cum_mono y (Int.le_refl 1) h1 h2
  have b := cum_mono y h1 h2 (Int.le_refl 13)
  rw [cum_1] at a
  rw [cum_13] at b
  exact ⟨a, b⟩
theorem Vld.m {y m d : Int} (h : Vld y m d) : 1 ≤ m ∧ m ≤ 12 := by
  by_cases hm : m < 1 ∨ 12 < m
  · have := h.d2
    have := h.d1
    rw [dim_no hm] at *
    omega
  · omega
theorem Vld.d31 {y m d : Int} (h : Vld y m d) : d ≤ 31 := by have := dim_le y m; have := h.d2; omega
theorem Vld.inYear {y m d : Int} (h : Vld y m d) : begD y ≤ numD y m d ∧ numD y m d < begD (y + 1) := by
  obtain ⟨a, b⟩ := h.m
  have := cum_bd y a (by omega)
  have := cum_bd y (m := m + 1) (by omega) (by omega)
  have := cum_succ y m a b
  have := beg_succ y
  have := h.d1
  have := h.d2
  unfold numD
  omega
theorem Vld.num_bd {y m d : Int} (h : Vld y m d) : 0 ≤ numD y m d ∧ numD y m d ≤ 2932896 := by
  have := h.inYear
  have := beg_bd h.y1 (by have := h.y2; omega)
  have := beg_bd (y := y + 1) (by have := h.y1; omega) (by have := h.y2; omega)
  omega
/-- No two dates have one number. -/
theorem Vld.inj {y m d y' m' d' : Int} (h : Vld y m d) (h' : Vld y' m' d') (e : numD y m d = numD y' m' d') : y = y' ∧ m = m' ∧ d = d' := by
  have i := h.inYear
  have i' := h'.inYear
  have hy : y = y' := by
    rcases Int.lt_trichotomy y y' with hl | hl | hl
    · have := beg_mono (a := y + 1) (b := y') (by omega); omega
    · exact hl
    · have := beg_mono (a := y' + 1) (b := y) (by omega); omega
  subst hy
  obtain ⟨a, b⟩ := h.m
  obtain ⟨a', b'⟩ := h'.m
  have c := cum_succ y m a b
  have c' := cum_succ y m' a' b'
  have hd1 := h.d1
  have hd2 := h.d2
  have hd1' := h'.d1
  have hd2' := h'.d2
  unfold numD at e
  have hm : m = m' := by
    rcases Int.lt_trichotomy m m' with hl | hl | hl
    · have := cum_mono y (a := m + 1) (b := m') (by omega) (by omega) (by omega); omega
    · exact hl
    · have := cum_mono y (a := m' + 1) (b := m) (by omega) (by omega) (by omega); omega
  subst hm
  exact ⟨rfl, rfl, by omega⟩
theorem year_at (n : Int) (h0 : 0 ≤ n) : ∀ k : Nat, n < begD (1970 + (k : Int)) → ∃ y : Int, 1970 ≤ y ∧ y < 1970 + (k : Int) ∧ begD y ≤ n ∧ n < begD (y + 1)
  | 0, h => by
    have e := beg_0
    have h' : n < begD 1970 := by simpa using h
    omega
  | k + 1, h => by
    by_cases hk : n < begD (1970 + (k : Int))
    · obtain ⟨y, a, b, c, d⟩ := year_at n h0 k hk
      exact ⟨y, a, by omega, c, d⟩
    · refine ⟨1970 + (k : Int), by omega, by omega, by omega, ?_⟩
      rw [show (1970 : Int) + k + 1 = 1970 + ((k + 1 : Nat) : Int) by omega]
      exact h
theorem month_at (y r : Int) (h0 : 0 ≤ r) (k : Nat) : k ≤ 12 → r < cumD y (1 + (k : Int)) → ∃ m : Int, 1 ≤ m ∧ m < 1 + (k : Int) ∧ cumD y m ≤ r ∧ r < cumD y (m + 1) := by
  induction k with
  | zero =>
    intro _ h
    have e := cum_1 y
    rw [show (1 : Int) + ((0 : Nat) : Int) = 1 by omega, e] at h
    omega
  | succ k ih =>
    intro hk12 h
    by_cases hk : r < cumD y (1 + (k : Int))
    · obtain ⟨m, a, b, c, d⟩ := ih (by omega) hk
      exact ⟨m, a, by omega, c, d⟩
    · refine ⟨1 + (k : Int), by omega, by omega, by omega, ?_⟩
      rw [show (1 : Int) + (k : Int) + 1 = 1 + ((k + 1 : Nat) : Int) by omega]
      exact h
theorem Vld.mk' {y m n : Int} (hy1 : 1970 ≤ y) (hy2 : y ≤ 9999) (h1 : cumD y m ≤ n - begD y) (h2 : n - begD y - cumD y m < dimD y m) : Vld y m (n - begD y - cumD y m + 1) ∧ numD y m (n - begD y - cumD y m + 1) = n :=
  ⟨⟨hy1, hy2, by omega, by omega⟩, by unfold numD; omega⟩
/-- Each number in range has a date. -/
theorem date_at (n : Int) (h0 : 0 ≤ n) (h1 : n ≤ 2932896) : ∃ q : Int × Int × Int, Vld q.1 q.2.1 q.2.2 ∧ numD q.1 q.2.1 q.2.2 = n := by
  obtain ⟨y, a, b, c, d⟩ := year_at n h0 8030 (by have := beg_end; show n < begD 10000; omega)
  have s := beg_succ y
  obtain ⟨m, e, f, g, i⟩ := month_at y (n - begD y) (by omega) 12 (by omega) (by show _ < cumD y 13; rw [cum_13]; omega)
  have := cum_succ y m e (by omega)
  have hv := Vld.mk' (y := y) (m := m) (n := n) a (by omega) g (by omega)
  exact ⟨(y, m, n - begD y - cumD y m + 1), hv⟩
open Classical in
/-- The date of a number. -/
noncomputable def ofD (n : Int) : Int × Int × Int := if h : ∃ q : Int × Int × Int, Vld q.1 q.2.1 q.2.2 ∧ numD q.1 q.2.1 q.2.2 = n then Classical.choose h else (0, 0, 0)
theorem ofD_spec {n : Int} (h0 : 0 ≤ n) (h1 : n ≤ 2932896) : Vld (ofD n).1 (ofD n).2.1 (ofD n).2.2 ∧ numD (ofD n).1 (ofD n).2.1 (ofD n).2.2 = n := by
  have h := date_at n h0 h1
  rw [ofD, dif_pos h]
  exact Classical.choose_spec h
theorem ofD_num {y m d : Int} (h : Vld y m d) : ofD (numD y m d) = (y, m, d) := by
  obtain ⟨a, b⟩ := ofD_spec h.num_bd.1 h.num_bd.2
  obtain ⟨e1, e2, e3⟩ := a.inj h b
  exact Prod.ext e1 (Prod.ext e2 e3)
theorem ofD_no {n : Int} (h : ¬ (0 ≤ n ∧ n ≤ 2932896)) : ofD n = (0, 0, 0) := by
  rw [ofD, dif_neg]
  rintro ⟨q, v, e⟩
  have := v.num_bd
  rw [e] at this
  exact h this
/-- Is it a date? -/
def vldB (y m d : Int) : Bool := decide (1970 ≤ y) && decide (y ≤ 9999) && decide (1 ≤ d) && decide (d ≤ dimD y m)
theorem vldB_iff {y m d : Int} : vldB y m d = true ↔ Vld y m d := by
  unfold vldB
  simp only [Bool.and_eq_true, decide_eq_true_eq]
  exact ⟨fun ⟨⟨⟨a, b⟩, c⟩, d⟩ => ⟨a, b, c, d⟩, fun ⟨a, b, c, d⟩ => ⟨⟨⟨a, b⟩, c⟩, d⟩⟩
/-- What Days answers. -/
def daysV (y m d : Int) : Int := if vldB y m d then numD y m d else 0
def daysE (y m d : Int) : Int := if vldB y m d then 0 else 1
/-- What Of's error is. -/
def ofE (n : Int) : Int := if 0 ≤ n ∧ n ≤ 2932896 then 0 else 1
/-- The sign of a digit. -/
def digB (b : UInt8) : Bool := decide (48 ≤ b.toNat) && decide (b.toNat ≤ 57)
/-- Is it a time? -/
def timB (t : Int) : Bool := decide (0 ≤ t) && decide (t ≤ 253402300799)
theorem timB_iff {t : Int} : timB t = true ↔ 0 ≤ t ∧ t ≤ 253402300799 := by simp [timB]
/-- What seconds answers. -/
def secB (h m s : Int) : Bool := decide (h ≤ 23) && decide (m ≤ 59) && decide (s ≤ 59)
def secV (h m s : Int) : Int := if secB h m s then h * 3600 + m * 60 + s else 0
def secE (h m s : Int) : Int := if secB h m s then 0 else 1
end Go.Proofs.YtdcakmamdabiaaaDoor
