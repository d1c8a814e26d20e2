/-
  XtMath · DtMath · TxMath · PrMath · PrBack · PaMath · PaMail · PaBack, in one text.
-/
import Derived.Lib.Bytealg
import Derived.Lib.ItoaNum
import Derived.Lib.Atoi
import Derived.Lib.Join
/-
  xtext as lists of bytes: what a text's xtext is, what signs tell, and what follows of both.
-/
namespace Go.Proofs.YtojpkbonioglbaaGreatDoor.X
set_option maxRecDepth 100000
theorem all_bytes {p : UInt8 → Prop} (h : ∀ n, n < 256 → p (UInt8.ofNat n)) (b : UInt8) : p b := by
  have := h b.toNat b.toNat_lt
  rwa [UInt8.ofNat_toNat] at this
/-- A plain sign. -/
def plainX (b : UInt8) : Bool := decide (33 ≤ b.toNat) && decide (b.toNat ≤ 126) && b != 43 && b != 61
/-- The sign of a digit; the digit of a sign, or 16. -/
def digX (n : Nat) : UInt8 := if n < 10 then UInt8.ofNat (48 + n) else UInt8.ofNat (55 + n)
def valX (b : UInt8) : Nat := if 48 ≤ b.toNat ∧ b.toNat ≤ 57 then b.toNat - 48 else if 65 ≤ b.toNat ∧ b.toNat ≤ 70 then b.toNat - 55 else 16
def digsX : List UInt8 := [48, 49, 50, 51, 52, 53, 54, 55, 56, 57, 65, 66, 67, 68, 69, 70]
theorem digs_get : ∀ n, n < 16 → digsX[n]? = some (digX n) := by decide
theorem digs_index (b : UInt8) : Lib.indexByte digsX b = if valX b < 16 then (valX b : Int) else -1 :=
  all_bytes (p := fun b => Lib.indexByte digsX b = if valX b < 16 then (valX b : Int) else -1) (by decide +kernel) b
theorem val_dig : ∀ n, n < 16 → valX (digX n) = n := by decide
theorem val_le (b : UInt8) : valX b ≤ 16 := by unfold valX; split <;> (try split) <;> omega
def encX1 (b : UInt8) : List UInt8 := if plainX b then [b] else [43, digX (b.toNat / 16), digX (b.toNat % 16)]
def encX (l : List UInt8) : List UInt8 := l.flatMap encX1
theorem encX_append (a b : List UInt8) : encX (a ++ b) = encX a ++ encX b := by simp [encX]
theorem encX_snoc (l : List UInt8) (b : UInt8) : encX (l ++ [b]) = encX l ++ encX1 b := by simp [encX]
theorem encX_take {l : List UInt8} {k : Nat} {b : UInt8} (h : l[k]? = some b) : encX (l.take (k + 1)) = encX (l.take k) ++ encX1 b := by
  obtain ⟨hk, e⟩ := List.getElem?_eq_some_iff.1 h
  rw [List.take_succ_eq_append_getElem hk, encX_snoc, e]
theorem encX1_len (b : UInt8) : 1 ≤ (encX1 b).length ∧ (encX1 b).length ≤ 3 := by unfold encX1; split <;> simp
theorem encX_len (l : List UInt8) : l.length ≤ (encX l).length ∧ (encX l).length ≤ 3 * l.length := by
  induction l with
  | nil => simp [encX]
  | cons b l ih =>
    have e : encX (b :: l) = encX1 b ++ encX l := by simp [encX]
    have := encX1_len b
    rw [e, List.length_append, List.length_cons]
    omega
/-- What signs tell. -/
def decX : List UInt8 → Option (List UInt8)
  | [] => some []
  | b :: l => if plainX b then (decX l).map (b :: ·) else if b = 43 then
      match l with
      | x :: y :: r => if valX x < 16 ∧ valX y < 16 then (decX r).map (UInt8.ofNat (16 * valX x + valX y) :: ·) else none
      | _ => none
    else none
theorem decX_cons (b : UInt8) (l : List UInt8) : decX (b :: l) = if plainX b then (decX l).map (b :: ·) else if b = 43 then
      match l with
      | x :: y :: r => if valX x < 16 ∧ valX y < 16 then (decX r).map (UInt8.ofNat (16 * valX x + valX y) :: ·) else none
      | _ => none
    else none := by
  match l with
  | [] => simp only [decX]
  | [x] => rw [decX]; intro _ _ _ h; cases h
  | x :: y :: r => rw [decX]
theorem decX_plain {b : UInt8} (h : plainX b = true) (r : List UInt8) : decX (b :: r) = (decX r).map (b :: ·) := by rw [decX_cons, if_pos h]
theorem decX_bad {b : UInt8} (h : plainX b = false) (h2 : b ≠ 43) (r : List UInt8) : decX (b :: r) = none := by rw [decX_cons, if_neg (by rw [h]; decide), if_neg h2]
theorem plain43 : plainX 43 = false := by decide
theorem decX_mark (x y : UInt8) (r : List UInt8) : decX (43 :: x :: y :: r) = if valX x < 16 ∧ valX y < 16 then (decX r).map (UInt8.ofNat (16 * valX x + valX y) :: ·) else none := by
  rw [decX_cons, if_neg (by rw [plain43]; decide), if_pos rfl]
theorem decX_mark0 : decX [43] = none := by
  rw [decX_cons, if_neg (by rw [plain43]; decide), if_pos rfl]
theorem decX_mark1 (x : UInt8) : decX [43, x] = none := by
  rw [decX_cons, if_neg (by rw [plain43]; decide), if_pos rfl]
theorem decX_enc1 (b : UInt8) (r : List UInt8) : decX (encX1 b ++ r) = (decX r).map (b :: ·) := by
  unfold encX1
  by_cases h : plainX b
  · rw [if_pos h]; exact decX_plain h r
  · have hb := b.toNat_lt
    rw [if_neg h]
    show decX (43 :: digX (b.toNat / 16) :: digX (b.toNat % 16) :: r) = _
    rw [decX_mark, val_dig _ (by omega), val_dig _ (by omega), if_pos ⟨by omega, by omega⟩]
    have e : UInt8.ofNat (16 * (b.toNat / 16) + b.toNat % 16) = b := by rw [Nat.div_add_mod]; exact UInt8.ofNat_toNat
    rw [e]
theorem decX_enc (l r : List UInt8) : decX (encX l ++ r) = (decX r).map (l ++ ·) := by
  induction l with
  | nil => simp [encX]
  | cons b l ih =>
    have e : encX (b :: l) ++ r = encX1 b ++ (encX l ++ r) := by simp [encX]
    rw [e, decX_enc1, ih, Option.map_map]
    rfl
theorem decX_encX (l : List UInt8) : decX (encX l) = some l := by
  have := decX_enc l []
  rw [List.append_nil] at this
  rw [this]
  simp [decX]
theorem encX_inj {a b : List UInt8} (h : encX a = encX b) : a = b := by
  have := decX_encX a
  rw [h, decX_encX] at this
  injection this with this
  exact this.symm
theorem encX1_signs (b : UInt8) : ∀ x ∈ encX1 b, 33 ≤ x.toNat ∧ x.toNat ≤ 126 ∧ x ≠ 61 :=
  all_bytes (p := fun b => ∀ x ∈ encX1 b, 33 ≤ x.toNat ∧ x.toNat ≤ 126 ∧ x ≠ 61) (by decide +kernel) b
theorem encX_signs {l : List UInt8} {x : UInt8} (h : x ∈ encX l) : 33 ≤ x.toNat ∧ x.toNat ≤ 126 ∧ x ≠ 61 := by
  obtain ⟨b, _, hb⟩ := List.mem_flatMap.1 h
  exact encX1_signs b x hb
/-- What is told of the front, and of what stands behind it. -/
theorem decX_append : ∀ (n : Nat) (a : List UInt8), a.length ≤ n → ∀ {s : List UInt8}, decX a = some s → ∀ r, decX (a ++ r) = (decX r).map (s ++ ·)
  | _, [], _, s, h, r => by
    rw [decX] at h
    injection h with h
    subst h
    simp
  | 0, b :: a, hn, s, h, r => by simp at hn
  | n + 1, b :: a, hn, s, h, r => by
    rw [List.length_cons] at hn
    by_cases hp : plainX b
    · rw [decX_plain hp] at h
      obtain ⟨t, ht, e⟩ := Option.map_eq_some_iff.1 h
      rw [List.cons_append, decX_plain hp, decX_append n a (by omega) ht r, Option.map_map, ← e]
      rfl
    · have hp' : plainX b = false := by simpa using hp
      by_cases h43 : b = 43
      · subst h43
        match a, hn, h with
        | [], _, h => rw [decX_mark0] at h; cases h
        | [x], _, h => rw [decX_mark1] at h; cases h
        | x :: y :: a, hn, h =>
          simp only [List.length_cons] at hn
          rw [decX_mark] at h
          by_cases hv : valX x < 16 ∧ valX y < 16
          · rw [if_pos hv] at h
            obtain ⟨t, ht, e⟩ := Option.map_eq_some_iff.1 h
            show decX (43 :: x :: y :: (a ++ r)) = _
            rw [decX_mark, if_pos hv, decX_append n a (by omega) ht r, Option.map_map, ← e]
            rfl
          · rw [if_neg hv] at h; cases h
      · rw [decX_bad hp' h43] at h; cases h
theorem decX_len : ∀ (n : Nat) (a : List UInt8), a.length ≤ n → ∀ {s : List UInt8}, decX a = some s → s.length ≤ a.length
  | _, [], _, s, h => by
    rw [decX] at h
    injection h with h
    subst h
    simp
  | 0, b :: a, hn, s, h => by simp at hn
  | n + 1, b :: a, hn, s, h => by
    rw [List.length_cons] at hn
    by_cases hp : plainX b
    · rw [decX_plain hp] at h
      obtain ⟨t, ht, e⟩ := Option.map_eq_some_iff.1 h
      have := decX_len n a (by omega) ht
      rw [← e]
      simp
      omega
    · have hp' : plainX b = false := by simpa using hp
      by_cases h43 : b = 43
      · subst h43
        match a, hn, h with
        | [], _, h => rw [decX_mark0] at h; cases h
        | [x], _, h => rw [decX_mark1] at h; cases h
        | x :: y :: a, hn, h =>
          simp only [List.length_cons] at hn
          rw [decX_mark] at h
          by_cases hv : valX x < 16 ∧ valX y < 16
          · rw [if_pos hv] at h
            obtain ⟨t, ht, e⟩ := Option.map_eq_some_iff.1 h
            have := decX_len n a (by omega) ht
            rw [← e]
            simp
            omega
          · rw [if_neg hv] at h; cases h
      · rw [decX_bad hp' h43] at h; cases h
/-- What Decode answers. -/
def decS (l : List UInt8) : List UInt8 := (decX l).getD []
def decE (l : List UInt8) : Int := if (decX l).isSome then 0 else 2
theorem decS_len (l : List UInt8) : (decS l).length ≤ l.length := by
  unfold decS
  cases h : decX l with
  | none => simp
  | some s => exact decX_len _ l (Nat.le_refl _) h
end Go.Proofs.YtojpkbonioglbaaGreatDoor.X
/-
  Dates as numbers of days: what a year and a month have, what a date's number is, that no two dates have one number, and that each number in range has a date.
-/
namespace Go.Proofs.YtojpkbonioglbaaGreatDoor
set_option maxRecDepth 100000
/-- Has a year's February 29 days? -/
def leapD (y : Int) : Bool := (y % 4 == 0 && y % 100 != 0) || y % 400 == 0
def lpD (y : Int) : Int := if leapD y then 1 else 0
def tabD : List Int := [31, 28, 31, 30, 31, 30, 31, 31, 30, 31, 30, 31]
def dimD (y m : Int) : Int := if m < 1 ∨ 12 < m then 0 else tabD.getD (m - 1).toNat 0 + (if m = 2 then lpD y else 0)
def aheadD (y : Int) : Int := (y - 1) * 365 + (y - 1) / 4 - (y - 1) / 100 + (y - 1) / 400
def begD (y : Int) : Int := aheadD y - 719162
/-- The days of a year that are ahead of a month. -/
def cumD (y m : Int) : Int := (367 * m - 362) / 12 - (if m ≤ 2 then 0 else 2 - lpD y)
def numD (y m d : Int) : Int := begD y + cumD y m + d - 1
structure Vld (y m d : Int) : Prop where
  y1 : 1970 ≤ y
  y2 : y ≤ 9999
  d1 : 1 ≤ d
  d2 : d ≤ dimD y m
theorem lp_01 (y : Int) : 0 ≤ lpD y ∧ lpD y ≤ 1 := by unfold lpD; split <;> omega
theorem leap_cases (y : Int) : (leapD y = true ∧ ((y % 4 = 0 ∧ y % 100 ≠ 0) ∨ y % 400 = 0)) ∨ (leapD y = false ∧ ¬ ((y % 4 = 0 ∧ y % 100 ≠ 0) ∨ y % 400 = 0)) := by
  cases h : leapD y
  · refine .inr ⟨rfl, ?_⟩
    simp [leapD] at h
    omega
  · refine .inl ⟨rfl, ?_⟩
    simp [leapD] at h
    omega
theorem beg_succ (y : Int) : begD (y + 1) = begD y + 365 + lpD y := by
  unfold begD aheadD lpD
  rcases leap_cases y with ⟨h, e⟩ | ⟨h, e⟩
  · rw [h, if_pos rfl]; omega
  · rw [h, if_neg (by decide)]; omega
theorem beg_mono {a b : Int} (h : a ≤ b) : begD a ≤ begD b := by unfold begD aheadD; omega
theorem beg_lt {a b : Int} (h : a < b) : begD a + 365 ≤ begD b := by
  have := beg_mono (a := a + 1) (b := b) (by omega)
  have := beg_succ a
  have := lp_01 a
  omega
theorem beg_0 : begD 1970 = 0 := by decide
theorem beg_end : begD 10000 = 2932897 := by decide
theorem beg_bd {y : Int} (h1 : 1970 ≤ y) (h2 : y ≤ 10000) : 0 ≤ begD y ∧ begD y ≤ 2932897 := by
  have := beg_mono h1
  have := beg_mono h2
  rw [beg_0] at *
  rw [beg_end] at *
  omega
theorem month_cases {m : Int} (h1 : 1 ≤ m) (h2 : m ≤ 12) : m = 1 ∨ m = 2 ∨ m = 3 ∨ m = 4 ∨ m = 5 ∨ m = 6 ∨ m = 7 ∨ m = 8 ∨ m = 9 ∨ m = 10 ∨ m = 11 ∨ m = 12 := by omega
theorem cum_succ (y m : Int) (h1 : 1 ≤ m) (h2 : m ≤ 12) : cumD y (m + 1) = cumD y m + dimD y m := by
  rcases month_cases h1 h2 with rfl | rfl | rfl | rfl | rfl | rfl | rfl | rfl | rfl | rfl | rfl | rfl <;> simp [cumD, dimD, tabD] <;> omega
theorem cum_1 (y : Int) : cumD y 1 = 0 := by simp [cumD]
theorem cum_13 (y : Int) : cumD y 13 = 365 + lpD y := by simp [cumD]; omega
theorem dim_no {y m : Int} (h : m < 1 ∨ 12 < m) : dimD y m = 0 := by rw [dimD, if_pos h]
theorem dim_bd (y m : Int) (h1 : 1 ≤ m) (h2 : m ≤ 12) : 28 ≤ dimD y m ∧ dimD y m ≤ 31 := by
  have := lp_01 y
  rcases month_cases h1 h2 with rfl | rfl | rfl | rfl | rfl | rfl | rfl | rfl | rfl | rfl | rfl | rfl <;> simp [dimD, tabD] <;> omega
theorem dim_le (y m : Int) : 0 ≤ dimD y m ∧ dimD y m ≤ 31 := by
  by_cases h : m < 1 ∨ 12 < m
  · rw [dim_no h]; omega
  · have := dim_bd y m (by omega) (by omega); omega
theorem cum_mono (y : Int) {a b : Int} (h1 : 1 ≤ a) (h : a ≤ b) (h2 : b ≤ 13) : cumD y a ≤ cumD y b := by
  have := lp_01 y
  unfold cumD
  split <;> split <;> omega
theorem cum_bd (y : Int) {m : Int} (h1 : 1 ≤ m) (h2 : m ≤ 13) : 0 ≤ cumD y m ∧ cumD y m ≤ 365 + lpD y := by
  have a := cum_mono y (Int.le_refl 1) h1 h2
  have b := cum_mono y h1 h2 (Int.le_refl 13)
  rw [cum_1] at a
  rw [cum_13] at b
  exact ⟨a, b⟩
theorem Vld.m {y m d : Int} (h : Vld y m d) : 1 ≤ m ∧ m ≤ 12 := by
  by_cases hm : m < 1 ∨ 12 < m
  · have := h.d2
    have := h.d1
    rw [dim_no hm] at *
    omega
  · omega
theorem Vld.d31 {y m d : Int} (h : Vld y m d) : d ≤ 31 := by have := dim_le y m; have := h.d2; omega
theorem Vld.inYear {y m d : Int} (h : Vld y m d) : begD y ≤ numD y m d ∧ numD y m d < begD (y + 1) := by
  obtain ⟨a, b⟩ := h.m
  have := cum_bd y a (by omega)
  have := cum_bd y (m := m + 1) (by omega) (by omega)
  have := cum_succ y m a b
  have := beg_succ y
  have := h.d1
  have := h.d2
  unfold numD
  omega
theorem Vld.num_bd {y m d : Int} (h : Vld y m d) : 0 ≤ numD y m d ∧ numD y m d ≤ 2932896 := by
  have := h.inYear
  have := beg_bd h.y1 (by have := h.y2; omega)
  have := beg_bd (y := y + 1) (by have := h.y1; omega) (by have := h.y2; omega)
  omega
/-- No two dates have one number. -/
theorem Vld.inj {y m d y' m' d' : Int} (h : Vld y m d) (h' : Vld y' m' d') (e : numD y m d = numD y' m' d') : y = y' ∧ m = m' ∧ d = d' := by
  have i := h.inYear
  have i' := h'.inYear
  have hy : y = y' := by
    rcases Int.lt_trichotomy y y' with hl | hl | hl
    · have := beg_mono (a := y + 1) (b := y') (by omega); omega
    · exact hl
    · have := beg_mono (a := y' + 1) (b := y) (by omega); omega
  subst hy
  obtain ⟨a, b⟩ := h.m
  obtain ⟨a', b'⟩ := h'.m
  have c := cum_succ y m a b
  have c' := cum_succ y m' a' b'
  have hd1 := h.d1
  have hd2 := h.d2
  have hd1' := h'.d1
  have hd2' := h'.d2
  unfold numD at e
  have hm : m = m' := by
    rcases Int.lt_trichotomy m m' with hl | hl | hl
    · have := cum_mono y (a := m + 1) (b := m') (by omega) (by omega) (by omega); omega
    · exact hl
    · have := cum_mono y (a := m' + 1) (b := m) (by omega) (by omega) (by omega); omega
  subst hm
  exact ⟨rfl, rfl, by omega⟩
theorem year_at (n : Int) (h0 : 0 ≤ n) : ∀ k : Nat, n < begD (1970 + (k : Int)) → ∃ y : Int, 1970 ≤ y ∧ y < 1970 + (k : Int) ∧ begD y ≤ n ∧ n < begD (y + 1)
  | 0, h => by
    have e := beg_0
    have h' : n < begD 1970 := by simpa using h
    omega
  | k + 1, h => by
    by_cases hk : n < begD (1970 + (k : Int))
    · obtain ⟨y, a, b, c, d⟩ := year_at n h0 k hk
      exact ⟨y, a, by omega, c, d⟩
    · refine ⟨1970 + (k : Int), by omega, by omega, by omega, ?_⟩
      rw [show (1970 : Int) + k + 1 = 1970 + ((k + 1 : Nat) : Int) by omega]
      exact h
theorem month_at (y r : Int) (h0 : 0 ≤ r) (k : Nat) : k ≤ 12 → r < cumD y (1 + (k : Int)) → ∃ m : Int, 1 ≤ m ∧ m < 1 + (k : Int) ∧ cumD y m ≤ r ∧ r < cumD y (m + 1) := by
  induction k with
  | zero =>
    intro _ h
    have e := cum_1 y
    rw [show (1 : Int) + ((0 : Nat) : Int) = 1 by omega, e] at h
    omega
  | succ k ih =>
    intro hk12 h
    by_cases hk : r < cumD y (1 + (k : Int))
    · obtain ⟨m, a, b, c, d⟩ := ih (by omega) hk
      exact ⟨m, a, by omega, c, d⟩
    · refine ⟨1 + (k : Int), by omega, by omega, by omega, ?_⟩
      rw [show (1 : Int) + (k : Int) + 1 = 1 + ((k + 1 : Nat) : Int) by omega]
      exact h
theorem Vld.mk' {y m n : Int} (hy1 : 1970 ≤ y) (hy2 : y ≤ 9999) (h1 : cumD y m ≤ n - begD y) (h2 : n - begD y - cumD y m < dimD y m) : Vld y m (n - begD y - cumD y m + 1) ∧ numD y m (n - begD y - cumD y m + 1) = n :=
  ⟨⟨hy1, hy2, by omega, by omega⟩, by unfold numD; omega⟩
/-- Each number in range has a date. -/
theorem date_at (n : Int) (h0 : 0 ≤ n) (h1 : n ≤ 2932896) : ∃ q : Int × Int × Int, Vld q.1 q.2.1 q.2.2 ∧ numD q.1 q.2.1 q.2.2 = n := by
  obtain ⟨y, a, b, c, d⟩ := year_at n h0 8030 (by have := beg_end; show n < begD 10000; omega)
  have s := beg_succ y
  obtain ⟨m, e, f, g, i⟩ := month_at y (n - begD y) (by omega) 12 (by omega) (by show _ < cumD y 13; rw [cum_13]; omega)
  have := cum_succ y m e (by omega)
  have hv := Vld.mk' (y := y) (m := m) (n := n) a (by omega) g (by omega)
  exact ⟨(y, m, n - begD y - cumD y m + 1), hv⟩
open Classical in
/-- The date of a number. -/
noncomputable def ofD (n : Int) : Int × Int × Int := if h : ∃ q : Int × Int × Int, Vld q.1 q.2.1 q.2.2 ∧ numD q.1 q.2.1 q.2.2 = n then Classical.choose h else (0, 0, 0)
theorem ofD_spec {n : Int} (h0 : 0 ≤ n) (h1 : n ≤ 2932896) : Vld (ofD n).1 (ofD n).2.1 (ofD n).2.2 ∧ numD (ofD n).1 (ofD n).2.1 (ofD n).2.2 = n := by
  have h := date_at n h0 h1
  rw [ofD, dif_pos h]
  exact Classical.choose_spec h
theorem ofD_num {y m d : Int} (h : Vld y m d) : ofD (numD y m d) = (y, m, d) := by
  obtain ⟨a, b⟩ := ofD_spec h.num_bd.1 h.num_bd.2
  obtain ⟨e1, e2, e3⟩ := a.inj h b
  exact Prod.ext e1 (Prod.ext e2 e3)
theorem ofD_no {n : Int} (h : ¬ (0 ≤ n ∧ n ≤ 2932896)) : ofD n = (0, 0, 0) := by
  rw [ofD, dif_neg]
  rintro ⟨q, v, e⟩
  have := v.num_bd
  rw [e] at this
  exact h this
/-- Is it a date? -/
def vldB (y m d : Int) : Bool := decide (1970 ≤ y) && decide (y ≤ 9999) && decide (1 ≤ d) && decide (d ≤ dimD y m)
theorem vldB_iff {y m d : Int} : vldB y m d = true ↔ Vld y m d := by
  unfold vldB
  simp only [Bool.and_eq_true, decide_eq_true_eq]
  exact ⟨fun ⟨⟨⟨a, b⟩, c⟩, d⟩ => ⟨a, b, c, d⟩, fun ⟨a, b, c, d⟩ => ⟨⟨⟨a, b⟩, c⟩, d⟩⟩
/-- What Days answers. -/
def daysV (y m d : Int) : Int := if vldB y m d then numD y m d else 0
def daysE (y m d : Int) : Int := if vldB y m d then 0 else 1
/-- What Of's error is. -/
def ofE (n : Int) : Int := if 0 ≤ n ∧ n ≤ 2932896 then 0 else 1
/-- The sign of a digit. -/
def digB (b : UInt8) : Bool := decide (48 ≤ b.toNat) && decide (b.toNat ≤ 57)
/-- Is it a time? -/
def timB (t : Int) : Bool := decide (0 ≤ t) && decide (t ≤ 253402300799)
theorem timB_iff {t : Int} : timB t = true ↔ 0 ≤ t ∧ t ≤ 253402300799 := by simp [timB]
/-- What seconds answers. -/
def secB (h m s : Int) : Bool := decide (h ≤ 23) && decide (m ≤ 59) && decide (s ≤ 59)
def secV (h m s : Int) : Int := if secB h m s then h * 3600 + m * 60 + s else 0
def secE (h m s : Int) : Int := if secB h m s then 0 else 1
end Go.Proofs.YtojpkbonioglbaaGreatDoor
/-
  Texts of times as lists of bytes: the forms, the numbers of digits, what a text tells, a time's text.
-/
namespace Go.Proofs.YtojpkbonioglbaaGreatDoor
set_option maxRecDepth 100000
/-- What may stand where a form has a sign. -/
def signX (f a : UInt8) : Bool := if f = 48 then digB a else a == f
def likeX : List UInt8 → List UInt8 → Bool
  | [], [] => true
  | a :: s, f :: form => signX f a && likeX s form
  | _, _ => false
def formZ : List UInt8 := [48, 48, 48, 48, 45, 48, 48, 45, 48, 48, 84, 48, 48, 58, 48, 48, 58, 48, 48, 90]
def formP : List UInt8 := [48, 48, 48, 48, 45, 48, 48, 45, 48, 48, 84, 48, 48, 58, 48, 48, 58, 48, 48, 43, 48, 48, 58, 48, 48]
def formM : List UInt8 := [48, 48, 48, 48, 45, 48, 48, 45, 48, 48, 84, 48, 48, 58, 48, 48, 58, 48, 48, 45, 48, 48, 58, 48, 48]
theorem likeX_len : ∀ {s form : List UInt8}, likeX s form = true → s.length = form.length
  | [], [], _ => rfl
  | [], _ :: _, h => by simp [likeX] at h
  | _ :: _, [], h => by simp [likeX] at h
  | a :: s, f :: form, h => by
    rw [likeX, Bool.and_eq_true] at h
    rw [List.length_cons, List.length_cons, likeX_len h.2]
theorem likeX_ne {s form : List UInt8} (h : s.length ≠ form.length) : likeX s form = false := Bool.eq_false_iff.2 fun e => h (likeX_len e)
theorem likeX_get : ∀ {s form : List UInt8}, likeX s form = true → ∀ (i : Nat) {f : UInt8}, form[i]? = some f → ∃ x, s[i]? = some x ∧ signX f x = true
  | [], [], _, i, f, hf => by simp at hf
  | [], _ :: _, h, _, _, _ => by simp [likeX] at h
  | _ :: _, [], h, _, _, _ => by simp [likeX] at h
  | a :: s, g :: form, h, 0, f, hf => by
    rw [likeX, Bool.and_eq_true] at h
    simp at hf
    subst hf
    exact ⟨a, rfl, h.1⟩
  | a :: s, g :: form, h, i + 1, f, hf => by
    rw [likeX, Bool.and_eq_true] at h
    rw [List.getElem?_cons_succ] at hf ⊢
    exact likeX_get h.2 i hf
theorem likeX_drop {s form : List UInt8} {k : Nat} {a f : UInt8} (ha : s[k]? = some a) (hf : form[k]? = some f) : likeX (s.drop k) (form.drop k) = (signX f a && likeX (s.drop (k + 1)) (form.drop (k + 1))) := by
  obtain ⟨h1, e1⟩ := List.getElem?_eq_some_iff.1 ha
  obtain ⟨h2, e2⟩ := List.getElem?_eq_some_iff.1 hf
  rw [List.drop_eq_getElem_cons h1, List.drop_eq_getElem_cons h2, likeX, e1, e2]
/-- The number of digits. -/
def valX (l : List UInt8) : Nat := l.foldl (fun n b => n * 10 + (b.toNat - 48)) 0
theorem valX_snoc (l : List UInt8) (b : UInt8) : valX (l ++ [b]) = valX l * 10 + (b.toNat - 48) := by simp [valX]
def fldL (l : List UInt8) (a k : Nat) : List UInt8 := (l.drop a).take k
def fld (l : List UInt8) (a k : Nat) : Int := (valX (fldL l a k) : Int)
theorem fldL_succ {l : List UInt8} {a k : Nat} {x : UInt8} (h : l[a + k]? = some x) : fldL l a (k + 1) = fldL l a k ++ [x] := by
  obtain ⟨h1, e1⟩ := List.getElem?_eq_some_iff.1 h
  unfold fldL
  rw [List.take_succ_eq_append_getElem (by rw [List.length_drop]; omega), List.getElem_drop, e1]
theorem digB_bd {b : UInt8} (h : digB b = true) : 48 ≤ b.toNat ∧ b.toNat ≤ 57 := by simpa [digB] using h
/-- The signs that stand from a on, so many of them, are digits. -/
def Run (l : List UInt8) (a k : Nat) : Prop := ∀ j, j < k → ∃ x, l[a + j]? = some x ∧ digB x = true
theorem run_bd {l : List UInt8} {a : Nat} : ∀ {k : Nat}, Run l a k → valX (fldL l a k) < 10 ^ k
  | 0, _ => by simp [fldL, valX]
  | k + 1, h => by
    obtain ⟨x, hx, hd⟩ := h k (by omega)
    have := run_bd (k := k) (l := l) (a := a) (fun j hj => h j (by omega))
    have := digB_bd hd
    rw [fldL_succ hx, valX_snoc, Nat.pow_succ]
    omega
theorem run_of {l form : List UInt8} (h : likeX l form = true) {a k : Nat} (hf : ∀ j, j < k → form[a + j]? = some 48) : Run l a k := fun j hj => by
  obtain ⟨x, hx, hs⟩ := likeX_get h (a + j) (hf j hj)
  exact ⟨x, hx, hs⟩
/-- No digit stands there. -/
def Ends (l : List UInt8) (a : Nat) : Prop := ∀ x, l[a]? = some x → digB x = false
theorem ends_of {l form : List UInt8} (h : likeX l form = true) {a : Nat} {f : UInt8} (hf : form[a]? = some f) (h48 : f ≠ 48) (hd : digB f = false) : Ends l a := fun x hx => by
  obtain ⟨y, hy, hs⟩ := likeX_get h a hf
  rw [hx] at hy
  injection hy with hy
  subst hy
  rw [signX, if_neg h48] at hs
  rw [beq_iff_eq.1 hs]
  exact hd
theorem ends_len {l form : List UInt8} (h : likeX l form = true) {a : Nat} (hf : form.length ≤ a) : Ends l a := fun x hx => by
  have := likeX_len h
  rw [List.getElem?_eq_none (by omega)] at hx
  cases hx
theorem fld_nil {l : List UInt8} {a : Nat} (h : l.length ≤ a) (k : Nat) : fld l a k = 0 := by
  unfold fld fldL
  rw [List.drop_of_length_le h]
  simp [valX]
/-- What a text tells. -/
def formedX (l : List UInt8) : Bool := likeX l formZ || likeX l formP || likeX l formM
def sgnX (l : List UInt8) : Int := if l[19]? = some 45 then -1 else 1
def dateB (l : List UInt8) : Bool := vldB (fld l 0 4) (fld l 5 2) (fld l 8 2)
def dateN (l : List UInt8) : Int := numD (fld l 0 4) (fld l 5 2) (fld l 8 2)
def clockB (l : List UInt8) : Bool := secB (fld l 11 2) (fld l 14 2) (fld l 17 2)
def zoneB (l : List UInt8) : Bool := secB (fld l 20 2) (fld l 23 2) 0
def parseT (l : List UInt8) : Int := dateN l * 86400 + (fld l 11 2 * 3600 + fld l 14 2 * 60 + fld l 17 2) - sgnX l * (fld l 20 2 * 3600 + fld l 23 2 * 60)
def okX (l : List UInt8) : Bool := dateB l && clockB l && zoneB l && timB (parseT l)
def parseV (l : List UInt8) : Int := if formedX l then (if okX l then parseT l else 0) else 0
def parseE (l : List UInt8) : Int := if formedX l then (if okX l then 0 else 1) else 2
/-- The shape of what is formed. -/
structure Shp (l : List UInt8) : Prop where
  len : 20 ≤ l.length ∧ l.length ≤ 25
  r0 : Run l 0 4
  e0 : Ends l 4
  r5 : Run l 5 2
  e5 : Ends l 7
  r8 : Run l 8 2
  e8 : Ends l 10
  r11 : Run l 11 2
  e11 : Ends l 13
  r14 : Run l 14 2
  e14 : Ends l 16
  r17 : Run l 17 2
  e17 : Ends l 19
  zone : (l.length = 20 ∧ l[19]? = some 90) ∨ (l.length = 25 ∧ (l[19]? = some 43 ∨ l[19]? = some 45) ∧ Run l 20 2 ∧ Ends l 22 ∧ Run l 23 2 ∧ Ends l 25)
theorem sign_get {l form : List UInt8} (h : likeX l form = true) {a : Nat} {f : UInt8} (hf : form[a]? = some f) (h48 : f ≠ 48) : l[a]? = some f := by
  obtain ⟨y, hy, hs⟩ := likeX_get h a hf
  rw [signX, if_neg h48] at hs
  rw [hy, beq_iff_eq.1 hs]
theorem shpZ {l : List UInt8} (h : likeX l formZ = true) : Shp l := by
  have hl := likeX_len h
  have hl' : l.length = 20 := hl
  exact ⟨by omega, run_of h (by decide), ends_of h (f := 45) (by decide) (by decide) (by decide), run_of h (by decide), ends_of h (f := 45) (by decide) (by decide) (by decide), run_of h (by decide), ends_of h (f := 84) (by decide) (by decide) (by decide),
    run_of h (by decide), ends_of h (f := 58) (by decide) (by decide) (by decide), run_of h (by decide), ends_of h (f := 58) (by decide) (by decide) (by decide), run_of h (by decide), ends_of h (f := 90) (by decide) (by decide) (by decide), .inl ⟨hl', sign_get h (by decide) (by decide)⟩⟩
theorem shpP {l : List UInt8} (h : likeX l formP = true) : Shp l := by
  have hl := likeX_len h
  have hl' : l.length = 25 := hl
  exact ⟨by omega, run_of h (by decide), ends_of h (f := 45) (by decide) (by decide) (by decide), run_of h (by decide), ends_of h (f := 45) (by decide) (by decide) (by decide), run_of h (by decide), ends_of h (f := 84) (by decide) (by decide) (by decide),
    run_of h (by decide), ends_of h (f := 58) (by decide) (by decide) (by decide), run_of h (by decide), ends_of h (f := 58) (by decide) (by decide) (by decide), run_of h (by decide), ends_of h (f := 43) (by decide) (by decide) (by decide),
    .inr ⟨hl', .inl (sign_get h (by decide) (by decide)), run_of h (by decide), ends_of h (f := 58) (by decide) (by decide) (by decide), run_of h (by decide), ends_len h (by decide)⟩⟩
theorem shpM {l : List UInt8} (h : likeX l formM = true) : Shp l := by
  have hl := likeX_len h
  have hl' : l.length = 25 := hl
  exact ⟨by omega, run_of h (by decide), ends_of h (f := 45) (by decide) (by decide) (by decide), run_of h (by decide), ends_of h (f := 45) (by decide) (by decide) (by decide), run_of h (by decide), ends_of h (f := 84) (by decide) (by decide) (by decide),
    run_of h (by decide), ends_of h (f := 58) (by decide) (by decide) (by decide), run_of h (by decide), ends_of h (f := 58) (by decide) (by decide) (by decide), run_of h (by decide), ends_of h (f := 45) (by decide) (by decide) (by decide),
    .inr ⟨hl', .inr (sign_get h (by decide) (by decide)), run_of h (by decide), ends_of h (f := 58) (by decide) (by decide) (by decide), run_of h (by decide), ends_len h (by decide)⟩⟩
theorem shp {l : List UInt8} (h : formedX l = true) : Shp l := by
  unfold formedX at h
  rw [Bool.or_eq_true, Bool.or_eq_true] at h
  rcases h with (h | h) | h
  · exact shpZ h
  · exact shpP h
  · exact shpM h
theorem fld_bd2 {l : List UInt8} {a : Nat} (h : Run l a 2) : 0 ≤ fld l a 2 ∧ fld l a 2 ≤ 99 := by
  have := run_bd h
  unfold fld
  omega
theorem fld_bd4 {l : List UInt8} {a : Nat} (h : Run l a 4) : 0 ≤ fld l a 4 ∧ fld l a 4 ≤ 9999 := by
  have := run_bd h
  unfold fld
  omega
theorem Shp.z20 {l : List UInt8} (h : Shp l) : 0 ≤ fld l 20 2 ∧ fld l 20 2 ≤ 99 := by
  rcases h.zone with ⟨h1, _⟩ | ⟨_, _, h2, _⟩
  · rw [fld_nil (by omega)]; omega
  · exact fld_bd2 h2
theorem Shp.z23 {l : List UInt8} (h : Shp l) : 0 ≤ fld l 23 2 ∧ fld l 23 2 ≤ 99 := by
  rcases h.zone with ⟨h1, _⟩ | ⟨_, _, _, _, h2, _⟩
  · rw [fld_nil (by omega)]; omega
  · exact fld_bd2 h2
end Go.Proofs.YtojpkbonioglbaaGreatDoor
/-
  A time's text as a list of bytes.
-/
namespace Go.Proofs.YtojpkbonioglbaaGreatDoor
set_option maxRecDepth 100000
/-- The sign of a digit's number. -/
def dg (n : Nat) : UInt8 := UInt8.ofNat (48 + n)
def b2 (n : Nat) : List UInt8 := [dg (n / 10), dg (n % 10)]
def b4 (n : Nat) : List UInt8 := [dg (n / 1000), dg (n / 100 % 10), dg (n / 10 % 10), dg (n % 10)]
theorem dg_nat {n : Nat} (h : n < 10) : (dg n).toNat = 48 + n := by simp [dg]; omega
theorem dg_dig {n : Nat} (h : n < 10) : digB (dg n) = true := by simp [digB, dg_nat h]; omega
theorem dec_1 {n : Nat} (h : n < 10) : Lib.decDigits n = [dg n] := by rw [Lib.decDigits, dif_pos h]; rfl
theorem dec_s {n : Nat} (h : ¬ n < 10) : Lib.decDigits n = Lib.decDigits (n / 10) ++ [dg (n % 10)] := by rw [Lib.decDigits, dif_neg h]; rfl
theorem dec_2 {n : Nat} (h1 : ¬ n < 10) (h2 : n < 100) : Lib.decDigits n = b2 n := by rw [dec_s h1, dec_1 (by omega)]; rfl
theorem dec_b2 {n : Nat} (h1 : n < 10) : [48] ++ Lib.decDigits n = b2 n := by
  rw [dec_1 h1, b2, show n / 10 = 0 by omega, show n % 10 = n by omega]
  rfl
theorem dec_4 {n : Nat} (h1 : 1000 ≤ n) (h2 : n < 10000) : Lib.decDigits n = b4 n := by
  rw [dec_s (by omega), dec_s (by omega), dec_s (by omega), dec_1 (by omega), b4, show n / 10 / 10 / 10 = n / 1000 by omega, show n / 10 / 10 % 10 = n / 100 % 10 by omega]
  rfl
/-- The text of a date and a clock. -/
def textX (y m d h i s : Nat) : List UInt8 := b4 y ++ [45] ++ b2 m ++ [45] ++ b2 d ++ [84] ++ b2 h ++ [58] ++ b2 i ++ [58] ++ b2 s ++ [90]
noncomputable def printX (t : Int) : List UInt8 :=
  textX (ofD (t / 86400)).1.toNat (ofD (t / 86400)).2.1.toNat (ofD (t / 86400)).2.2.toNat (t % 86400 / 3600).toNat (t % 3600 / 60).toNat (t % 60).toNat
/-- What Print answers. -/
noncomputable def printS (t : Int) : List UInt8 := if timB t then printX t else []
def printE (t : Int) : Int := if timB t then 0 else 1
end Go.Proofs.YtojpkbonioglbaaGreatDoor
/-
  What a printed text tells: the time that was printed; with another zone in Z's place, a time that is as much earlier or later.
-/
namespace Go.Proofs.YtojpkbonioglbaaGreatDoor
set_option maxRecDepth 100000
/-- A text ahead of its zone. -/
def coreX (y m d h i s : Nat) : List UInt8 := b4 y ++ [45] ++ b2 m ++ [45] ++ b2 d ++ [84] ++ b2 h ++ [58] ++ b2 i ++ [58] ++ b2 s
theorem textX_core (y m d h i s : Nat) : textX y m d h i s = coreX y m d h i s ++ [90] := rfl
theorem coreX_len (y m d h i s : Nat) : (coreX y m d h i s).length = 19 := rfl
theorem text_len (y m d h i s : Nat) : (textX y m d h i s).length = 20 := rfl
theorem text_take (y m d h i s : Nat) : (textX y m d h i s).take 19 = coreX y m d h i s := rfl
theorem val_2 {n : Nat} (h : n < 100) : valX (b2 n) = n := by
  show (0 * 10 + ((dg (n / 10)).toNat - 48)) * 10 + ((dg (n % 10)).toNat - 48) = n
  rw [dg_nat (by omega), dg_nat (by omega)]
  omega
theorem val_4 {n : Nat} (h : n < 10000) : valX (b4 n) = n := by
  show (((0 * 10 + ((dg (n / 1000)).toNat - 48)) * 10 + ((dg (n / 100 % 10)).toNat - 48)) * 10 + ((dg (n / 10 % 10)).toNat - 48)) * 10 + ((dg (n % 10)).toNat - 48) = n
  rw [dg_nat (by omega), dg_nat (by omega), dg_nat (by omega), dg_nat (by omega)]
  omega
/-- A date and a clock that may be. -/
structure Clk (y m d h i s : Nat) : Prop where
  vld : Vld y m d
  h : h ≤ 23
  i : i ≤ 59
  s : s ≤ 59
theorem Clk.bd {y m d h i s : Nat} (k : Clk y m d h i s) : y < 10000 ∧ m < 100 ∧ d < 100 := by
  have := k.vld.y2
  have := k.vld.m
  have := k.vld.d31
  omega
theorem fld_y {y m d h i s : Nat} (k : Clk y m d h i s) (z : List UInt8) : fld (coreX y m d h i s ++ z) 0 4 = y := by
  show ((valX (b4 y) : Nat) : Int) = y
  rw [val_4 k.bd.1]
theorem fld_m {y m d h i s : Nat} (k : Clk y m d h i s) (z : List UInt8) : fld (coreX y m d h i s ++ z) 5 2 = m := by
  show ((valX (b2 m) : Nat) : Int) = m
  rw [val_2 k.bd.2.1]
theorem fld_d {y m d h i s : Nat} (k : Clk y m d h i s) (z : List UInt8) : fld (coreX y m d h i s ++ z) 8 2 = d := by
  show ((valX (b2 d) : Nat) : Int) = d
  rw [val_2 k.bd.2.2]
theorem fld_h {y m d h i s : Nat} (k : Clk y m d h i s) (z : List UInt8) : fld (coreX y m d h i s ++ z) 11 2 = h := by
  show ((valX (b2 h) : Nat) : Int) = h
  rw [val_2 (by have := k.h; omega)]
theorem fld_i {y m d h i s : Nat} (k : Clk y m d h i s) (z : List UInt8) : fld (coreX y m d h i s ++ z) 14 2 = i := by
  show ((valX (b2 i) : Nat) : Int) = i
  rw [val_2 (by have := k.i; omega)]
theorem fld_s {y m d h i s : Nat} (k : Clk y m d h i s) (z : List UInt8) : fld (coreX y m d h i s ++ z) 17 2 = s := by
  show ((valX (b2 s) : Nat) : Int) = s
  rw [val_2 (by have := k.s; omega)]
theorem like_core {y m d h i s : Nat} (k : Clk y m d h i s) (z : List UInt8) (f : List UInt8) : likeX (coreX y m d h i s ++ z) ([48, 48, 48, 48, 45, 48, 48, 45, 48, 48, 84, 48, 48, 58, 48, 48, 58, 48, 48] ++ f) = likeX z f := by
  have hb := k.bd
  have hh := k.h
  have hi := k.i
  have hs := k.s
  have q : ∀ {n : Nat}, n < 10 → signX 48 (dg n) = true := fun hn => by rw [signX, if_pos rfl]; exact dg_dig hn
  have q45 : signX 45 45 = true := by decide
  have q84 : signX 84 84 = true := by decide
  have q58 : signX 58 58 = true := by decide
  show (signX 48 (dg (y / 1000)) && (signX 48 (dg (y / 100 % 10)) && (signX 48 (dg (y / 10 % 10)) && (signX 48 (dg (y % 10)) && (signX 45 45 && (signX 48 (dg (m / 10)) && (signX 48 (dg (m % 10)) && (signX 45 45 && (signX 48 (dg (d / 10)) && (signX 48 (dg (d % 10)) && (signX 84 84 && (signX 48 (dg (h / 10)) && (signX 48 (dg (h % 10)) && (signX 58 58 && (signX 48 (dg (i / 10)) && (signX 48 (dg (i % 10)) && (signX 58 58 && (signX 48 (dg (s / 10)) && (signX 48 (dg (s % 10)) && likeX z f))))))))))))))))))) = likeX z f
  rw [q (n := y / 1000) (by omega), q (n := y / 100 % 10) (by omega), q (n := y / 10 % 10) (by omega), q (n := y % 10) (by omega), q (n := m / 10) (by omega), q (n := m % 10) (by omega), q (n := d / 10) (by omega), q (n := d % 10) (by omega),
    q (n := h / 10) (by omega), q (n := h % 10) (by omega), q (n := i / 10) (by omega), q (n := i % 10) (by omega), q (n := s / 10) (by omega), q (n := s % 10) (by omega), q45, q84, q58]
  rfl
theorem dateB_core {y m d h i s : Nat} (k : Clk y m d h i s) (z : List UInt8) : dateB (coreX y m d h i s ++ z) = true := by
  unfold dateB
  rw [fld_y k, fld_m k, fld_d k]
  exact vldB_iff.2 k.vld
theorem clockB_core {y m d h i s : Nat} (k : Clk y m d h i s) (z : List UInt8) : clockB (coreX y m d h i s ++ z) = true := by
  unfold clockB
  rw [fld_h k, fld_i k, fld_s k]
  have := k.h
  have := k.i
  have := k.s
  simp [secB]
  omega
theorem parseT_core {y m d h i s : Nat} (k : Clk y m d h i s) (z : List UInt8) : parseT (coreX y m d h i s ++ z) = numD y m d * 86400 + ((h : Int) * 3600 + i * 60 + s) - sgnX (coreX y m d h i s ++ z) * (fld (coreX y m d h i s ++ z) 20 2 * 3600 + fld (coreX y m d h i s ++ z) 23 2 * 60) := by
  unfold parseT dateN
  rw [fld_y k, fld_m k, fld_d k, fld_h k, fld_i k, fld_s k]
/-- What stands in Z. -/
theorem parse_Z {y m d h i s : Nat} (k : Clk y m d h i s) {t : Int} (ht : numD y m d * 86400 + ((h : Int) * 3600 + i * 60 + s) = t) (hb : timB t = true) : parseV (textX y m d h i s) = t ∧ parseE (textX y m d h i s) = 0 := by
  have hf : formedX (coreX y m d h i s ++ [90]) = true := by
    have := like_core k [90] [90]
    unfold formedX
    rw [show formZ = [48, 48, 48, 48, 45, 48, 48, 45, 48, 48, 84, 48, 48, 58, 48, 48, 58, 48, 48] ++ [90] from rfl, this]
    rfl
  have hz1 : fld (coreX y m d h i s ++ [90]) 20 2 = 0 := fld_nil (by rw [List.length_append, coreX_len]; decide) 2
  have hz2 : fld (coreX y m d h i s ++ [90]) 23 2 = 0 := fld_nil (by rw [List.length_append, coreX_len]; decide) 2
  have hp : parseT (coreX y m d h i s ++ [90]) = t := by rw [parseT_core k, hz1, hz2, ← ht]; omega
  have ho : okX (coreX y m d h i s ++ [90]) = true := by
    unfold okX zoneB
    rw [dateB_core k, clockB_core k, hz1, hz2, hp, hb]
    rfl
  rw [textX_core, parseV, parseE, hf, ho, hp]
  exact ⟨rfl, rfl⟩
/-- What stands in another zone: a is 43 (+) or 45 (-). -/
theorem parse_zone {y m d h i s : Nat} (k : Clk y m d h i s) {zh zm : Nat} (h1 : zh ≤ 23) (h2 : zm ≤ 59) (a : UInt8) (ha : a = 43 ∨ a = 45) {t : Int} (ht : numD y m d * 86400 + ((h : Int) * 3600 + i * 60 + s) - (if a = 45 then -1 else 1) * ((zh : Int) * 3600 + zm * 60) = t) :
    parseV (coreX y m d h i s ++ ([a] ++ (b2 zh ++ [58] ++ b2 zm))) = (if timB t then t else 0) ∧ parseE (coreX y m d h i s ++ ([a] ++ (b2 zh ++ [58] ++ b2 zm))) = (if timB t then 0 else 1) := by
  have q : ∀ {n : Nat}, n < 10 → signX 48 (dg n) = true := fun hn => by rw [signX, if_pos rfl]; exact dg_dig hn
  have hl : ∀ g : UInt8, g = a → g ≠ 48 → likeX (coreX y m d h i s ++ ([a] ++ (b2 zh ++ [58] ++ b2 zm))) ([48, 48, 48, 48, 45, 48, 48, 45, 48, 48, 84, 48, 48, 58, 48, 48, 58, 48, 48] ++ [g, 48, 48, 58, 48, 48]) = true := by
    rintro g rfl hg
    rw [like_core k]
    show (signX g g && (signX 48 (dg (zh / 10)) && (signX 48 (dg (zh % 10)) && (signX 58 58 && (signX 48 (dg (zm / 10)) && (signX 48 (dg (zm % 10)) && true)))))) = true
    rw [q (n := zh / 10) (by omega), q (n := zh % 10) (by omega), q (n := zm / 10) (by omega), q (n := zm % 10) (by omega), show signX g g = true by rw [signX, if_neg hg]; exact beq_self_eq_true g]
    rfl
  have hf : formedX (coreX y m d h i s ++ ([a] ++ (b2 zh ++ [58] ++ b2 zm))) = true := by
    unfold formedX
    rcases ha with ha | ha
    · have := hl 43 ha.symm (by decide)
      rw [show formP = [48, 48, 48, 48, 45, 48, 48, 45, 48, 48, 84, 48, 48, 58, 48, 48, 58, 48, 48] ++ [43, 48, 48, 58, 48, 48] from rfl, this]
      simp
    · have := hl 45 ha.symm (by decide)
      rw [show formM = [48, 48, 48, 48, 45, 48, 48, 45, 48, 48, 84, 48, 48, 58, 48, 48, 58, 48, 48] ++ [45, 48, 48, 58, 48, 48] from rfl, this]
      simp
  have hz1 : fld (coreX y m d h i s ++ ([a] ++ (b2 zh ++ [58] ++ b2 zm))) 20 2 = zh := by
    show ((valX (b2 zh) : Nat) : Int) = zh
    rw [val_2 (by omega)]
  have hz2 : fld (coreX y m d h i s ++ ([a] ++ (b2 zh ++ [58] ++ b2 zm))) 23 2 = zm := by
    show ((valX (b2 zm) : Nat) : Int) = zm
    rw [val_2 (by omega)]
  have hsg : sgnX (coreX y m d h i s ++ ([a] ++ (b2 zh ++ [58] ++ b2 zm))) = if a = 45 then -1 else 1 := by
    show (if some a = some (45 : UInt8) then (-1 : Int) else 1) = _
    simp
  have hp : parseT (coreX y m d h i s ++ ([a] ++ (b2 zh ++ [58] ++ b2 zm))) = t := by rw [parseT_core k, hz1, hz2, hsg, ← ht]
  have ho : okX (coreX y m d h i s ++ ([a] ++ (b2 zh ++ [58] ++ b2 zm))) = timB t := by
    unfold okX zoneB
    rw [dateB_core k, clockB_core k, hz1, hz2, hp, show secB zh zm 0 = true by simp [secB]; omega]
    simp
  rw [parseV, parseE, hf, ho, hp]
  exact ⟨rfl, rfl⟩
/-- The date and the clock of a time. -/
theorem clk_of {t : Int} (ht : timB t = true) : Clk (ofD (t / 86400)).1.toNat (ofD (t / 86400)).2.1.toNat (ofD (t / 86400)).2.2.toNat (t % 86400 / 3600).toNat (t % 3600 / 60).toNat (t % 60).toNat ∧
    numD ((ofD (t / 86400)).1.toNat : Int) ((ofD (t / 86400)).2.1.toNat : Int) ((ofD (t / 86400)).2.2.toNat : Int) * 86400 + (((t % 86400 / 3600).toNat : Int) * 3600 + (t % 3600 / 60).toNat * 60 + (t % 60).toNat) = t := by
  have hb := timB_iff.1 ht
  obtain ⟨hv, hn⟩ := ofD_spec (n := t / 86400) (by omega) (by omega)
  have e1 : ((ofD (t / 86400)).1.toNat : Int) = (ofD (t / 86400)).1 := Int.toNat_of_nonneg (by have := hv.y1; omega)
  have e2 : ((ofD (t / 86400)).2.1.toNat : Int) = (ofD (t / 86400)).2.1 := Int.toNat_of_nonneg (by have := hv.m; omega)
  have e3 : ((ofD (t / 86400)).2.2.toNat : Int) = (ofD (t / 86400)).2.2 := Int.toNat_of_nonneg (by have := hv.d1; omega)
  refine ⟨⟨by rw [e1, e2, e3]; exact hv, by omega, by omega, by omega⟩, ?_⟩
  rw [e1, e2, e3, hn]
  omega
theorem back_x {t : Int} (ht : timB t = true) : parseV (printS t) = t ∧ parseE (printS t) = 0 ∧ printE t = 0 ∧ (printS t).length = 20 := by
  obtain ⟨k, hn⟩ := clk_of ht
  have := parse_Z k hn ht
  unfold printS printE
  rw [ht, if_pos rfl, if_pos rfl]
  exact ⟨this.1, this.2, rfl, rfl⟩
theorem print_none {t : Int} (ht : timB t = false) : printS t = [] ∧ printE t = 1 := by
  unfold printS printE
  rw [ht]
  exact ⟨rfl, rfl⟩
/-- What is parsed is a time. -/
theorem parse_time {l : List UInt8} (h : parseE l = 0) : timB (parseV l) = true := by
  unfold parseE at h
  unfold parseV
  cases hf : formedX l
  · rw [hf] at h; cases h
  · rw [hf] at h
    cases ho : okX l
    · rw [ho] at h; cases h
    · unfold okX at ho
      rw [Bool.and_eq_true] at ho
      exact ho.2
theorem parseE_cases (l : List UInt8) : parseE l = 0 ∨ parseE l = 1 ∨ parseE l = 2 := by
  unfold parseE
  split
  · split
    · exact .inl rfl
    · exact .inr (.inl rfl)
  · exact .inr (.inr rfl)
end Go.Proofs.YtojpkbonioglbaaGreatDoor
/-
  Plain mathematics: what is said beside paths, as texts, read (no model).
-/
namespace Go.Proofs.YtojpkbonioglbaaGreatDoor
set_option maxRecDepth 100000

abbrev Txt := List UInt8
/-- A small letter, capital letters in place of small ones, a letter or a digit. -/
def smlB (b : UInt8) : Bool := decide (97 ≤ b.toNat) && decide (b.toNat ≤ 122)
def upB (b : UInt8) : UInt8 := if smlB b then b - 32 else b
def upL (l : Txt) : Txt := l.map upB
def alnB (b : UInt8) : Bool := (decide (65 ≤ b.toNat) && decide (b.toNat ≤ 90)) || smlB b || digB b

/- A sign, what stands ahead of it and behind; the parts between signs. -/
def hasC (c : UInt8) (l : Txt) : Bool := l.contains c
def preC (c : UInt8) (l : Txt) : Txt := l.takeWhile (· != c)
def postC (c : UInt8) (l : Txt) : Txt := (l.dropWhile (· != c)).drop 1
def cutP (c : UInt8) (s : Txt) : Txt × Bool := if s.head? == some c then (s.drop 1, true) else (s, false)
def splitG (c : UInt8) : Txt → Txt → List Txt
  | acc, [] => [acc]
  | acc, b :: t => if b == c then acc :: splitG c [] t else splitG c (acc ++ [b]) t
def splitC (c : UInt8) (l : Txt) : List Txt := splitG c [] l
theorem cut_at {c : UInt8} {a : Txt} (b : Txt) (h : c ∉ a) : hasC c (a ++ c :: b) = true ∧ preC c (a ++ c :: b) = a ∧ postC c (a ++ c :: b) = b := by
  have h' : ∀ x ∈ a, (x != c) = true := fun x hx => bne_iff_ne.2 fun e => h (e ▸ hx)
  refine ⟨by simp [hasC], ?_, ?_⟩
  · rw [preC, List.takeWhile_append_of_pos h', List.takeWhile_cons_of_neg (by simp), List.append_nil]
  · rw [postC, List.dropWhile_append_of_pos h', List.dropWhile_cons_of_neg (by simp)]
    rfl
theorem cut_of {c : UInt8} {l : Txt} (h : hasC c l = true) : c ∉ preC c l ∧ l = preC c l ++ c :: postC c l := by
  have hm : c ∈ l := by simpa [hasC] using h
  clear h
  induction l with
  | nil => simp at hm
  | cons b t ih =>
    by_cases e : b = c
    · subst e
      refine ⟨by simp [preC], by simp [preC, postC]⟩
    · have hm' : c ∈ t := by
        rcases List.mem_cons.1 hm with e' | h'
        · exact absurd e'.symm e
        · exact h'
      obtain ⟨h1, h2⟩ := ih hm'
      have e1 : preC c (b :: t) = b :: preC c t := by simp [preC, e]
      have e2 : postC c (b :: t) = postC c t := by simp [postC, e]
      rw [e1, e2]
      refine ⟨fun h' => ?_, by rw [List.cons_append, ← h2]⟩
      rcases List.mem_cons.1 h' with e' | h''
      · exact e e'.symm
      · exact h1 h''
theorem cut_no {c : UInt8} {l : Txt} (h : hasC c l = false) : preC c l = l ∧ postC c l = [] := by
  have h' : ∀ x ∈ l, (x != c) = true := fun x hx => bne_iff_ne.2 fun e => by
    have : hasC c l = true := by simpa [hasC] using (e ▸ hx)
    rw [h] at this; cases this
  have e := List.takeWhile_append_of_pos (l₂ := []) h'
  have d := List.dropWhile_append_of_pos (l₂ := []) h'
  rw [List.append_nil] at e d
  refine ⟨?_, ?_⟩
  · rw [preC, e]; simp
  · rw [postC, d]; rfl
theorem hasC_mem {c : UInt8} {l : Txt} : hasC c l = true ↔ c ∈ l := by simp [hasC]
theorem hasC_not {c : UInt8} {l : Txt} : hasC c l = false ↔ c ∉ l := by simp [hasC]
theorem post_len {c : UInt8} {r : Txt} (h : hasC c r = true) : (postC c r).length < r.length := by
  have := (cut_of h).2
  have e := congrArg List.length this
  simp at e
  omega
theorem post_le (c : UInt8) (r : Txt) : (postC c r).length ≤ r.length := by
  cases h : hasC c r
  · rw [(cut_no h).2]; simp
  · exact Nat.le_of_lt (post_len h)
theorem pre_le (c : UInt8) (r : Txt) : (preC c r).length ≤ r.length := by
  cases h : hasC c r
  · rw [(cut_no h).1]; exact Nat.le_refl _
  · have := congrArg List.length (cut_of h).2
    simp at this
    omega
theorem splitG_cat (c : UInt8) (b : Txt) : ∀ (a acc : Txt), splitG c acc (a ++ c :: b) = splitG c acc a ++ splitG c [] b
  | [], acc => by simp [splitG]
  | x :: a, acc => by
    rw [List.cons_append, splitG, splitG]
    split
    · rw [splitG_cat c b a []]; rfl
    · exact splitG_cat c b a _
theorem splitC_cat (c : UInt8) (a b : Txt) : splitC c (a ++ c :: b) = splitC c a ++ splitC c b := splitG_cat c b a []
theorem splitG_one (c : UInt8) : ∀ (a acc : Txt), c ∉ a → splitG c acc a = [acc ++ a]
  | [], acc, _ => by simp [splitG]
  | x :: a, acc, h => by
    have h1 : ¬ (x == c) = true := fun e => h (by rw [beq_iff_eq.1 e]; simp)
    rw [splitG, if_neg h1, splitG_one c a _ (fun h' => h (List.mem_cons_of_mem _ h'))]
    simp
theorem splitC_one {c : UInt8} {a : Txt} (h : c ∉ a) : splitC c a = [a] := splitG_one c a [] h
theorem splitC_yes {c : UInt8} {l : Txt} (h : hasC c l = true) : splitC c l = preC c l :: splitC c (postC c l) := by
  obtain ⟨h1, h2⟩ := cut_of h
  rw [splitC, congrArg (splitG c []) h2, splitG_cat, splitG_one _ _ _ h1]
  rfl
theorem splitC_no {c : UInt8} {l : Txt} (h : hasC c l = false) : splitC c l = [l] := splitC_one (hasC_not.1 h)
theorem splitG_ne (c : UInt8) (acc l : Txt) : splitG c acc l ≠ [] := by
  induction l generalizing acc with
  | nil => simp [splitG]
  | cons b t ih =>
    rw [splitG]
    split
    · simp
    · exact ih _
theorem splitC_ne (c : UInt8) (l : Txt) : splitC c l ≠ [] := splitG_ne c [] l
theorem splitG_free (c : UInt8) : ∀ (l acc : Txt), c ∉ acc → ∀ x ∈ splitG c acc l, c ∉ x
  | [], acc, h, x, hx => by simp [splitG] at hx; rw [hx]; exact h
  | b :: t, acc, h, x, hx => by
    rw [splitG] at hx
    split at hx
    · rcases List.mem_cons.1 hx with rfl | hx
      · exact h
      · exact splitG_free c t [] (by simp) x hx
    · rename_i hb
      refine splitG_free c t (acc ++ [b]) (fun h' => ?_) x hx
      rcases List.mem_append.1 h' with h' | h'
      · exact h h'
      · exact hb (by rw [List.mem_singleton.1 h']; simp)
theorem splitC_free {c : UInt8} {l x : Txt} (h : x ∈ splitC c l) : c ∉ x := splitG_free c l [] (by simp) x h
theorem splitC_le (c : UInt8) (s : Txt) : ∀ x ∈ splitC c s, x.length ≤ s.length := by
  have : ∀ (l acc : Txt), ∀ x ∈ splitG c acc l, x.length ≤ acc.length + l.length := by
    intro l
    induction l with
    | nil => intro acc x hx; simp [splitG] at hx; subst hx; simp
    | cons b t ih =>
      intro acc x hx
      rw [splitG] at hx
      split at hx
      · rcases List.mem_cons.1 hx with rfl | hx
        · simp
        · have := ih [] x hx; simp at this; simp; omega
      · have := ih (acc ++ [b]) x hx; simp at this; simp; omega
  intro x hx
  have := this s [] x hx
  simpa using this
theorem splitC_len (c : UInt8) (l : Txt) : (splitC c l).length ≤ l.length + 1 := by
  have : ∀ (l acc : Txt), (splitG c acc l).length ≤ l.length + 1 := by
    intro l
    induction l with
    | nil => intro acc; simp [splitG]
    | cons b t ih =>
      intro acc
      rw [splitG]
      split
      · have := ih []; simp; omega
      · have := ih (acc ++ [b]); simp; omega
  exact this l []
/-- Texts with a sign between each two. -/
def joinC (c : UInt8) : List Txt → Txt
  | [] => []
  | [a] => a
  | a :: b :: r => a ++ c :: joinC c (b :: r)
theorem splitC_join (c : UInt8) : ∀ (l : List Txt), l ≠ [] → (∀ x ∈ l, c ∉ x) → splitC c (joinC c l) = l
  | [], h, _ => absurd rfl h
  | [a], _, h => splitC_one (h a (by simp))
  | a :: b :: r, _, h => by
    rw [joinC, splitC_cat, splitC_one (h a (by simp)), splitC_join c (b :: r) (by simp) (fun x hx => h x (List.mem_cons_of_mem _ hx))]
    rfl
theorem joinC_split (c : UInt8) (l : Txt) : ∀ (n : Nat), l.length ≤ n → joinC c (splitC c l) = l := by
  intro n
  induction n generalizing l with
  | zero =>
    intro h
    have : l = [] := List.eq_nil_of_length_eq_zero (by omega)
    subst this
    rfl
  | succ n ih =>
    intro h
    cases hh : hasC c l
    · rw [splitC_no hh]; rfl
    · have := post_len hh
      rw [splitC_yes hh]
      obtain ⟨y, r, e⟩ : ∃ y r, splitC c (postC c l) = y :: r := by
        cases hs : splitC c (postC c l) with
        | nil => exact absurd hs (splitC_ne _ _)
        | cons y r => exact ⟨y, r, rfl⟩
      rw [e, joinC, ← e, ih _ (by omega)]
      exact (cut_of hh).2.symm
theorem joinC_intercalate (c : UInt8) : ∀ l : List Txt, Lib.join l [c] = joinC c l
  | [] => rfl
  | [a] => by simp [Lib.join, joinC, List.intercalate]
  | a :: b :: r => by
    rw [joinC, ← joinC_intercalate c (b :: r)]
    simp [Lib.join, List.intercalate]

/- Words, one behind the other: generally. -/
section
variable {σ : Type} (isK : Txt → Bool) (err : Txt → Txt → Int) (set : Txt → Txt → σ → σ)
def keyW (w : Txt) : Txt := upL (preC 61 w)
def valW (w : Txt) : Txt := postC 61 w
def wordE (seen : List Txt) (w : Txt) : Int := if w = [] then 2 else if isK (keyW w) = false then 10 else if keyW w ∈ seen then 11 else err (keyW w) (valW w)
def errs : List Txt → List Txt → Int
  | _, [] => 0
  | seen, w :: ws => if wordE isK err seen w = 0 then errs (keyW w :: seen) ws else wordE isK err seen w
def fin (ws : List Txt) (st : σ) : σ := ws.foldl (fun st w => set (keyW w) (valW w) st) st
def GoodW (w : Txt) : Prop := w ≠ [] ∧ isK (keyW w) = true ∧ err (keyW w) (valW w) = 0
theorem wordE_zero {seen : List Txt} {w : Txt} : wordE isK err seen w = 0 ↔ GoodW isK err w ∧ keyW w ∉ seen := by
  unfold wordE GoodW
  by_cases h1 : w = []
  · simp [h1]
  · rw [if_neg h1]
    cases h2 : isK (keyW w)
    · simp
    · simp only [Bool.true_eq_false, if_false]
      by_cases h3 : keyW w ∈ seen
      · simp [h3]
      · simp [h1, h3]
theorem errs_zero : ∀ {seen ws : List Txt}, errs isK err seen ws = 0 ↔ (∀ w ∈ ws, GoodW isK err w ∧ keyW w ∉ seen) ∧ (ws.map keyW).Nodup
  | seen, [] => by simp [errs]
  | seen, w :: ws => by
    rw [errs]
    by_cases h : wordE isK err seen w = 0
    · have h' := (wordE_zero isK err).1 h
      rw [if_pos h, errs_zero (seen := keyW w :: seen)]
      simp only [List.mem_cons, List.map_cons, List.nodup_cons, List.mem_map, not_or, forall_eq_or_imp, not_exists, not_and]
      constructor
      · rintro ⟨h1, h2⟩
        exact ⟨⟨h', fun x hx => ⟨(h1 x hx).1, (h1 x hx).2.2⟩⟩, fun x hx => (h1 x hx).2.1, h2⟩
      · rintro ⟨⟨_, h1⟩, h2, h3⟩
        exact ⟨fun x hx => ⟨(h1 x hx).1, h2 x hx, (h1 x hx).2⟩, h3⟩
    · rw [if_neg h]
      constructor
      · intro h'; exact absurd h' h
      · rintro ⟨h1, _⟩
        exact absurd ((wordE_zero isK err).2 (h1 w (by simp))) h
theorem errs_append : ∀ (ws seen vs : List Txt), errs isK err seen (ws ++ vs) = if errs isK err seen ws = 0 then errs isK err ((ws.map keyW).reverse ++ seen) vs else errs isK err seen ws
  | [], seen, vs => by simp [errs]
  | w :: ws, seen, vs => by
    rw [List.cons_append, errs, errs]
    by_cases h : wordE isK err seen w = 0
    · rw [if_pos h, if_pos h, errs_append ws]
      simp
    · rw [if_neg h, if_neg h, if_neg h]
theorem errs_rev {ws : List Txt} (h : errs isK err [] ws = 0) : errs isK err [] ws.reverse = 0 := by
  rw [errs_zero] at h ⊢
  refine ⟨fun w hw => h.1 w (List.mem_reverse.1 hw), ?_⟩
  rw [List.map_reverse]
  exact List.pairwise_reverse.2 (h.2.imp Ne.symm)
theorem errs_twice {ws : List Txt} {w : Txt} (h : errs isK err [] ws = 0) (hw : w ∈ ws) : errs isK err [] (ws ++ [w]) = 11 := by
  rw [errs_append, if_pos h, errs]
  have hg := ((errs_zero isK err).1 h).1 w hw
  have : wordE isK err ((ws.map keyW).reverse ++ []) w = 11 := by
    unfold wordE
    rw [if_neg hg.1.1, hg.1.2.1, if_neg (by decide), if_pos]
    simp
    exact ⟨w, hw, rfl⟩
  rw [this, if_neg (by decide)]
theorem fin_append (ws vs : List Txt) (st : σ) : fin set (ws ++ vs) st = fin set vs (fin set ws st) := by simp [fin]
theorem fin_set (hc : ∀ k v k' v' st, k ≠ k' → set k v (set k' v' st) = set k' v' (set k v st)) : ∀ (ws : List Txt) (k v : Txt) (st : σ), k ∉ ws.map keyW → fin set ws (set k v st) = set k v (fin set ws st)
  | [], _, _, _, _ => rfl
  | w :: ws, k, v, st, h => by
    have h1 : k ≠ keyW w := fun e => h (by rw [e]; simp)
    have h2 : k ∉ ws.map keyW := fun h' => h (by rw [List.map_cons]; exact List.mem_cons_of_mem _ h')
    show fin set ws (set (keyW w) (valW w) (set k v st)) = _
    rw [← hc k v _ _ st h1, fin_set hc ws k v _ h2]
    rfl
theorem fin_rev (hc : ∀ k v k' v' st, k ≠ k' → set k v (set k' v' st) = set k' v' (set k v st)) : ∀ (ws : List Txt) (st : σ), (ws.map keyW).Nodup → fin set ws.reverse st = fin set ws st
  | [], _, _ => rfl
  | w :: ws, st, h => by
    rw [List.map_cons, List.nodup_cons] at h
    rw [List.reverse_cons, fin_append, fin_rev hc ws st h.2]
    show set (keyW w) (valW w) (fin set ws st) = fin set ws (set (keyW w) (valW w) st)
    rw [fin_set set hc ws _ _ _ h.1]
end
end Go.Proofs.YtojpkbonioglbaaGreatDoor
/-
  Plain mathematics: a message's words and a recipient's, read and printed (no model).
-/
namespace Go.Proofs.YtojpkbonioglbaaGreatDoor
set_option maxRecDepth 100000

/- Numbers. -/
def whB (l : Txt) : Bool := l != [] && decide (l.length ≤ 9) && l.all digB
def whV (l : Txt) : Int := if whB l then (valX l : Int) else 0
def whE (l : Txt) : Int := if whB l then 0 else 2
def sgV (l : Txt) : Int := if (cutP 45 l).2 then -whV (cutP 45 l).1 else whV (cutP 45 l).1
def sgE (l : Txt) : Int := whE (cutP 45 l).1
def numE (n e a b : Int) : Int := if e = 0 then (if decide (a ≤ n) && decide (n ≤ b) then 0 else 1) else e
theorem whE_0 {l : Txt} (h : whE l = 0) : whB l = true := by unfold whE at h; cases hb : whB l <;> simp_all
theorem whV_nn (l : Txt) : 0 ≤ whV l := by unfold whV; split <;> omega
theorem numE_0 {n e a b : Int} (h : numE n e a b = 0) : e = 0 ∧ a ≤ n ∧ n ≤ b := by
  unfold numE at h
  by_cases he : e = 0
  · rw [if_pos he] at h
    by_cases hn : a ≤ n ∧ n ≤ b
    · exact ⟨he, hn⟩
    · rw [if_neg (by simpa using hn)] at h; cases h
  · rw [if_neg he] at h; exact absurd h he
theorem numE_in {n a b : Int} (h : a ≤ n ∧ n ≤ b) : numE n 0 a b = 0 := by
  unfold numE
  rw [if_pos rfl, if_pos (by simpa using h)]
theorem numE_out {n a b : Int} (h : ¬ (a ≤ n ∧ n ≤ b)) : numE n 0 a b = 1 := by
  unfold numE
  rw [if_pos rfl, if_neg (by simpa using h)]
theorem dd_all : ∀ (k u : Nat), u < 10 ^ (k + 1) → Lib.decDigits u ≠ [] ∧ (Lib.decDigits u).length ≤ k + 1 ∧ (Lib.decDigits u).all digB = true ∧ valX (Lib.decDigits u) = u
  | 0, u, h => by
    have h' : u < 10 := by simpa using h
    rw [dec_1 h']
    refine ⟨by simp, by simp, by simp [dg_dig h'], ?_⟩
    simp [valX, dg_nat h']
  | k + 1, u, h => by
    by_cases h' : u < 10
    · rw [dec_1 h']
      refine ⟨by simp, by simp, by simp [dg_dig h'], ?_⟩
      simp [valX, dg_nat h']
    · have hm : u % 10 < 10 := Nat.mod_lt _ (by decide)
      have hk : u / 10 < 10 ^ (k + 1) := by
        rw [Nat.div_lt_iff_lt_mul (by decide)]
        rw [Nat.pow_succ] at h
        exact h
      obtain ⟨h1, h2, h3, h4⟩ := dd_all k (u / 10) hk
      rw [dec_s h']
      refine ⟨by simp, by simp; omega, ?_, ?_⟩
      · rw [List.all_append, h3]; simp [dg_dig hm]
      · rw [valX_snoc, h4, dg_nat hm]
        omega
theorem dd_head {u : Nat} (h : u < 1000000000) : ∃ b t, Lib.decDigits u = b :: t ∧ digB b = true := by
  obtain ⟨h1, _, h3, _⟩ := dd_all 8 u (by simpa using h)
  cases hd : Lib.decDigits u with
  | nil => exact absurd hd h1
  | cons b t =>
    rw [hd] at h3
    exact ⟨b, t, rfl, by simpa using (List.all_eq_true.1 h3) b (by simp)⟩
theorem wh_dd {u : Nat} (h : u < 1000000000) : whB (Lib.decDigits u) = true ∧ whV (Lib.decDigits u) = u ∧ whE (Lib.decDigits u) = 0 := by
  obtain ⟨h1, h2, h3, h4⟩ := dd_all 8 u (by simpa using h)
  have hb : whB (Lib.decDigits u) = true := by unfold whB; rw [h3, Bool.and_true, decide_eq_true h2, Bool.and_true]; simpa using h1
  exact ⟨hb, by rw [whV, if_pos hb, h4], by rw [whE, if_pos hb]⟩
theorem cutP_no {l : Txt} (h : ∀ b t, l = b :: t → b ≠ 45) : cutP 45 l = (l, false) := by
  unfold cutP
  cases l with
  | nil => rfl
  | cons b t => rw [if_neg]; simp [h b t rfl]
theorem sg_itoa {n : Int} (h1 : -999999999 ≤ n) (h2 : n ≤ 999999999) : sgV (Lib.itoa n) = n ∧ sgE (Lib.itoa n) = 0 := by
  by_cases h : n < 0
  · have e : Lib.itoa n = 45 :: Lib.decDigits n.natAbs := by rw [Lib.itoa, if_pos h]
    have hc : cutP 45 (Lib.itoa n) = (Lib.decDigits n.natAbs, true) := by rw [e]; rfl
    obtain ⟨w1, w2, w3⟩ := wh_dd (u := n.natAbs) (by omega)
    unfold sgV sgE
    rw [hc]
    refine ⟨?_, w3⟩
    show (if true = true then -whV (Lib.decDigits n.natAbs) else _) = n
    rw [if_pos rfl, w2]
    omega
  · have e : Lib.itoa n = Lib.decDigits n.toNat := by rw [Lib.itoa, if_neg h]
    obtain ⟨w1, w2, w3⟩ := wh_dd (u := n.toNat) (by omega)
    obtain ⟨b, t, hbt, hd⟩ := dd_head (u := n.toNat) (by omega)
    have hc : cutP 45 (Lib.itoa n) = (Lib.decDigits n.toNat, false) := by
      rw [e]
      refine cutP_no fun b' t' e' => ?_
      rw [hbt] at e'
      injection e' with e1 _
      subst e1
      intro h45
      subst h45
      revert hd
      decide
    unfold sgV sgE
    rw [hc]
    refine ⟨?_, w3⟩
    show (if false = true then _ else whV (Lib.decDigits n.toNat)) = n
    rw [if_neg (by decide), w2]
    omega
theorem wh_itoa {n : Int} (h1 : 0 ≤ n) (h2 : n ≤ 999999999) : whV (Lib.itoa n) = n ∧ whE (Lib.itoa n) = 0 := by
  have e : Lib.itoa n = Lib.decDigits n.toNat := by rw [Lib.itoa, if_neg (by omega)]
  obtain ⟨w1, w2, w3⟩ := wh_dd (u := n.toNat) (by omega)
  rw [e]
  exact ⟨by rw [w2]; omega, w3⟩
theorem wh_minus (l : Txt) : whE (45 :: l) = 2 := by
  have : whB (45 :: l) = false := by
    unfold whB
    have : (45 :: l).all digB = false := by rw [List.all_cons, show digB 45 = false by decide, Bool.false_and]
    rw [this, Bool.and_false]
  rw [whE, this]
  rfl
/-- Signs of a number's text. -/
theorem itoa_signs {n : Int} (h1 : -999999999 ≤ n) (h2 : n ≤ 999999999) : ∀ b ∈ Lib.itoa n, b = 45 ∨ digB b = true := by
  intro b hb
  by_cases h : n < 0
  · rw [Lib.itoa, if_pos h] at hb
    rcases List.mem_cons.1 hb with rfl | hb
    · exact .inl rfl
    · exact .inr (List.all_eq_true.1 (dd_all 8 n.natAbs (by omega)).2.2.1 b hb)
  · rw [Lib.itoa, if_neg h] at hb
    exact .inr (List.all_eq_true.1 (dd_all 8 n.toNat (by omega)).2.2.1 b hb)
theorem itoa_ne {n : Int} (h1 : -999999999 ≤ n) (h2 : n ≤ 999999999) : Lib.itoa n ≠ [] := by
  by_cases h : n < 0
  · rw [Lib.itoa, if_pos h]; simp
  · rw [Lib.itoa, if_neg h]; exact (dd_all 8 n.toNat (by omega)).1
theorem itoa_free {n : Int} (h1 : -999999999 ≤ n) (h2 : n ≤ 999999999) (c : UInt8) (hc : (c == 45 || digB c) = false) : c ∉ Lib.itoa n := fun h => by
  rcases itoa_signs h1 h2 c h with rfl | h'
  · revert hc; decide
  · rw [h', Bool.or_true] at hc; cases hc

/- A message's words. -/
def kSIZE : Txt := [83, 73, 90, 69]
def kBODY : Txt := [66, 79, 68, 89]
def kRET : Txt := [82, 69, 84]
def kENV : Txt := [69, 78, 86, 73, 68]
def kHF : Txt := [72, 79, 76, 68, 70, 79, 82]
def kHU : Txt := [72, 79, 76, 68, 85, 78, 84, 73, 76]
def kBY : Txt := [66, 89]
def kPR : Txt := [77, 84, 45, 80, 82, 73, 79, 82, 73, 84, 89]
def kNO : Txt := [78, 79, 84, 73, 70, 89]
def kOR : Txt := [79, 82, 67, 80, 84]
def t7B : Txt := [55, 66, 73, 84]
def t8B : Txt := [56, 66, 73, 84, 77, 73, 77, 69]
def tFU : Txt := [70, 85, 76, 76]
def tHD : Txt := [72, 68, 82, 83]
def isBody (s : Txt) : Bool := s == t7B || s == t8B
def isRet (s : Txt) : Bool := s == tFU || s == tHD
def isMode (s : Txt) : Bool := s == [82] || s == [78] || s == [82, 84] || s == [78, 84]
def leastV (s : Txt) : Int := if s.head? == some 82 then 1 else -999999999
structure ML where
  hs : Bool
  hf : Bool
  hu : Bool
  hb : Bool
  hp : Bool
  sz : Int
  fo : Int
  un : Int
  by_ : Int
  pr : Int
  body : Txt
  ret : Txt
  env : Txt
  mode : Txt
def zeroM : ML := ⟨false, false, false, false, false, 0, 0, 0, 0, 0, [], [], [], []⟩
def isKM (k : Txt) : Bool := k == kSIZE || k == kBODY || k == kRET || k == kENV || k == kHF || k == kHU || k == kBY || k == kPR
def decdE (v : Txt) (most : Nat) : Int := if X.decE v ≠ 0 ∨ X.decS v = [] then 2 else if most < (X.decS v).length then 3 else 0
def byE (v : Txt) : Int := if isMode (upL (postC 59 v)) then numE (sgV (preC 59 v)) (sgE (preC 59 v)) (leastV (upL (postC 59 v))) 999999999 else 2
def errM (k v : Txt) : Int :=
  if k = kSIZE then numE (whV v) (whE v) 0 999999999
  else if k = kBODY then (if isBody (upL v) then 0 else 2)
  else if k = kRET then (if isRet (upL v) then 0 else 2)
  else if k = kENV then decdE v 100
  else if k = kHF then numE (whV v) (whE v) 1 1048576
  else if k = kHU then parseE (upL v)
  else if k = kBY then byE v
  else if k = kPR then numE (sgV v) (sgE v) (-9) 9
  else 0
def setM (k v : Txt) (m : ML) : ML :=
  if k = kSIZE then { m with sz := whV v, hs := true }
  else if k = kBODY then { m with body := upL v }
  else if k = kRET then { m with ret := upL v }
  else if k = kENV then { m with env := X.decS v }
  else if k = kHF then { m with fo := whV v, hf := true }
  else if k = kHU then { m with un := parseV (upL v), hu := true }
  else if k = kBY then { m with mode := upL (postC 59 v), by_ := sgV (preC 59 v), hb := true }
  else if k = kPR then { m with pr := sgV v, hp := true }
  else m
def finM (s : Txt) : ML := fin setM (splitC 32 s) zeroM
def rdM (s : Txt) : Int := if s = [] then 0 else errs isKM errM [] (splitC 32 s)
def peM (s : Txt) : Int := if rdM s = 0 then (if s ≠ [] ∧ (finM s).hf = true ∧ (finM s).hu = true then 9 else 0) else rdM s
def pvM (s : Txt) : ML := if peM s = 0 ∧ s ≠ [] then finM s else zeroM
/-- Field by field. -/
def setF (k v : Txt) (m : ML) : ML :=
  { hs := if k = kSIZE then true else m.hs, hf := if k = kHF then true else m.hf, hu := if k = kHU then true else m.hu, hb := if k = kBY then true else m.hb, hp := if k = kPR then true else m.hp,
    sz := if k = kSIZE then whV v else m.sz, fo := if k = kHF then whV v else m.fo, un := if k = kHU then parseV (upL v) else m.un, by_ := if k = kBY then sgV (preC 59 v) else m.by_, pr := if k = kPR then sgV v else m.pr,
    body := if k = kBODY then upL v else m.body, ret := if k = kRET then upL v else m.ret, env := if k = kENV then X.decS v else m.env, mode := if k = kBY then upL (postC 59 v) else m.mode }
theorem setM_F (k v : Txt) (m : ML) : setM k v m = setF k v m := by
  by_cases a1 : k = kSIZE
  · subst a1; rfl
  by_cases a2 : k = kBODY
  · subst a2; rfl
  by_cases a3 : k = kRET
  · subst a3; rfl
  by_cases a4 : k = kENV
  · subst a4; rfl
  by_cases a5 : k = kHF
  · subst a5; rfl
  by_cases a6 : k = kHU
  · subst a6; rfl
  by_cases a7 : k = kBY
  · subst a7; rfl
  by_cases a8 : k = kPR
  · subst a8; rfl
  unfold setM setF
  rw [if_neg a1, if_neg a2, if_neg a3, if_neg a4, if_neg a5, if_neg a6, if_neg a7, if_neg a8, if_neg a1, if_neg a5, if_neg a6, if_neg a7, if_neg a8, if_neg a1, if_neg a5, if_neg a6, if_neg a7, if_neg a8, if_neg a2, if_neg a3, if_neg a4, if_neg a7]
theorem ite_comm2 {α : Type} {k k' K : Txt} (h : k ≠ k') (a b c : α) : (if k = K then a else if k' = K then b else c) = (if k' = K then b else if k = K then a else c) := by
  by_cases h1 : k = K
  · have h2 : ¬ k' = K := fun e => h (h1.trans e.symm)
    rw [if_pos h1, if_neg h2, if_pos h1]
  · rw [if_neg h1, if_neg h1]
theorem setM_comm (k v k' v' : Txt) (st : ML) (h : k ≠ k') : setM k v (setM k' v' st) = setM k' v' (setM k v st) := by
  rw [setM_F, setM_F, setM_F, setM_F]
  unfold setF
  rw [ML.mk.injEq]
  exact ⟨ite_comm2 h _ _ _, ite_comm2 h _ _ _, ite_comm2 h _ _ _, ite_comm2 h _ _ _, ite_comm2 h _ _ _, ite_comm2 h _ _ _, ite_comm2 h _ _ _, ite_comm2 h _ _ _, ite_comm2 h _ _ _, ite_comm2 h _ _ _, ite_comm2 h _ _ _, ite_comm2 h _ _ _, ite_comm2 h _ _ _, ite_comm2 h _ _ _⟩

/- A recipient's words. -/
def tSU : Txt := [83, 85, 67, 67, 69, 83, 83]
def tFA : Txt := [70, 65, 73, 76, 85, 82, 69]
def tDE : Txt := [68, 69, 76, 65, 89]
def tNE : Txt := [78, 69, 86, 69, 82]
structure RL where
  no : Txt
  kind : Txt
  oc : Txt
def zeroR : RL := ⟨[], [], []⟩
def initV (n : Txt) : Txt := if n = tSU then [83] else if n = tFA then [70] else if n = tDE then [68] else []
def ordV (l : Txt) : Txt := (if l.contains 83 then [83] else []) ++ (if l.contains 70 then [70] else []) ++ (if l.contains 68 then [68] else [])
def letG : List Txt → Txt → Option Txt
  | [], all => some all
  | n :: r, all => if initV n = [] ∨ (∃ b ∈ initV n, b ∈ all) then none else letG r (all ++ initV n)
def notL (v : Txt) : Option Txt := if v = tNE then some [78] else (letG (splitC 44 v) []).map ordV
def notE (v : Txt) : Int := if (notL v).isSome then 0 else 2
def notV (v : Txt) : Txt := (notL v).getD []
def isKind (s : Txt) : Bool := s != [] && decide (s.length ≤ 32) && s.all alnB
def isKR (k : Txt) : Bool := k == kNO || k == kOR
def errR (k v : Txt) : Int := if k = kNO then notE (upL v) else if k = kOR then (if isKind (upL (preC 59 v)) then decdE (postC 59 v) 256 else 2) else 0
def setR (k v : Txt) (r : RL) : RL := if k = kNO then { r with no := notV (upL v) } else if k = kOR then { r with kind := upL (preC 59 v), oc := X.decS (postC 59 v) } else r
def finR (s : Txt) : RL := fin setR (splitC 32 s) zeroR
def peR (s : Txt) : Int := if s = [] then 0 else errs isKR errR [] (splitC 32 s)
def pvR (s : Txt) : RL := if peR s = 0 ∧ s ≠ [] then finR s else zeroR
def setG (k v : Txt) (r : RL) : RL := { no := if k = kNO then notV (upL v) else r.no, kind := if k = kOR then upL (preC 59 v) else r.kind, oc := if k = kOR then X.decS (postC 59 v) else r.oc }
theorem setR_G (k v : Txt) (r : RL) : setR k v r = setG k v r := by
  by_cases a1 : k = kNO
  · subst a1; rfl
  by_cases a2 : k = kOR
  · subst a2; rfl
  unfold setR setG
  rw [if_neg a1, if_neg a2, if_neg a1, if_neg a2, if_neg a2]
theorem setR_comm (k v k' v' : Txt) (st : RL) (h : k ≠ k') : setR k v (setR k' v' st) = setR k' v' (setR k v st) := by
  rw [setR_G, setR_G, setR_G, setR_G]
  unfold setG
  rw [RL.mk.injEq]
  exact ⟨ite_comm2 h _ _ _, ite_comm2 h _ _ _, ite_comm2 h _ _ _⟩

/- What may be told. -/
def namedB (m : ML) : Bool := (m.body == [] || isBody m.body) && (m.ret == [] || isRet m.ret) && ((m.hb && isMode m.mode) || (!m.hb && m.mode == []))
def unB (m : ML) : Bool := (m.hs || m.sz == 0) && (m.hf || m.fo == 0) && (m.hu || m.un == 0) && (m.hb || m.by_ == 0) && (m.hp || m.pr == 0)
def inB (said : Bool) (n a b : Int) : Bool := !said || (decide (a ≤ n) && decide (n ≤ b))
def rangB (m : ML) : Bool := inB m.hs m.sz 0 999999999 && inB m.hf m.fo 1 1048576 && (!m.hu || printE m.un == 0) && inB m.hb m.by_ (leastV m.mode) 999999999 && inB m.hp m.pr (-9) 9
def rightM (m : ML) : Int := if (namedB m && unB m) = false then 2 else if rangB m = false then 1 else if 100 < m.env.length then 3 else if (m.hf && m.hu) = true then 9 else 0
def kindB (r : RL) : Bool := ((r.kind == []) == (r.oc == [])) && (r.kind == [] || (isKind r.kind && r.kind == upL r.kind))
def rightR (r : RL) : Int := if (r.no == [78] || r.no == ordV r.no) = false then 2 else if kindB r = false then 2 else if 256 < r.oc.length then 3 else 0
def namesL (l : Txt) : List Txt := (if l.contains 83 then [tSU] else []) ++ (if l.contains 70 then [tFA] else []) ++ (if l.contains 68 then [tDE] else [])
def namesV (l : Txt) : Txt := if l = [78] then tNE else joinC 44 (namesL l)
/-- Words: is it said, its key, its value. -/
abbrev Wd := Bool × Txt × Txt
noncomputable def wdM (m : ML) : List Wd := [(m.hs, kSIZE, Lib.itoa m.sz), (m.body != [], kBODY, m.body), (m.ret != [], kRET, m.ret), (m.env != [], kENV, X.encX m.env), (m.hf, kHF, Lib.itoa m.fo), (m.hu, kHU, printS m.un),
  (m.hb, kBY, Lib.itoa m.by_ ++ [59] ++ m.mode), (m.hp, kPR, Lib.itoa m.pr)]
def wdR (r : RL) : List Wd := [(r.no != [], kNO, namesV r.no), (r.kind != [], kOR, r.kind ++ [59] ++ X.encX r.oc)]
def wordsL : List Wd → List Txt
  | [] => []
  | (b, k, v) :: r => if b then (k ++ [61] ++ v) :: wordsL r else wordsL r
noncomputable def printM (m : ML) : Txt := if rightM m = 0 then joinC 32 (wordsL (wdM m)) else []
def printR (r : RL) : Txt := if rightR r = 0 then joinC 32 (wordsL (wdR r)) else []
end Go.Proofs.YtojpkbonioglbaaGreatDoor
/-
  Plain mathematics: a message's words and a recipient's: what is read may be printed, what was printed is read (no model).
-/
namespace Go.Proofs.YtojpkbonioglbaaGreatDoor
set_option maxRecDepth 100000

/- Words that are said. -/
def OkW (isK : Txt → Bool) (err : Txt → Txt → Int) (t : Wd) : Prop :=
  t.1 = true → 61 ∉ t.2.1 ∧ 32 ∉ t.2.1 ∧ upL t.2.1 = t.2.1 ∧ isK t.2.1 = true ∧ err t.2.1 t.2.2 = 0 ∧ 32 ∉ t.2.2
theorem word_kv {k : Txt} (v : Txt) (h61 : 61 ∉ k) (hu : upL k = k) : keyW (k ++ [61] ++ v) = k ∧ valW (k ++ [61] ++ v) = v := by
  obtain ⟨_, h2, h3⟩ := cut_at v h61
  have e : k ++ [61] ++ v = k ++ 61 :: v := by simp
  rw [e]
  exact ⟨by rw [keyW, h2, hu], h3⟩
theorem wordsL_mem : ∀ {T : List Wd} {w : Txt}, w ∈ wordsL T → ∃ t ∈ T, t.1 = true ∧ w = t.2.1 ++ [61] ++ t.2.2
  | (b, k, v) :: r, w, h => by
    rw [wordsL] at h
    split at h
    · rename_i hb
      rcases List.mem_cons.1 h with rfl | h
      · exact ⟨(b, k, v), by simp, hb, rfl⟩
      · obtain ⟨t, h1, h2⟩ := wordsL_mem h
        exact ⟨t, List.mem_cons_of_mem _ h1, h2⟩
    · obtain ⟨t, h1, h2⟩ := wordsL_mem h
      exact ⟨t, List.mem_cons_of_mem _ h1, h2⟩
theorem wordsL_keys (isK : Txt → Bool) (err : Txt → Txt → Int) : ∀ {T : List Wd}, (∀ t ∈ T, OkW isK err t) → List.Sublist ((wordsL T).map keyW) (T.map (·.2.1))
  | [], _ => List.Sublist.slnil
  | (b, k, v) :: r, h => by
    have ih := wordsL_keys isK err (T := r) fun t ht => h t (List.mem_cons_of_mem _ ht)
    rw [wordsL]
    split
    · rename_i hb
      have hk := h (b, k, v) (by simp) hb
      rw [List.map_cons, List.map_cons, (word_kv v hk.1 hk.2.2.1).1]
      exact ih.cons_cons _
    · rw [List.map_cons]
      exact ih.cons _
theorem wordsL_errs {isK : Txt → Bool} {err : Txt → Txt → Int} {T : List Wd} (h : ∀ t ∈ T, OkW isK err t) (hn : (T.map (·.2.1)).Nodup) : errs isK err [] (wordsL T) = 0 := by
  rw [errs_zero]
  refine ⟨fun w hw => ?_, (wordsL_keys isK err h).nodup hn⟩
  obtain ⟨t, ht, hb, rfl⟩ := wordsL_mem hw
  obtain ⟨h1, h2, h3, h4, h5, h6⟩ := h t ht hb
  obtain ⟨e1, e2⟩ := word_kv t.2.2 h1 h3
  refine ⟨⟨by simp, by rw [e1]; exact h4, by rw [e1, e2]; exact h5⟩, by simp⟩
theorem wordsL_free {isK : Txt → Bool} {err : Txt → Txt → Int} {T : List Wd} (h : ∀ t ∈ T, OkW isK err t) : ∀ w ∈ wordsL T, 32 ∉ w := by
  intro w hw
  obtain ⟨t, ht, hb, rfl⟩ := wordsL_mem hw
  obtain ⟨h1, h2, h3, h4, h5, h6⟩ := h t ht hb
  simp only [List.mem_append, List.mem_singleton, not_or]
  exact ⟨⟨h2, by decide⟩, h6⟩
theorem wordsL_fin {σ : Type} (isK : Txt → Bool) (err : Txt → Txt → Int) (set : Txt → Txt → σ → σ) : ∀ {T : List Wd} (st : σ), (∀ t ∈ T, OkW isK err t) → fin set (wordsL T) st = T.foldl (fun st t => if t.1 then set t.2.1 t.2.2 st else st) st
  | [], _, _ => rfl
  | (b, k, v) :: r, st, h => by
    have ih := fun st => wordsL_fin isK err set (T := r) st fun t ht => h t (List.mem_cons_of_mem _ ht)
    rw [wordsL, List.foldl_cons]
    cases b
    · exact ih st
    · have hk := h (true, k, v) (by simp) rfl
      obtain ⟨e1, e2⟩ := word_kv v hk.1 hk.2.2.1
      rw [if_pos rfl]
      show fin set (wordsL r) (set (keyW (k ++ [61] ++ v)) (valW (k ++ [61] ++ v)) st) = _
      rw [e1, e2]
      exact ih _
theorem joinC_ne {c : UInt8} {l : List Txt} (h : l ≠ []) (hn : ∀ x ∈ l, x ≠ []) : joinC c l ≠ [] := by
  match l with
  | [] => exact absurd rfl h
  | [a] => exact hn a (by simp)
  | a :: b :: r => rw [joinC]; simp
theorem wordsL_ne {T : List Wd} : ∀ w ∈ wordsL T, w ≠ [] := by
  intro w hw
  obtain ⟨t, _, _, rfl⟩ := wordsL_mem hw
  simp
theorem wordsL_all {T : List Wd} (h : wordsL T = []) : ∀ t ∈ T, t.1 = false := by
  induction T with
  | nil => intro t ht; simp at ht
  | cons t r ih =>
    obtain ⟨b, k, v⟩ := t
    rw [wordsL] at h
    cases b
    · intro t ht
      rcases List.mem_cons.1 ht with rfl | ht
      · rfl
      · exact ih h t ht
    · simp at h
theorem fold_none {σ : Type} (set : Txt → Txt → σ → σ) : ∀ {T : List Wd} (st : σ), (∀ t ∈ T, t.1 = false) → T.foldl (fun st t => if t.1 then set t.2.1 t.2.2 st else st) st = st
  | [], _, _ => rfl
  | t :: r, st, h => by
    rw [List.foldl_cons, h t (by simp)]
    exact fold_none set st fun t ht => h t (List.mem_cons_of_mem _ ht)

/-- Keys are what they are to be. -/
def KeyOk (isK : Txt → Bool) (k : Txt) : Prop := 61 ∉ k ∧ 32 ∉ k ∧ upL k = k ∧ isK k = true
theorem okW_of {isK : Txt → Bool} {err : Txt → Txt → Int} {b : Bool} {k v : Txt} (hk : KeyOk isK k) (h : b = true → err k v = 0 ∧ 32 ∉ v) : OkW isK err (b, k, v) := fun hb => ⟨hk.1, hk.2.1, hk.2.2.1, hk.2.2.2, (h hb).1, (h hb).2⟩
instance (isK : Txt → Bool) (k : Txt) : Decidable (KeyOk isK k) := by unfold KeyOk; infer_instance

/- A message. -/
def InvM (m : ML) : Prop := namedB m = true ∧ unB m = true ∧ rangB m = true ∧ m.env.length ≤ 100
theorem rightM_iff {m : ML} : rightM m = 0 ↔ InvM m ∧ (m.hf && m.hu) = false := by
  unfold rightM InvM
  cases h1 : namedB m
  · simp
  · cases h2 : unB m
    · simp
    · cases h3 : rangB m
      · simp
      · by_cases h4 : 100 < m.env.length
        · rw [if_neg (by decide), if_neg (by decide), if_pos h4]
          constructor
          · intro h; cases h
          · intro h; omega
        · rw [if_neg (by decide), if_neg (by decide), if_neg h4]
          cases h5 : (m.hf && m.hu)
          · simp; omega
          · simp
theorem inv_zero : InvM zeroM := ⟨by decide, by decide, by decide, by decide⟩
theorem up_small (b : UInt8) : smlB (upB b) = false := by
  have := X.all_bytes (p := fun b => smlB (upB b) = false) (by decide +kernel) b
  exact this
theorem upB_upB (b : UInt8) : upB (upB b) = upB b := by
  rw [upB, if_neg (by rw [up_small]; decide)]
theorem upL_upL (l : Txt) : upL (upL l) = upL l := by simp [upL, upB_upB]
theorem upL_length (l : Txt) : (upL l).length = l.length := by simp [upL]
theorem decdE_0 {v : Txt} {n : Nat} (h : decdE v n = 0) : X.decS v ≠ [] ∧ (X.decS v).length ≤ n := by
  unfold decdE at h
  by_cases h1 : X.decE v ≠ 0 ∨ X.decS v = []
  · rw [if_pos h1] at h; cases h
  · rw [if_neg h1] at h
    by_cases h2 : n < (X.decS v).length
    · rw [if_pos h2] at h; cases h
    · exact ⟨fun e => h1 (.inr e), by omega⟩
theorem printE_tim {t : Int} (h : timB t = true) : (printE t == 0) = true := by rw [printE, if_pos h]; rfl
theorem inv_set {k v : Txt} {m : ML} (h : InvM m) (hk : isKM k = true) (he : errM k v = 0) : InvM (setM k v m) := by
  obtain ⟨h1, h2, h3, h4⟩ := h
  simp only [namedB, unB, rangB, inB, Bool.and_eq_true, Bool.or_eq_true] at h1 h2 h3
  obtain ⟨⟨n1, n2⟩, n3⟩ := h1
  obtain ⟨⟨⟨⟨u1, u2⟩, u3⟩, u4⟩, u5⟩ := h2
  obtain ⟨⟨⟨⟨r1, r2⟩, r3⟩, r4⟩, r5⟩ := h3
  unfold errM at he
  unfold setM
  split at he
  · rename_i e; rw [if_pos e]
    obtain ⟨_, a, b⟩ := numE_0 he
    refine ⟨?_, ?_, ?_, h4⟩
    all_goals simp only [namedB, unB, rangB, inB, Bool.and_eq_true, Bool.or_eq_true]
    · exact ⟨⟨n1, n2⟩, n3⟩
    · exact ⟨⟨⟨⟨.inl trivial, u2⟩, u3⟩, u4⟩, u5⟩
    · exact ⟨⟨⟨⟨.inr ⟨decide_eq_true a, decide_eq_true b⟩, r2⟩, r3⟩, r4⟩, r5⟩
  rename_i e1; rw [if_neg e1]
  split at he
  · rename_i e; rw [if_pos e]
    have hb : isBody (upL v) = true := by cases hb : isBody (upL v) <;> simp_all
    refine ⟨?_, ?_, ?_, h4⟩
    all_goals simp only [namedB, unB, rangB, inB, Bool.and_eq_true, Bool.or_eq_true]
    · exact ⟨⟨.inr hb, n2⟩, n3⟩
    · exact ⟨⟨⟨⟨u1, u2⟩, u3⟩, u4⟩, u5⟩
    · exact ⟨⟨⟨⟨r1, r2⟩, r3⟩, r4⟩, r5⟩
  rename_i e2; rw [if_neg e2]
  split at he
  · rename_i e; rw [if_pos e]
    have hb : isRet (upL v) = true := by cases hb : isRet (upL v) <;> simp_all
    refine ⟨?_, ?_, ?_, h4⟩
    all_goals simp only [namedB, unB, rangB, inB, Bool.and_eq_true, Bool.or_eq_true]
    · exact ⟨⟨n1, .inr hb⟩, n3⟩
    · exact ⟨⟨⟨⟨u1, u2⟩, u3⟩, u4⟩, u5⟩
    · exact ⟨⟨⟨⟨r1, r2⟩, r3⟩, r4⟩, r5⟩
  rename_i e3; rw [if_neg e3]
  split at he
  · rename_i e; rw [if_pos e]
    refine ⟨?_, ?_, ?_, (decdE_0 he).2⟩
    all_goals simp only [namedB, unB, rangB, inB, Bool.and_eq_true, Bool.or_eq_true]
    · exact ⟨⟨n1, n2⟩, n3⟩
    · exact ⟨⟨⟨⟨u1, u2⟩, u3⟩, u4⟩, u5⟩
    · exact ⟨⟨⟨⟨r1, r2⟩, r3⟩, r4⟩, r5⟩
  rename_i e4; rw [if_neg e4]
  split at he
  · rename_i e; rw [if_pos e]
    obtain ⟨_, a, b⟩ := numE_0 he
    refine ⟨?_, ?_, ?_, h4⟩
    all_goals simp only [namedB, unB, rangB, inB, Bool.and_eq_true, Bool.or_eq_true]
    · exact ⟨⟨n1, n2⟩, n3⟩
    · exact ⟨⟨⟨⟨u1, .inl trivial⟩, u3⟩, u4⟩, u5⟩
    · exact ⟨⟨⟨⟨r1, .inr ⟨decide_eq_true a, decide_eq_true b⟩⟩, r3⟩, r4⟩, r5⟩
  rename_i e5; rw [if_neg e5]
  split at he
  · rename_i e; rw [if_pos e]
    refine ⟨?_, ?_, ?_, h4⟩
    all_goals simp only [namedB, unB, rangB, inB, Bool.and_eq_true, Bool.or_eq_true]
    · exact ⟨⟨n1, n2⟩, n3⟩
    · exact ⟨⟨⟨⟨u1, u2⟩, .inl trivial⟩, u4⟩, u5⟩
    · exact ⟨⟨⟨⟨r1, r2⟩, .inr (printE_tim (parse_time he))⟩, r4⟩, r5⟩
  rename_i e6; rw [if_neg e6]
  split at he
  · rename_i e; rw [if_pos e]
    unfold byE at he
    have hb : isMode (upL (postC 59 v)) = true := by
      cases hb : isMode (upL (postC 59 v))
      · rw [hb] at he; cases he
      · rfl
    rw [if_pos hb] at he
    obtain ⟨_, a, b⟩ := numE_0 he
    refine ⟨?_, ?_, ?_, h4⟩
    all_goals simp only [namedB, unB, rangB, inB, Bool.and_eq_true, Bool.or_eq_true]
    · exact ⟨⟨n1, n2⟩, .inl ⟨trivial, hb⟩⟩
    · exact ⟨⟨⟨⟨u1, u2⟩, u3⟩, .inl trivial⟩, u5⟩
    · exact ⟨⟨⟨⟨r1, r2⟩, r3⟩, .inr ⟨decide_eq_true a, decide_eq_true b⟩⟩, r5⟩
  rename_i e7; rw [if_neg e7]
  split at he
  · rename_i e; rw [if_pos e]
    obtain ⟨_, a, b⟩ := numE_0 he
    refine ⟨?_, ?_, ?_, h4⟩
    all_goals simp only [namedB, unB, rangB, inB, Bool.and_eq_true, Bool.or_eq_true]
    · exact ⟨⟨n1, n2⟩, n3⟩
    · exact ⟨⟨⟨⟨u1, u2⟩, u3⟩, u4⟩, .inl trivial⟩
    · exact ⟨⟨⟨⟨r1, r2⟩, r3⟩, r4⟩, .inr ⟨decide_eq_true a, decide_eq_true b⟩⟩
  rename_i e8
  exact absurd hk (by simp [isKM, e1, e2, e3, e4, e5, e6, e7, e8])
theorem inv_fin {isK : Txt → Bool} {err : Txt → Txt → Int} {σ : Type} {set : Txt → Txt → σ → σ} {I : σ → Prop} (hI : ∀ k v st, I st → isK k = true → err k v = 0 → I (set k v st)) : ∀ (ws : List Txt) (st : σ), (∀ w ∈ ws, GoodW isK err w) → I st → I (fin set ws st)
  | [], _, _, h => h
  | w :: ws, st, hg, h => inv_fin hI ws _ (fun w hw => hg w (List.mem_cons_of_mem _ hw)) (hI _ _ _ h (hg w (by simp)).2.1 (hg w (by simp)).2.2)
theorem peM_0 {s : Txt} (h : peM s = 0) : rdM s = 0 ∧ (s ≠ [] → ((finM s).hf && (finM s).hu) = false) := by
  unfold peM at h
  by_cases h1 : rdM s = 0
  · refine ⟨h1, fun hs => ?_⟩
    rw [if_pos h1] at h
    cases h2 : (finM s).hf
    · rfl
    · cases h3 : (finM s).hu
      · rfl
      · rw [if_pos ⟨hs, h2, h3⟩] at h; cases h
  · rw [if_neg h1] at h; exact absurd h h1
theorem rdM_ne {s : Txt} (hs : s ≠ []) : rdM s = errs isKM errM [] (splitC 32 s) := by rw [rdM, if_neg hs]
/-- What is read may be printed. -/
theorem read_right {s : Txt} (h : peM s = 0) : rightM (pvM s) = 0 := by
  obtain ⟨h1, h2⟩ := peM_0 h
  rw [rightM_iff]
  by_cases hs : s = []
  · rw [pvM, if_neg (by simp [hs])]
    exact ⟨inv_zero, rfl⟩
  · rw [pvM, if_pos ⟨h, hs⟩]
    rw [rdM_ne hs] at h1
    exact ⟨inv_fin (isK := isKM) (err := errM) (fun k v st hI hk he => inv_set hI hk he) _ _ (fun w hw => (((errs_zero _ _).1 h1).1 w hw).1) inv_zero, h2 hs⟩
theorem like_mem : ∀ {s form : Txt}, likeX s form = true → ∀ x ∈ s, ∃ f ∈ form, signX f x = true
  | [], _, _, x, hx => by simp at hx
  | a :: s, [], h, x, hx => by simp [likeX] at h
  | a :: s, f :: form, h, x, hx => by
    have h' : signX f a = true ∧ likeX s form = true := by simpa [likeX] using h
    rcases List.mem_cons.1 hx with rfl | hx
    · exact ⟨f, by simp, h'.1⟩
    · obtain ⟨g, h1, h2⟩ := like_mem h'.2 x hx
      exact ⟨g, List.mem_cons_of_mem _ h1, h2⟩
/-- Signs of a time's text. -/
theorem formed_signs {s : Txt} (h : formedX s = true) : ∀ x ∈ s, x ≠ 32 ∧ upB x = x := by
  intro x hx
  have key : ∀ f ∈ formZ ++ formP ++ formM, ∀ x, signX f x = true → x ≠ 32 ∧ upB x = x := by
    intro f hf x hs
    unfold signX at hs
    by_cases e : f = 48
    · rw [if_pos e] at hs
      have := X.all_bytes (p := fun x => digB x = true → x ≠ 32 ∧ upB x = x) (by decide +kernel) x
      exact this hs
    · rw [if_neg e] at hs
      obtain rfl := beq_iff_eq.1 hs
      revert hf
      revert x
      have := X.all_bytes (p := fun x => x ∈ formZ ++ formP ++ formM → x ≠ 32 ∧ upB x = x) (by decide +kernel)
      exact fun x _ _ => this x
  unfold formedX at h
  simp only [Bool.or_eq_true] at h
  rcases h with (h | h) | h
  · obtain ⟨f, hf, hs⟩ := like_mem h x hx
    exact key f (by simp [hf]) x hs
  · obtain ⟨f, hf, hs⟩ := like_mem h x hx
    exact key f (by simp [hf]) x hs
  · obtain ⟨f, hf, hs⟩ := like_mem h x hx
    exact key f (by simp [hf]) x hs
theorem printS_signs {t : Int} (h : timB t = true) : 32 ∉ printS t ∧ upL (printS t) = printS t := by
  have hf : formedX (printS t) = true := by
    have := (back_x h).2.1
    unfold parseE at this
    cases hf : formedX (printS t)
    · rw [hf] at this; cases this
    · rfl
  refine ⟨fun h' => (formed_signs hf 32 h').1 rfl, ?_⟩
  unfold upL
  rw [show printS t = (printS t).map id by simp, List.map_map]
  simp only [List.map_id]
  exact List.map_congr_left (fun x hx => (formed_signs hf x hx).2) |>.trans (by simp)
theorem dec_enc (l : Txt) : X.decS (X.encX l) = l ∧ X.decE (X.encX l) = 0 := by
  unfold X.decS X.decE
  rw [X.decX_encX]
  exact ⟨rfl, rfl⟩
theorem decd_enc {l : Txt} {n : Nat} (h1 : l ≠ []) (h2 : l.length ≤ n) : decdE (X.encX l) n = 0 := by
  unfold decdE
  rw [(dec_enc l).1, (dec_enc l).2, if_neg (by simp [h1]), if_neg (by omega)]
theorem enc_free (l : Txt) : 32 ∉ X.encX l := fun h => by have := (X.encX_signs h).1; revert this; decide
theorem mode_cases {s : Txt} (h : isMode s = true) : s = [82] ∨ s = [78] ∨ s = [82, 84] ∨ s = [78, 84] := by
  simpa [isMode, or_assoc] using h
theorem least_ge (s : Txt) : -999999999 ≤ leastV s := by unfold leastV; split <;> decide
/-- What was printed is read. -/
theorem wdM_ok {m : ML} (h : InvM m) : ∀ t ∈ wdM m, OkW isKM errM t := by
  obtain ⟨h1, h2, h3, h4⟩ := h
  simp only [namedB, unB, rangB, inB, Bool.and_eq_true, Bool.or_eq_true] at h1 h2 h3
  obtain ⟨⟨n1, n2⟩, n3⟩ := h1
  obtain ⟨⟨⟨⟨r1, r2⟩, r3⟩, r4⟩, r5⟩ := h3
  intro t ht
  simp only [wdM, List.mem_cons, List.not_mem_nil, or_false] at ht
  rcases ht with rfl | rfl | rfl | rfl | rfl | rfl | rfl | rfl
  all_goals refine okW_of (by decide) fun hb => ?_
  · rcases r1 with r1 | ⟨a, b⟩
    · simp [show m.hs = true from hb] at r1
    · have a := of_decide_eq_true a; have b := of_decide_eq_true b
      refine ⟨?_, itoa_free (by omega) b 32 (by decide)⟩
      show errM kSIZE (Lib.itoa m.sz) = 0
      obtain ⟨e1, e2⟩ := wh_itoa a b
      rw [errM, if_pos rfl, e1, e2]
      exact numE_in ⟨a, b⟩
  · have hb' : isBody m.body = true := by
      rcases n1 with n1 | n1
      · rw [beq_iff_eq] at n1; simp [n1] at hb
      · exact n1
    have hc : m.body = t7B ∨ m.body = t8B := by simpa [isBody] using hb'
    refine ⟨?_, ?_⟩
    · show errM kBODY m.body = 0
      rcases hc with e | e <;> rw [e] <;> decide
    · show 32 ∉ m.body
      rcases hc with e | e <;> rw [e] <;> decide
  · have hb' : isRet m.ret = true := by
      rcases n2 with n1 | n1
      · rw [beq_iff_eq] at n1; simp [n1] at hb
      · exact n1
    have hc : m.ret = tFU ∨ m.ret = tHD := by simpa [isRet] using hb'
    refine ⟨?_, ?_⟩
    · show errM kRET m.ret = 0
      rcases hc with e | e <;> rw [e] <;> decide
    · show 32 ∉ m.ret
      rcases hc with e | e <;> rw [e] <;> decide
  · have hne : m.env ≠ [] := by simpa using hb
    refine ⟨?_, enc_free _⟩
    show errM kENV (X.encX m.env) = 0
    rw [errM, if_neg (by decide), if_neg (by decide), if_neg (by decide), if_pos rfl]
    exact decd_enc hne h4
  · rcases r2 with r1 | ⟨a, b⟩
    · simp [show m.hf = true from hb] at r1
    · have a := of_decide_eq_true a; have b := of_decide_eq_true b
      refine ⟨?_, itoa_free (by omega) (by omega) 32 (by decide)⟩
      show errM kHF (Lib.itoa m.fo) = 0
      obtain ⟨e1, e2⟩ := wh_itoa (show 0 ≤ m.fo by omega) (by omega)
      rw [errM, if_neg (by decide), if_neg (by decide), if_neg (by decide), if_neg (by decide), if_pos rfl, e1, e2]
      exact numE_in ⟨a, b⟩
  · have ht : timB m.un = true := by
      rcases r3 with r1 | r1
      · simp [show m.hu = true from hb] at r1
      · unfold printE at r1
        cases hh : timB m.un
        · rw [hh] at r1; cases r1
        · rfl
    obtain ⟨p1, p2⟩ := printS_signs ht
    refine ⟨?_, p1⟩
    show errM kHU (printS m.un) = 0
    rw [errM, if_neg (by decide), if_neg (by decide), if_neg (by decide), if_neg (by decide), if_neg (by decide), if_pos rfl, p2]
    exact (back_x ht).2.1
  · have hmo : isMode m.mode = true := by
      rcases n3 with ⟨_, n3⟩ | ⟨n3, _⟩
      · exact n3
      · simp [show m.hb = true from hb] at n3
    rcases r4 with r1 | ⟨a, b⟩
    · simp [show m.hb = true from hb] at r1
    · have a := of_decide_eq_true a; have b := of_decide_eq_true b
      have hl := least_ge m.mode
      have hfr := itoa_free (n := m.by_) (by omega) b 59 (by decide)
      have hc := mode_cases hmo
      obtain ⟨_, c2, c3⟩ := cut_at m.mode hfr
      have e : Lib.itoa m.by_ ++ [59] ++ m.mode = Lib.itoa m.by_ ++ 59 :: m.mode := by simp
      have hup : upL m.mode = m.mode := by rcases hc with e | e | e | e <;> rw [e] <;> decide
      refine ⟨?_, ?_⟩
      · show errM kBY (Lib.itoa m.by_ ++ [59] ++ m.mode) = 0
        rw [errM, if_neg (by decide), if_neg (by decide), if_neg (by decide), if_neg (by decide), if_neg (by decide), if_neg (by decide), if_pos rfl, byE, e, c2, c3, hup, if_pos hmo]
        obtain ⟨e1, e2⟩ := sg_itoa (show -999999999 ≤ m.by_ by omega) b
        rw [e1, e2]
        exact numE_in ⟨a, b⟩
      · show 32 ∉ Lib.itoa m.by_ ++ [59] ++ m.mode
        simp only [List.mem_append, List.mem_singleton, not_or]
        refine ⟨⟨itoa_free (by omega) b 32 (by decide), by decide⟩, ?_⟩
        rcases hc with e | e | e | e <;> rw [e] <;> decide
  · rcases r5 with r1 | ⟨a, b⟩
    · simp [show m.hp = true from hb] at r1
    · have a := of_decide_eq_true a; have b := of_decide_eq_true b
      refine ⟨?_, itoa_free (by omega) (by omega) 32 (by decide)⟩
      show errM kPR (Lib.itoa m.pr) = 0
      obtain ⟨e1, e2⟩ := sg_itoa (show -999999999 ≤ m.pr by omega) (by omega)
      rw [errM, if_neg (by decide), if_neg (by decide), if_neg (by decide), if_neg (by decide), if_neg (by decide), if_neg (by decide), if_neg (by decide), if_pos rfl, e1, e2]
      exact numE_in ⟨a, b⟩
theorem setM_SIZE (v : Txt) (m : ML) : setM kSIZE v m = { m with sz := whV v, hs := true } := rfl
theorem setM_BODY (v : Txt) (m : ML) : setM kBODY v m = { m with body := upL v } := rfl
theorem setM_RET (v : Txt) (m : ML) : setM kRET v m = { m with ret := upL v } := rfl
theorem setM_ENV (v : Txt) (m : ML) : setM kENV v m = { m with env := X.decS v } := rfl
theorem setM_HF (v : Txt) (m : ML) : setM kHF v m = { m with fo := whV v, hf := true } := rfl
theorem setM_HU (v : Txt) (m : ML) : setM kHU v m = { m with un := parseV (upL v), hu := true } := rfl
theorem setM_BY (v : Txt) (m : ML) : setM kBY v m = { m with mode := upL (postC 59 v), by_ := sgV (preC 59 v), hb := true } := rfl
theorem setM_PR (v : Txt) (m : ML) : setM kPR v m = { m with pr := sgV v, hp := true } := rfl
theorem wdM_fold {m : ML} (h : InvM m) : (wdM m).foldl (fun st t => if t.1 then setM t.2.1 t.2.2 st else st) zeroM = m := by
  obtain ⟨h1, h2, h3, h4⟩ := h
  simp only [namedB, unB, rangB, inB, Bool.and_eq_true, Bool.or_eq_true] at h1 h2 h3
  obtain ⟨⟨n1, n2⟩, n3⟩ := h1
  obtain ⟨⟨⟨⟨u1, u2⟩, u3⟩, u4⟩, u5⟩ := h2
  obtain ⟨⟨⟨⟨r1, r2⟩, r3⟩, r4⟩, r5⟩ := h3
  simp only [wdM, List.foldl_cons, List.foldl_nil]
  obtain ⟨hs, hf, hu, hb, hp, sz, fo, un, by_, pr, body, ret, env, mode⟩ := m
  simp only at n1 n2 n3 u1 u2 u3 u4 u5 r1 r2 r3 r4 r5 h4 ⊢
  have s1 : (if hs then setM kSIZE (Lib.itoa sz) zeroM else zeroM) = { zeroM with sz := sz, hs := hs } := by
    cases hs
    · simp at u1; subst u1; rfl
    · simp at r1
      rw [if_pos rfl, setM_SIZE, (wh_itoa r1.1 r1.2).1]
  rw [s1]
  have s2 : ∀ st : ML, st.body = [] → (if body != [] then setM kBODY body st else st) = { st with body := body } := by
    intro st hst
    by_cases e : body = []
    · subst e; rw [if_neg (by simp)]; rw [← hst]
    · have hc : body = t7B ∨ body = t8B := by
        rcases n1 with n1 | n1
        · exact absurd (beq_iff_eq.1 n1) e
        · simpa [isBody] using n1
      rw [if_pos (by simpa using e), setM_BODY]
      rcases hc with e | e <;> subst e <;> rfl
  rw [s2 _ rfl]
  have s3 : ∀ st : ML, st.ret = [] → (if ret != [] then setM kRET ret st else st) = { st with ret := ret } := by
    intro st hst
    by_cases e : ret = []
    · subst e; rw [if_neg (by simp)]; rw [← hst]
    · have hc : ret = tFU ∨ ret = tHD := by
        rcases n2 with n1 | n1
        · exact absurd (beq_iff_eq.1 n1) e
        · simpa [isRet] using n1
      rw [if_pos (by simpa using e), setM_RET]
      rcases hc with e | e <;> subst e <;> rfl
  rw [s3 _ rfl]
  have s4 : ∀ st : ML, st.env = [] → (if env != [] then setM kENV (X.encX env) st else st) = { st with env := env } := by
    intro st hst
    by_cases e : env = []
    · subst e; rw [if_neg (by simp)]; rw [← hst]
    · rw [if_pos (by simpa using e), setM_ENV, (dec_enc env).1]
  rw [s4 _ rfl]
  have s5 : ∀ st : ML, st.hf = false → st.fo = 0 → (if hf then setM kHF (Lib.itoa fo) st else st) = { st with fo := fo, hf := hf } := by
    intro st h1 h2
    cases hf
    · simp at u2; subst u2; rw [if_neg (by decide), ← h1, ← h2]
    · simp at r2
      rw [if_pos rfl, setM_HF, (wh_itoa (by omega) (by omega)).1]
  rw [s5 _ rfl rfl]
  have s6 : ∀ st : ML, st.hu = false → st.un = 0 → (if hu then setM kHU (printS un) st else st) = { st with un := un, hu := hu } := by
    intro st h1 h2
    cases hu
    · simp at u3; subst u3; rw [if_neg (by decide), ← h1, ← h2]
    · have ht : timB un = true := by
        simp at r3
        unfold printE at r3
        cases hh : timB un
        · rw [hh] at r3; cases r3
        · rfl
      rw [if_pos rfl, setM_HU, (printS_signs ht).2, (back_x ht).1]
  rw [s6 _ rfl rfl]
  have s7 : ∀ st : ML, st.hb = false → st.by_ = 0 → st.mode = [] → (if hb then setM kBY (Lib.itoa by_ ++ [59] ++ mode) st else st) = { st with mode := mode, by_ := by_, hb := hb } := by
    intro st h1 h2 h3
    cases hb
    · simp at u4 n3; subst u4; subst n3; rw [if_neg (by decide), ← h1, ← h2, ← h3]
    · simp at r4 n3
      have hl := least_ge mode
      have hfr := itoa_free (n := by_) (by omega) r4.2 59 (by decide)
      have hc := mode_cases n3
      obtain ⟨_, c2, c3⟩ := cut_at mode hfr
      have e : Lib.itoa by_ ++ [59] ++ mode = Lib.itoa by_ ++ 59 :: mode := by simp
      have hup : upL mode = mode := by rcases hc with e | e | e | e <;> rw [e] <;> decide
      rw [if_pos rfl, setM_BY, e, c2, c3, hup, (sg_itoa (by omega) r4.2).1]
  rw [s7 _ rfl rfl rfl]
  have s8 : ∀ st : ML, st.hp = false → st.pr = 0 → (if hp then setM kPR (Lib.itoa pr) st else st) = { st with pr := pr, hp := hp } := by
    intro st h1 h2
    cases hp
    · simp at u5; subst u5; rw [if_neg (by decide), ← h1, ← h2]
    · simp at r5
      rw [if_pos rfl, setM_PR, (sg_itoa (by omega) (by omega)).1]
  rw [s8 _ rfl rfl]
theorem keysM_nodup (m : ML) : ((wdM m).map (·.2.1)).Nodup := by
  show [kSIZE, kBODY, kRET, kENV, kHF, kHU, kBY, kPR].Nodup
  decide
theorem print_read {m : ML} (h : rightM m = 0) : peM (printM m) = 0 ∧ pvM (printM m) = m := by
  obtain ⟨hI, hh⟩ := rightM_iff.1 h
  have hok := wdM_ok hI
  have hfin := wordsL_fin isKM errM setM zeroM hok
  rw [wdM_fold hI] at hfin
  rw [printM, if_pos h]
  by_cases he : wordsL (wdM m) = []
  · rw [he] at hfin ⊢
    have : m = zeroM := by rw [← hfin]; rfl
    subst this
    exact ⟨rfl, rfl⟩
  · have hne := joinC_ne (c := 32) he wordsL_ne
    have hsp := splitC_join 32 _ he (wordsL_free hok)
    have hrd : rdM (joinC 32 (wordsL (wdM m))) = 0 := by rw [rdM_ne hne, hsp]; exact wordsL_errs hok (keysM_nodup m)
    have hf : finM (joinC 32 (wordsL (wdM m))) = m := by rw [finM, hsp]; exact hfin
    have hp : peM (joinC 32 (wordsL (wdM m))) = 0 := by
      unfold peM
      rw [if_pos hrd, hf, if_neg]
      rintro ⟨_, h1, h2⟩
      rw [h1, h2] at hh
      cases hh
    refine ⟨hp, ?_⟩
    rw [pvM, if_pos ⟨hp, hne⟩, hf]

/- A recipient. -/
def InvR (r : RL) : Prop := (r.no = [78] ∨ r.no = ordV r.no) ∧ kindB r = true ∧ r.oc.length ≤ 256
theorem rightR_iff {r : RL} : rightR r = 0 ↔ InvR r := by
  unfold rightR InvR
  have e1 : (r.no == [78] || r.no == ordV r.no) = true ↔ (r.no = [78] ∨ r.no = ordV r.no) := by simp
  cases h1 : (r.no == [78] || r.no == ordV r.no)
  · have : ¬ (r.no = [78] ∨ r.no = ordV r.no) := fun h => by rw [e1.2 h] at h1; cases h1
    simp [this]
  · cases h2 : kindB r
    · simp
    · by_cases h4 : 256 < r.oc.length
      · simp [h4]
      · simp [h4, e1.1 h1]; omega
theorem ord_cases (l : Txt) : ordV l ∈ [[], [83], [70], [68], [83, 70], [83, 68], [70, 68], [83, 70, 68]] := by
  unfold ordV
  cases l.contains 83 <;> cases l.contains 70 <;> cases l.contains 68 <;> simp
theorem ord_ord (l : Txt) : ordV (ordV l) = ordV l := by
  have h := ord_cases l
  generalize ordV l = q at h
  have : ∀ q ∈ [[], [83], [70], [68], [83, 70], [83, 68], [70, 68], [83, 70, 68]], ordV q = q := by decide
  exact this q h
theorem notV_ok (v : Txt) : notV v = [78] ∨ notV v = ordV (notV v) := by
  unfold notV notL
  by_cases h : v = tNE
  · rw [if_pos h]; exact .inl rfl
  · rw [if_neg h]
    cases hl : letG (splitC 44 v) []
    · exact .inr rfl
    · exact .inr (ord_ord _).symm
theorem invR_zero : InvR zeroR := ⟨.inr rfl, by decide, by decide⟩
theorem invR_set {k v : Txt} {r : RL} (h : InvR r) (hk : isKR k = true) (he : errR k v = 0) : InvR (setR k v r) := by
  obtain ⟨h1, h2, h3⟩ := h
  unfold errR at he
  unfold setR
  split at he
  · rename_i e; rw [if_pos e]
    exact ⟨notV_ok _, h2, h3⟩
  rename_i e1; rw [if_neg e1]
  split at he
  · rename_i e; rw [if_pos e]
    have hb : isKind (upL (preC 59 v)) = true := by
      cases hb : isKind (upL (preC 59 v))
      · rw [hb] at he; cases he
      · rfl
    rw [if_pos hb] at he
    obtain ⟨d1, d2⟩ := decdE_0 he
    refine ⟨h1, ?_, d2⟩
    have hne : upL (preC 59 v) ≠ [] := by
      intro e; rw [e] at hb; revert hb; decide
    have e1 : (upL (preC 59 v) == ([] : Txt)) = false := beq_eq_false_iff_ne.2 hne
    have e2 : (X.decS (postC 59 v) == ([] : Txt)) = false := beq_eq_false_iff_ne.2 d1
    unfold kindB
    rw [e1, e2, hb, upL_upL]
    simp
  rename_i e2
  exact absurd hk (by simp [isKR, e1, e2])
theorem readR_right {s : Txt} (h : peR s = 0) : rightR (pvR s) = 0 := by
  rw [rightR_iff]
  by_cases hs : s = []
  · rw [pvR, if_neg (by simp [hs])]
    exact invR_zero
  · rw [pvR, if_pos ⟨h, hs⟩]
    rw [peR, if_neg hs] at h
    exact inv_fin (isK := isKR) (err := errR) (fun k v st hI hk he => invR_set hI hk he) _ _ (fun w hw => (((errs_zero _ _).1 h).1 w hw).1) invR_zero
theorem kind_signs {s : Txt} (h : isKind s = true) : ∀ x ∈ s, x ≠ 32 ∧ x ≠ 59 := by
  intro x hx
  have : s.all alnB = true := by
    unfold isKind at h
    simp only [Bool.and_eq_true] at h
    exact h.2
  have ha := List.all_eq_true.1 this x hx
  exact X.all_bytes (p := fun x => alnB x = true → x ≠ 32 ∧ x ≠ 59) (by decide +kernel) x ha
theorem no_facts {l : Txt} (h : l = [78] ∨ l = ordV l) : 32 ∉ namesV l ∧ upL (namesV l) = namesV l ∧ (l ≠ [] → notE (namesV l) = 0 ∧ notV (namesV l) = l) := by
  have hm : l ∈ ([[78], [], [83], [70], [68], [83, 70], [83, 68], [70, 68], [83, 70, 68]] : List Txt) := by
    rcases h with h | h
    · rw [h]; simp
    · exact List.mem_cons_of_mem _ (h ▸ ord_cases l)
  clear h
  have key : ∀ l ∈ ([[78], [], [83], [70], [68], [83, 70], [83, 68], [70, 68], [83, 70, 68]] : List Txt), 32 ∉ namesV l ∧ upL (namesV l) = namesV l ∧ (l ≠ [] → notE (namesV l) = 0 ∧ notV (namesV l) = l) := by decide +kernel
  exact key l hm
theorem kindB_yes {r : RL} (h : kindB r = true) (hk : r.kind ≠ []) : r.oc ≠ [] ∧ isKind r.kind = true ∧ upL r.kind = r.kind := by
  unfold kindB at h
  have e : (r.kind == []) = false := by simpa using hk
  rw [e] at h
  simp at h
  exact ⟨h.1, h.2.1, h.2.2.symm⟩
theorem wdR_ok {r : RL} (h : InvR r) : ∀ t ∈ wdR r, OkW isKR errR t := by
  obtain ⟨h1, h2, h3⟩ := h
  obtain ⟨a1, a2, a3⟩ := no_facts h1
  intro t ht
  simp only [wdR, List.mem_cons, List.not_mem_nil, or_false] at ht
  rcases ht with rfl | rfl
  all_goals refine okW_of (by decide) fun hb => ?_
  · refine ⟨?_, a1⟩
    show errR kNO (namesV r.no) = 0
    rw [errR, if_pos rfl, a2]
    exact (a3 (by simpa using hb)).1
  · have hk : r.kind ≠ [] := by simpa using hb
    obtain ⟨k1, k2, k3⟩ := kindB_yes h2 hk
    have e : r.kind ++ [59] ++ X.encX r.oc = r.kind ++ 59 :: X.encX r.oc := by simp
    obtain ⟨_, c2, c3⟩ := cut_at (X.encX r.oc) (c := 59) (a := r.kind) (fun h' => (kind_signs k2 59 h').2 rfl)
    refine ⟨?_, ?_⟩
    · show errR kOR (r.kind ++ [59] ++ X.encX r.oc) = 0
      rw [errR, if_neg (by decide), if_pos rfl, e, c2, c3, k3, if_pos k2]
      exact decd_enc k1 h3
    · show 32 ∉ r.kind ++ [59] ++ X.encX r.oc
      simp only [List.mem_append, List.mem_singleton, not_or]
      exact ⟨⟨fun h' => (kind_signs k2 32 h').1 rfl, by decide⟩, enc_free _⟩
theorem wdR_fold {r : RL} (h : InvR r) : (wdR r).foldl (fun st t => if t.1 then setR t.2.1 t.2.2 st else st) zeroR = r := by
  obtain ⟨h1, h2, h3⟩ := h
  obtain ⟨a1, a2, a3⟩ := no_facts h1
  have hk := kindB_yes h2
  simp only [wdR, List.foldl_cons, List.foldl_nil]
  obtain ⟨no, kind, oc⟩ := r
  simp only at h1 h2 h3 a1 a2 a3 hk ⊢
  have s1 : (if no != [] then setR kNO (namesV no) zeroR else zeroR) = { zeroR with no := no } := by
    by_cases e : no = []
    · subst e; rfl
    · rw [if_pos (by simpa using e)]
      show { zeroR with no := notV (upL (namesV no)) } = _
      rw [a2, (a3 e).2]
  rw [s1]
  by_cases e : kind = []
  · subst e
    have : oc = [] := by simpa [kindB] using h2
    subst this
    rfl
  · obtain ⟨k1, k2, k3⟩ := hk e
    have e' : kind ++ [59] ++ X.encX oc = kind ++ 59 :: X.encX oc := by simp
    obtain ⟨_, c2, c3⟩ := cut_at (X.encX oc) (c := 59) (a := kind) (fun h' => (kind_signs k2 59 h').2 rfl)
    rw [if_pos (by simpa using e)]
    show RL.mk no (upL (preC 59 (kind ++ [59] ++ X.encX oc))) (X.decS (postC 59 (kind ++ [59] ++ X.encX oc))) = _
    rw [e', c2, c3, k3, (dec_enc oc).1]
theorem keysR_nodup (r : RL) : ((wdR r).map (·.2.1)).Nodup := by
  show [kNO, kOR].Nodup
  decide
theorem printR_read {r : RL} (h : rightR r = 0) : peR (printR r) = 0 ∧ pvR (printR r) = r := by
  have hI := rightR_iff.1 h
  have hok := wdR_ok hI
  have hfin := wordsL_fin isKR errR setR zeroR hok
  rw [wdR_fold hI] at hfin
  rw [printR, if_pos h]
  by_cases he : wordsL (wdR r) = []
  · rw [he] at hfin ⊢
    have : r = zeroR := by rw [← hfin]; rfl
    subst this
    exact ⟨rfl, rfl⟩
  · have hne := joinC_ne (c := 32) he wordsL_ne
    have hsp := splitC_join 32 _ he (wordsL_free hok)
    have hp : peR (joinC 32 (wordsL (wdR r))) = 0 := by rw [peR, if_neg hne, hsp]; exact wordsL_errs hok (keysR_nodup r)
    refine ⟨hp, ?_⟩
    rw [pvR, if_pos ⟨hp, hne⟩, finR, hsp]
    exact hfin
end Go.Proofs.YtojpkbonioglbaaGreatDoor
