/-
  xtext as lists of bytes: what a text's xtext is, what signs tell, and what follows of both.
-/
import Derived.Lib.Bytealg
namespace Go.Proofs.YtdcakmamdabiaaaDoor.X
set_option maxRecDepth 100000
theorem all_bytes {p : UInt8 → Prop} (h : ∀ n, n < 256 → p (UInt8.ofNat n)) (b : UInt8) : p b := by
  have := h b.toNat b.toNat_lt
  rwa [UInt8.ofNat_toNat] at this
/-- A plain sign. -/
def plainX (b : UInt8) : Bool := decide (33 ≤ b.toNat) && decide (b.toNat ≤ 126) && b != 43 && b != 61
/-- The sign of a digit; the digit of a sign, or 16. -/
def digX (n : Nat) : UInt8 := if n < 10 then UInt8.ofNat (48 + n) else UInt8.ofNat (55 + n)
def valX (b : UInt8) : Nat := if 48 ≤ b.toNat ∧ b.toNat ≤ 57 then b.toNat - 48 else if 65 ≤ b.toNat ∧ b.toNat ≤ 70 then b.toNat - 55 else 16
def digsX : List UInt8 := [48, 49, 50, 51, 52, 53, 54, 55, 56, 57, 65, 66, 67, 68, 69, 70]
theorem digs_get : ∀ n, n < 16 → digsX[n]? = some (digX n) := by decide
theorem digs_index (b : UInt8) : Lib.indexByte digsX b = if valX b < 16 then (valX b : Int) else -1 :=
  all_bytes (p := fun b => Lib.indexByte digsX b = if valX b < 16 then (valX b : Int) else -1) (by decide +kernel) b
theorem val_dig : ∀ n, n < 16 → valX (digX n) = n := by decide
theorem val_le (b : UInt8) : valX b ≤ 16 := by unfold valX; split <;> (try split) <;> omega
def encX1 (b : UInt8) : List UInt8 := if plainX b then [b] else [43, digX (b.toNat / 16), digX (b.toNat % 16)]
def encX (l : List UInt8) : List UInt8 := l.flatMap encX1
theorem encX_append (a b : List UInt8) : encX (a ++ b) = encX a ++ encX b := by simp [encX]
theorem encX_snoc (l : List UInt8) (b : UInt8) : encX (l ++ [b]) = encX l ++ encX1 b := by simp [encX]
theorem encX_take {l : List UInt8} {k : Nat} {b : UInt8} (h : l[k]? = some b) : encX (l.take (k + 1)) = encX (l.take k) ++ encX1 b := by
  obtain ⟨hk, e⟩ := List.getElem?_eq_some_iff.1 h
  rw [List.take_succ_eq_append_getElem hk, encX_snoc, e]
theorem encX1_len (b : UInt8) : 1 ≤ (encX1 b).length ∧ (encX1 b).length ≤ 3 := by unfold encX1; split <;> simp
theorem encX_len (l : List UInt8) : l.length ≤ (encX l).length ∧ (encX l).length ≤ 3 * l.length := by
  induction l with
  | nil => simp [encX]
  | cons b l ih =>
    have e : encX (b :: l) = encX1 b ++ encX l := by simp [encX]
    have := encX1_len b
    rw [e, List.length_append, List.length_cons]
    omega
/-- What signs tell. -/
def decX : List UInt8 → Option (List UInt8)
  | [] => some []
  | b :: l => if plainX b then (decX l).map (b :: ·) else if b = 43 then
      match l with
      | x :: y :: r => if valX x < 16 ∧ valX y < 16 then (decX r).map (UInt8.ofNat (16 * valX x + valX y) :: ·) else none
      | _ => none
    else none
theorem decX_cons (b : UInt8) (l : List UInt8) : decX (b :: l) = if plainX b then (decX l).map (b :: ·) else if b = 43 then
      match l with
      | x :: y :: r => if valX x < 16 ∧ valX y < 16 then (decX r).map (UInt8.ofNat (16 * valX x + valX y) :: ·) else none
      | _ => none
    else none := by
  match l with
  | [] => simp only [decX]
  | [x] => rw [decX]; intro _ _ _ h; cases h
  | x :: y :: r => rw [decX]
theorem decX_plain {b : UInt8} (h : plainX b = true) (r : List UInt8) : decX (b :: r) = (decX r).map (b :: ·) := by rw [decX_cons, if_pos h]
theorem decX_bad {b : UInt8} (h : plainX b = false) (h2 : b ≠ 43) (r : List UInt8) : decX (b :: r) = none := by rw [decX_cons, if_neg (by rw [h]; decide), if_neg h2]
theorem plain43 : plainX 43 = false := by decide
theorem decX_mark (x y : UInt8) (r : List UInt8) : decX (43 :: x :: y :: r) = if valX x < 16 ∧ valX y < 16 then (decX r).map (UInt8.ofNat (16 * valX x + valX y) :: ·) else none := by
  rw [decX_cons, if_neg (by rw [plain43]; decide), if_pos rfl]
theorem decX_mark0 : decX [43] = none := by
  rw [decX_cons, if_neg (by rw [plain43]; decide), if_pos rfl]
theorem decX_mark1 (x : UInt8) : decX [43, x] = none := by
  rw [decX_cons, if_neg (by rw [plain43]; decide), if_pos rfl]
theorem decX_enc1 (b : UInt8) (r : List UInt8) : decX (encX1 b ++ r) = (decX r).map (b :: ·) := by
  unfold encX1
  by_cases h : plainX b
  · rw [if_pos h]; exact decX_plain h r
  · have hb := b.toNat_lt
    rw [if_neg h]
    show decX (43 :: digX (b.toNat / 16) :: digX (b.toNat % 16) :: r) = _
    rw [decX_mark, val_dig _ (by omega), val_dig _ (by omega), if_pos ⟨by omega, by omega⟩]
    have e : UInt8.ofNat (16 * (b.toNat / 16) + b.toNat % 16) = b := by rw [Nat.div_add_mod]; exact UInt8.ofNat_toNat
    rw [e]
theorem decX_enc (l r : List UInt8) : decX (encX l ++ r) = (decX r).map (l ++ ·) := by
  induction l with
  | nil => simp [encX]
  | cons b l ih =>
    have e : encX (b :: l) ++ r = encX1 b ++ (encX l ++ r) := by simp [encX]
    rw [e, decX_enc1, ih, Option.map_map]
    rfl
theorem decX_encX (l : List UInt8) : decX (encX l) = some l := by
  have := decX_enc l []
  rw [List.append_nil] at this
  rw [this]
  simp [decX]
theorem encX_inj {a b : List UInt8} (h : encX a = encX b) : a = b := by
  have := decX_encX a
  rw [h, decX_encX] at this
  injection this with this
  exact this.symm
theorem encX1_signs (b : UInt8) : ∀ x ∈ encX1 b, 33 ≤ x.toNat ∧ x.toNat ≤ 126 ∧ x ≠ 61 :=
  all_bytes (p := fun b => ∀ x ∈ encX1 b, 33 ≤ x.toNat ∧ x.toNat ≤ 126 ∧ x ≠ 61) (by decide +kernel) b
theorem encX_signs {l : List UInt8} {x : UInt8} (h : x ∈ encX l) : 33 ≤ x.toNat ∧ x.toNat ≤ 126 ∧ x ≠ 61 := by
  obtain ⟨b, _, hb⟩ := List.mem_flatMap.1 h
  exact encX1_signs b x hb
/-- What is told of the front, and of what stands behind it. -/
theorem decX_append : ∀ (n : Nat) (a : List UInt8), a.length ≤ n → ∀ {s : List UInt8}, decX a = some s → ∀ r, decX (a ++ r) = (decX r).map (s ++ ·)
  | _, [], _, s, h, r => by
    rw [decX] at h
    injection h with h
    subst h
    simp
  | 0, b :: a, hn, s, h, r => by simp at hn
  | n + 1, b :: a, hn, s, h, r => by
    rw [List.length_cons] at hn
    by_cases hp : plainX b
    · rw [decX_plain hp] at h
      obtain ⟨t, ht, e⟩ := Option.map_eq_some_iff.1 h
      rw [List.cons_append, decX_plain hp, decX_append n a (by omega) ht r, Option.map_map, ← e]
      rfl
    · have hp' : plainX b = false := by simpa using hp
      by_cases h43 : b = 43
      · subst h43
        match a, hn, h with
        | [], _, h => rw [decX_mark0] at h; cases h
        | [x], _, h => rw [decX_mark1] at h; cases h
        | x :: y :: a, hn, h =>
          simp only [List.length_cons] at hn
          rw [decX_mark] at h
          by_cases hv : valX x < 16 ∧ valX y < 16
          · rw [if_pos hv] at h
            obtain ⟨t, ht, e⟩ := Option.map_eq_some_iff.1 h
            show decX (43 :: x :: y :: (a ++ r)) = _
            rw [decX_mark, if_pos hv, decX_append n a (by omega) ht r, Option.map_map, ← e]
            rfl
          · rw [if_neg hv] at h; cases h
      · rw [decX_bad hp' h43] at h; cases h
theorem decX_len : ∀ (n : Nat) (a : List UInt8), a.length ≤ n → ∀ {s : List UInt8}, decX a = some s → s.length ≤ a.length
  | _, [], _, s, h => by
    rw [decX] at h
    injection h with h
    subst h
    simp
  | 0, b :: a, hn, s, h => by simp at hn
  | n + 1, b :: a, hn, s, h => by
    rw [List.length_cons] at hn
    by_cases hp : plainX b
    · rw [decX_plain hp] at h
      obtain ⟨t, ht, e⟩ := Option.map_eq_some_iff.1 h
      have := decX_len n a (by omega) ht
      rw [← e]
      simp
      omega
    · have hp' : plainX b = false := by simpa using hp
      by_cases h43 : b = 43
      · subst h43
        match a, hn, h with
        | [], _, h => rw [decX_mark0] at h; cases h
        | [x], _, h => rw [decX_mark1] at h; cases h
        | x :: y :: a, hn, h =>
          simp only [List.length_cons] at hn
          rw [decX_mark] at h
          by_cases hv : valX x < 16 ∧ valX y < 16
          · rw [if_pos hv] at h
            obtain ⟨t, ht, e⟩ := Option.map_eq_some_iff.1 h
            have := decX_len n a (by omega) ht
            rw [← e]
            simp
            omega
          · rw [if_neg hv] at h; cases h
      · rw [decX_bad hp' h43] at h; cases h
/-- What Decode answers. -/
def decS (l : List UInt8) : List UInt8 := (decX l).getD []
def decE (l : List UInt8) : Int := if (decX l).isSome then 0 else 2
theorem decS_len (l : List UInt8) : (decS l).length ≤ l.length := by
  unfold decS
  cases h : decX l with
  | none => simp
  | some s => exact decX_len _ l (Nat.le_refl _) h
end Go.Proofs.YtdcakmamdabiaaaDoor.X
