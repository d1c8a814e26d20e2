/-
  Texts of times as lists of bytes: the forms, the numbers of digits, what a text tells, a time's text.
-/
import Derived.Test.YtdcakmamdabiaaaDoorDtMath
namespace Go.Proofs.YtdcakmamdabiaaaDoor
set_option maxRecDepth 100000
/-- What may stand where a form has a sign. -/
def signX (f a : UInt8) : Bool := if f = 48 then digB a else a == f
def likeX : List UInt8 → List UInt8 → Bool
  | [], [] => true
  | a :: s, f :: form => signX f a && likeX s form
  | _, _ => false
def formZ : List UInt8 := [48, 48, 48, 48, 45, 48, 48, 45, 48, 48, 84, 48, 48, 58, 48, 48, 58, 48, 48, 90]
def formP : List UInt8 := [48, 48, 48, 48, 45, 48, 48, 45, 48, 48, 84, 48, 48, 58, 48, 48, 58, 48, 48, 43, 48, 48, 58, 48, 48]
def formM : List UInt8 := [48, 48, 48, 48, 45, 48, 48, 45, 48, 48, 84, 48, 48, 58, 48, 48, 58, 48, 48, 45, 48, 48, 58, 48, 48]
theorem likeX_len : ∀ {s form : List UInt8}, likeX s form = true → s.length = form.length
  | [], [], _ => rfl
  | [], _ :: _, h => by simp [likeX] at h
  | _ :: _, [], h => by simp [likeX] at h
  | a :: s, f :: form, h => by
    rw [likeX, Bool.and_eq_true] at h
    rw [List.length_cons, List.length_cons, likeX_len h.2]
theorem likeX_ne {s form : List UInt8} (h : s.length ≠ form.length) : likeX s form = false := Bool.eq_false_iff.2 fun e => h (likeX_len e)
theorem likeX_get : ∀ {s form : List UInt8}, likeX s form = true → ∀ (i : Nat) {f : UInt8}, form[i]? = some f → ∃ x, s[i]? = some x ∧ signX f x = true
  | [], [], _, i, f, hf => by simp at hf
  | [], _ :: _, h, _, _, _ => by simp [likeX] at h
  | _ :: _, [], h, _, _, _ => by simp [likeX] at h
  | a :: s, g :: form, h, 0, f, hf => by
    rw [likeX, Bool.and_eq_true] at h
    simp at hf
    subst hf
    exact ⟨a, rfl, h.1⟩
  | a :: s, g :: form, h, i + 1, f, hf => by
    rw [likeX, Bool.and_eq_true] at h
    rw [List.getElem?_cons_succ] at hf ⊢
    exact likeX_get h.2 i hf
theorem likeX_drop {s form : List UInt8} {k : Nat} {a f : UInt8} (ha : s[k]? = some a) (hf : form[k]? = some f) : likeX (s.drop k) (form.drop k) = (signX f a && likeX (s.drop (k + 1)) (form.drop (k + 1))) := by
  obtain ⟨h1, e1⟩ := List.getElem?_eq_some_iff.1 ha
  obtain ⟨h2, e2⟩ := List.getElem?_eq_some_iff.1 hf
  rw [List.drop_eq_getElem_cons h1, List.drop_eq_getElem_cons h2, likeX, e1, e2]
/-- The number of digits. -/
def valX (l : List UInt8) : Nat := l.foldl (fun n b => n * 10 + (b.toNat - 48)) 0
theorem valX_snoc (l : List UInt8) (b : UInt8) : valX (l ++ [b]) = valX l * 10 + (b.toNat - 48) := by simp [valX]
def fldL (l : List UInt8) (a k : Nat) : List UInt8 := (l.drop a).take k
def fld (l : List UInt8) (a k : Nat) : Int := (valX (fldL l a k) : Int)
theorem fldL_succ {l : List UInt8} {a k : Nat} {x : UInt8} (h : l[a + k]? = some x) : fldL l a (k + 1) = fldL l a k ++ [x] := by
  obtain ⟨h1, e1⟩ := List.getElem?_eq_some_iff.1 h
  unfold fldL
  rw [List.take_succ_eq_append_getElem (by rw [List.length_drop]; omega), List.getElem_drop, e1]
theorem digB_bd {b : UInt8} (h : digB b = true) : 48 ≤ b.toNat ∧ b.toNat ≤ 57 := by simpa [digB] using h
/-- The signs that stand from a on, so many of them, are digits. -/
def Run (l : List UInt8) (a k : Nat) : Prop := ∀ j, j < k → ∃ x, l[a + j]? = some x ∧ digB x = true
theorem run_bd {l : List UInt8} {a : Nat} : ∀ {k : Nat}, Run l a k → valX (fldL l a k) < 10 ^ k
  | 0, _ => by simp [fldL, valX]
  | k + 1, h => by
    obtain ⟨x, hx, hd⟩ := h k (by omega)
    have := run_bd (k := k) (l := l) (a := a) (fun j hj => h j (by omega))
    have := digB_bd hd
    rw [fldL_succ hx, valX_snoc, Nat.pow_succ]
    omega
theorem run_of {l form : List UInt8} (h : likeX l form = true) {a k : Nat} (hf : ∀ j, j < k → form[a + j]? = some 48) : Run l a k := fun j hj => by
  obtain ⟨x, hx, hs⟩ := likeX_get h (a + j) (hf j hj)
  exact ⟨x, hx, hs⟩
/-- No digit stands there. -/
def Ends (l : List UInt8) (a : Nat) : Prop := ∀ x, l[a]? = some x → digB x = false
theorem ends_of {l form : List UInt8} (h : likeX l form = true) {a : Nat} {f : UInt8} (hf : form[a]? = some f) (h48 : f ≠ 48) (hd : digB f = false) : Ends l a := fun x hx => by
  obtain ⟨y, hy, hs⟩ := likeX_get h a hf
  rw [hx] at hy
  injection hy with hy
  subst hy
  rw [signX, if_neg h48] at hs
  rw [beq_iff_eq.1 hs]
  exact hd
theorem ends_len {l form : List UInt8} (h : likeX l form = true) {a : Nat} (hf : form.length ≤ a) : Ends l a := fun x hx => by
  have := likeX_len h
  rw [List.getElem?_eq_none (by omega)] at hx
  cases hx
theorem fld_nil {l : List UInt8} {a : Nat} (h : l.length ≤ a) (k : Nat) : fld l a k = 0 := by
  unfold fld fldL
  rw [List.drop_of_length_le h]
  simp [valX]
/-- What a text tells. -/
def formedX (l : List UInt8) : Bool := likeX l formZ || likeX l formP || likeX l formM
def sgnX (l : List UInt8) : Int := if l[19]? = some 45 then -1 else 1
def dateB (l : List UInt8) : Bool := vldB (fld l 0 4) (fld l 5 2) (fld l 8 2)
def dateN (l : List UInt8) : Int := numD (fld l 0 4) (fld l 5 2) (fld l 8 2)
def clockB (l : List UInt8) : Bool := secB (fld l 11 2) (fld l 14 2) (fld l 17 2)
def zoneB (l : List UInt8) : Bool := secB (fld l 20 2) (fld l 23 2) 0
def parseT (l : List UInt8) : Int := dateN l * 86400 + (fld l 11 2 * 3600 + fld l 14 2 * 60 + fld l 17 2) - sgnX l * (fld l 20 2 * 3600 + fld l 23 2 * 60)
def okX (l : List UInt8) : Bool := dateB l && clockB l && zoneB l && timB (parseT l)
def parseV (l : List UInt8) : Int := if formedX l then (if okX l then parseT l else 0) else 0
def parseE (l : List UInt8) : Int := if formedX l then (if okX l then 0 else 1) else 2
/-- The shape of what is formed. -/
structure Shp (l : List UInt8) : Prop where
  len : 20 ≤ l.length ∧ l.length ≤ 25
  r0 : Run l 0 4
  e0 : Ends l 4
  r5 : Run l 5 2
  e5 : Ends l 7
  r8 : Run l 8 2
  e8 : Ends l 10
  r11 : Run l 11 2
  e11 : Ends l 13
  r14 : Run l 14 2
  e14 : Ends l 16
  r17 : Run l 17 2
  e17 : Ends l 19
  zone : (l.length = 20 ∧ l[19]? = some 90) ∨ (l.length = 25 ∧ (l[19]? = some 43 ∨ l[19]? = some 45) ∧ Run l 20 2 ∧ Ends l 22 ∧ Run l 23 2 ∧ Ends l 25)
theorem sign_get {l form : List UInt8} (h : likeX l form = true) {a : Nat} {f : UInt8} (hf : form[a]? = some f) (h48 : f ≠ 48) : l[a]? = some f := by
  obtain ⟨y, hy, hs⟩ := likeX_get h a hf
  rw [signX, if_neg h48] at hs
  rw [hy, beq_iff_eq.1 hs]
theorem shpZ {l : List UInt8} (h : likeX l formZ = true) : Shp l := by
  have hl := likeX_len h
  have hl' : l.length = 20 := hl
  exact ⟨by omega, run_of h (by decide), ends_of h (f := 45) (by decide) (by decide) (by decide), run_of h (by decide), ends_of h (f := 45) (by decide) (by decide) (by decide), run_of h (by decide), ends_of h (f := 84) (by decide) (by decide) (by decide),
    run_of h (by decide), ends_of h (f := 58) (by decide) (by decide) (by decide), run_of h (by decide), ends_of h (f := 58) (by decide) (by decide) (by decide), run_of h (by decide), ends_of h (f := 90) (by decide) (by decide) (by decide), .inl ⟨hl', sign_get h (by decide) (by decide)⟩⟩
theorem shpP {l : List UInt8} (h : likeX l formP = true) : Shp l := by
  have hl := likeX_len h
  have hl' : l.length = 25 := hl
  exact ⟨by omega, run_of h (by decide), ends_of h (f := 45) (by decide) (by decide) (by decide), run_of h (by decide), ends_of h (f := 45) (by decide) (by decide) (by decide), run_of h (by decide), ends_of h (f := 84) (by decide) (by decide) (by decide),
    run_of h (by decide), ends_of h (f := 58) (by decide) (by decide) (by decide), run_of h (by decide), ends_of h (f := 58) (by decide) (by decide) (by decide), run_of h (by decide), ends_of h (f := 43) (by decide) (by decide) (by decide),
    .inr ⟨hl', .inl (sign_get h (by decide) (by decide)), run_of h (by decide), ends_of h (f := 58) (by decide) (by decide) (by decide), run_of h (by decide), ends_len h (by decide)⟩⟩
theorem shpM {l : List UInt8} (h : likeX l formM = true) : Shp l := by
  have hl := likeX_len h
  have hl' : l.length = 25 := hl
  exact ⟨by omega, run_of h (by decide), ends_of h (f := 45) (by decide) (by decide) (by decide), run_of h (by decide), ends_of h (f := 45) (by decide) (by decide) (by decide), run_of h (by decide), ends_of h (f := 84) (by decide) (by decide) (by decide),
    run_of h (by decide), ends_of h (f := 58) (by decide) (by decide) (by decide), run_of h (by decide), ends_of h (f := 58) (by decide) (by decide) (by decide), run_of h (by decide), ends_of h (f := 45) (by decide) (by decide) (by decide),
    .inr ⟨hl', .inr (sign_get h (by decide) (by decide)), run_of h (by decide), ends_of h (f := 58) (by decide) (by decide) (by decide), run_of h (by decide), ends_len h (by decide)⟩⟩
theorem shp {l : List UInt8} (h : formedX l = true) : Shp l := by
  unfold formedX at h
  rw [Bool.or_eq_true, Bool.or_eq_true] at h
  rcases h with (h | h) | h
  · exact shpZ h
  · exact shpP h
  · exact shpM h
theorem fld_bd2 {l : List UInt8} {a : Nat} (h : Run l a 2) : 0 ≤ fld l a 2 ∧ fld l a 2 ≤ 99 := by
  have := run_bd h
  unfold fld
  omega
theorem fld_bd4 {l : List UInt8} {a : Nat} (h : Run l a 4) : 0 ≤ fld l a 4 ∧ fld l a 4 ≤ 9999 := by
  have := run_bd h
  unfold fld
  omega
theorem Shp.z20 {l : List UInt8} (h : Shp l) : 0 ≤ fld l 20 2 ∧ fld l 20 2 ≤ 99 := by
  rcases h.zone with ⟨h1, _⟩ | ⟨_, _, h2, _⟩
  · rw [fld_nil (by omega)]; omega
  · exact fld_bd2 h2
theorem Shp.z23 {l : List UInt8} (h : Shp l) : 0 ≤ fld l 23 2 ∧ fld l 23 2 ≤ 99 := by
  rcases h.zone with ⟨h1, _⟩ | ⟨_, _, _, _, h2, _⟩
  · rw [fld_nil (by omega)]; omega
  · exact fld_bd2 h2
end Go.Proofs.YtdcakmamdabiaaaDoor
