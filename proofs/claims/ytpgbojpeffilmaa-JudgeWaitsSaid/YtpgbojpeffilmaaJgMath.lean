/-
  Plain: a plan, its waits; what becomes of a status by a try, by the time; what is reported; no memory.
-/
import Derived.Test.YtpgbojpeffilmaaProg
import Derived.Test.YtpgbojpeffilmaaMaEvA
import Derived.Test.YtpgbojpeffilmaaMaPure
import Derived.Test.YtpgbojpeffilmaaPtMath
import Derived.Test.YtpgbojpeffilmaaRows
import Derived.Lib.IndexAny
import Derived.Laws.Runes
import Derived.Lib.Small
import Derived.Lib.Bytealg
import Derived.Lib.ItoaNum
import Derived.Lib.Atoi
import Derived.Lib.Join
import Derived.Lib.Strings
import Derived.Lib.TrimByte
import Derived.Lib.IndexMore
import Derived.Lib.AtoiTie
import Derived.WalkKit
import Derived.WalkSpells
import Derived.WalkLawsBesides
import Derived.Deep.QuietTactic
import Derived.BigQuiet
import Derived.StillTailTactics
import Derived.Lib.Hide
import Derived.Maps.AppendAt
import Derived.Deep.AppendLies
import Derived.Deep.RegionWith
import Derived.Deep.RegionHeld3
import Derived.Deep.DeepFit
import Derived.Deep.LoopGhost
import Derived.IntWalk
import Derived.Lib.IndexBytes
import Derived.Laws.BytesString
import Derived.Shelf.Strings.Search1
import Derived.Shelf.Strings.Search2
import Derived.Shelf.Strings.Search3
import Derived.Shelf.LaysM
import Derived.Shelf.Strings.Shaped
import Derived.Shelf.Strings.BuilderK
import Derived.Lib.FrozenHead2
import Derived.Deep.MidRow
import Derived.Laws.ResultCell
import Derived.Laws.RangeAny
namespace Go.Proofs.Ytpgbojpeffilmaa.E.J
set_option maxRecDepth 100000
open Go.RowKit
structure PJ where
  base : Int
  most : Int
  life : Int
  warn : Int
def okP (p : PJ) : Bool := inI p.most 1 1048576 && (inI p.base 1 p.most && (inI p.life 1 1073741824 && inI p.warn 1 1073741824))
theorem inI_iff {n a b : Int} : inI n a b = true ↔ a ≤ n ∧ n ≤ b := by simp [inI]
theorem okP_iff {p : PJ} : okP p = true ↔ (1 ≤ p.most ∧ p.most ≤ 1048576) ∧ (1 ≤ p.base ∧ p.base ≤ p.most) ∧ (1 ≤ p.life ∧ p.life ≤ 1073741824) ∧ 1 ≤ p.warn ∧ p.warn ≤ 1073741824 := by
  unfold okP
  simp only [Bool.and_eq_true, inI_iff]
/-- How often a wait is doubled. -/
def dblJ (tries : Int) : Nat := (min (max tries 1 - 1) 63).toNat
def waitJ (p : PJ) (tries : Int) : Int := min (p.base * 2 ^ dblJ tries) p.most
theorem dbl_le (t : Int) : dblJ t ≤ 63 := by unfold dblJ; omega
theorem pow_pos2 (k : Nat) : (1 : Int) ≤ 2 ^ k := by
  induction k with
  | zero => decide
  | succ k ih => rw [Int.pow_succ]; omega
theorem mul_pos1 {b : Int} (h : 1 ≤ b) (k : Nat) : b ≤ b * 2 ^ k := by
  have h1 := Int.mul_le_mul_of_nonneg_left (pow_pos2 k) (show (0 : Int) ≤ b by omega)
  rw [Int.mul_one] at h1
  exact h1
theorem mul_grow {b : Int} (h : 1 ≤ b) (k j : Nat) : b * 2 ^ k ≤ b * 2 ^ (k + j) := by
  rw [Int.pow_add, ← Int.mul_assoc]
  have h0 := mul_pos1 h k
  exact mul_pos1 (by omega) j
theorem waitJ_lo {p : PJ} (h : okP p = true) (t : Int) : p.base ≤ waitJ p t ∧ waitJ p t ≤ p.most := by
  obtain ⟨_, ⟨h1, h2⟩, _⟩ := okP_iff.1 h
  have := mul_pos1 h1 (dblJ t)
  unfold waitJ
  omega
theorem waitJ_next {p : PJ} (h : okP p = true) {t : Int} (h1 : 1 ≤ t) : waitJ p t ≤ waitJ p (t + 1) ∧ (waitJ p (t + 1) = p.most ∨ waitJ p (t + 1) = 2 * waitJ p t) := by
  obtain ⟨⟨m1, m2⟩, ⟨b1, b2⟩, _⟩ := okP_iff.1 h
  unfold waitJ
  by_cases hd : t ≤ 63
  · have e : dblJ (t + 1) = dblJ t + 1 := by unfold dblJ; omega
    have e2 : p.base * 2 ^ (dblJ t + 1) = 2 * (p.base * 2 ^ dblJ t) := by rw [Int.pow_succ, ← Int.mul_assoc, Int.mul_comm]
    rw [e, e2]
    have := mul_pos1 b1 (dblJ t)
    omega
  · have e1 : dblJ (t + 1) = 63 := by unfold dblJ; omega
    have e2 : dblJ t = 63 := by unfold dblJ; omega
    rw [e1, e2]
    have := Int.mul_le_mul_of_nonneg_right b1 (show (0 : Int) ≤ 2 ^ 63 by decide)
    have e3 : (2 : Int) ^ 63 = 9223372036854775808 := by decide
    rw [e3] at this ⊢
    omega
theorem waitJ_one {p : PJ} (h : okP p = true) : waitJ p 1 = p.base := by
  obtain ⟨_, ⟨b1, b2⟩, _⟩ := okP_iff.1 h
  have e : dblJ 1 = 0 := by decide
  unfold waitJ
  rw [e, Int.pow_zero, Int.mul_one]
  omega
theorem waitJ_40 {p : PJ} (h : okP p = true) : waitJ p 40 = p.most := by
  obtain ⟨⟨m1, m2⟩, ⟨b1, b2⟩, _⟩ := okP_iff.1 h
  have e : dblJ 40 = 39 := by decide
  unfold waitJ
  rw [e]
  have e3 : (2 : Int) ^ 39 = 549755813888 := by decide
  rw [e3]
  omega
/-- The loop: doubled k times it is at most the longest. -/
theorem wait_stop {p : PJ} (h : okP p = true) {k n : Nat} (hk : k < n) (hw : p.most / 2 < p.base * 2 ^ k) : min (p.base * 2 ^ n) p.most = p.most := by
  obtain ⟨_, ⟨b1, _⟩, _⟩ := okP_iff.1 h
  obtain ⟨j, rfl⟩ : ∃ j, n = k + 1 + j := ⟨n - (k + 1), by omega⟩
  have h1 := mul_grow b1 (k + 1) j
  have e2 : p.base * 2 ^ (k + 1) = 2 * (p.base * 2 ^ k) := by rw [Int.pow_succ, ← Int.mul_assoc, Int.mul_comm]
  omega
theorem wait_dbl {b : Int} (k : Nat) : b * 2 ^ (k + 1) = 2 * (b * 2 ^ k) := by rw [Int.pow_succ, ← Int.mul_assoc, Int.mul_comm]
/- What may be reported. -/
structure KJ where
  name : Txt
  bit : Int
  c : UInt8
  un : Bool
def kD : KJ := ⟨[100, 101, 108, 97, 121, 101, 100], 1, 68, true⟩
def kF : KJ := ⟨[102, 97, 105, 108, 101, 100], 2, 70, true⟩
def kS : KJ := ⟨[100, 101, 108, 105, 118, 101, 114, 101, 100], 4, 83, false⟩
def kG : KJ := ⟨[114, 101, 108, 97, 121, 101, 100], 4, 83, false⟩
def kindB4 (k : KJ) : Prop := k = kD ∨ k = kF ∨ k = kS ∨ k = kG
def hasB (told bit : Int) : Bool := told / bit % 2 == 1
def askJ (k : KJ) (no : Txt) (f : Bool) : Bool := !(no == [78]) && (f || (if no == [] then k.un else no.contains k.c))
def nullJ (x : EM) : Bool := P.nullB x.fr
def madeJ (x : EM) (no : Txt) (k : KJ) (f : Bool) (t : ST) : Bool := !(nullJ x) && (!(hasB t.told k.bit) && askJ k no f)
def repT (x : EM) (no : Txt) (k : KJ) (f : Bool) (t : ST) : ST := if madeJ x no k f t then { t with told := t.told + k.bit } else t
def repL (x : EM) (no : Txt) (k : KJ) (f : Bool) (t : ST) : List Txt := if madeJ x no k f t then [k.name] else []
def backB (s : Txt) : Bool := s == [82] || s == [82, 84]
def expJ (p : PJ) (x : EM) : Int := x.at_ + p.life
def dlJ (x : EM) : Int := x.at_ + x.m.by_
def warJ (p : PJ) (x : EM) : Int := x.at_ + p.warn
def comeJ (x : EM) (now : Int) : Bool := x.m.hb && decide (dlJ x ≤ now)
def bkJ (x : EM) (now : Int) : Bool := comeJ x now && backB x.m.mode
def overJ (p : PJ) (x : EM) (now : Int) : Bool := bkJ x now || decide (expJ p x ≤ now)
def passT (p : PJ) (x : EM) (no : Txt) (now : Int) (t : ST) : ST :=
  if overJ p x now then repT x no kF (bkJ x now) { t with st := [70] }
  else if comeJ x now then repT x no kD true t
  else if warJ p x ≤ now then repT x no kD false t else t
def passL (p : PJ) (x : EM) (no : Txt) (now : Int) (t : ST) : List Txt :=
  if overJ p x now then repL x no kF (bkJ x now) { t with st := [70] }
  else if comeJ x now then repL x no kD true t
  else if warJ p x ≤ now then repL x no kD false t else []
def mayJ (p : PJ) (x : EM) (t : ST) (now : Int) : Int := if (okP p && inI now 0 1099511627776) = false then 1 else if (t.st == [82] && inI t.pl 0 ((x.rc.length : Int) - 1)) = false then 9 else 0
def noJ (x : EM) (t : ST) : Txt := (x.rc.getD t.pl.toNat ⟨([], []), zeroR⟩).r.no
def tr1 (t : ST) : ST := { t with tr := min t.tr 999 + 1 }
def laterT (p : PJ) (now : Int) (t : ST) : ST := { tr1 t with ne := now + waitJ p (min t.tr 999 + 1) }
def endT (t : ST) (s : Txt) : ST := { tr1 t with st := s }
def tryE (p : PJ) (x : EM) (t : ST) (now o : Int) : Int := if mayJ p x t now = 0 then (if o = 2 ∨ o = 3 ∨ o = 5 ∨ o = 4 ∨ o = 0 then 0 else 10) else mayJ p x t now
def tryT (p : PJ) (x : EM) (t : ST) (now o : Int) : ST :=
  if mayJ p x t now = 0 then
    (if o = 2 then repT x (noJ x t) kS false (endT t [68]) else if o = 3 then repT x (noJ x t) kG false (endT t [71]) else if o = 5 then repT x (noJ x t) kF false (endT t [70])
     else if o = 4 ∨ o = 0 then passT p x (noJ x t) now (laterT p now t) else zeroT)
  else zeroT
def tryL (p : PJ) (x : EM) (t : ST) (now o : Int) : List Txt :=
  if mayJ p x t now = 0 then
    (if o = 2 then repL x (noJ x t) kS false (endT t [68]) else if o = 3 then repL x (noJ x t) kG false (endT t [71]) else if o = 5 then repL x (noJ x t) kF false (endT t [70])
     else if o = 4 ∨ o = 0 then passL p x (noJ x t) now (laterT p now t) else [])
  else []
def timeT (p : PJ) (x : EM) (t : ST) (now : Int) : ST := if mayJ p x t now = 0 then passT p x (noJ x t) now t else zeroT
def timeL (p : PJ) (x : EM) (t : ST) (now : Int) : List Txt := if mayJ p x t now = 0 then passL p x (noJ x t) now t else []
def quietJ (t : ST) : Bool := !(hasB t.told 1)
def alarmJ (p : PJ) (x : EM) (t : ST) : Int :=
  if (t.st == [82]) = false then 0 else
    let f1 := min t.ne (expJ p x)
    let f2 := if x.m.hb && (quietJ t || backB x.m.mode) then min f1 (dlJ x) else f1
    if quietJ t then min f2 (warJ p x) else f2
/-- Numbers that may be added. -/
structure BdJ (x : EM) : Prop where
  at_ : 0 ≤ x.at_ ∧ x.at_ ≤ 1099511627776
  by_ : x.m.hb = true → -999999999 ≤ x.m.by_ ∧ x.m.by_ ≤ 999999999
end Go.Proofs.Ytpgbojpeffilmaa.E.J
