/-
  JgMath · JgFacts · JgSmall, in one text.
-/
import Derived.Test.YtcedhgihebollaaGreatDoorMaEvA
import Derived.Test.YtcedhgihebollaaGreatDoorPtMath
/-
  Plain: a plan, its waits; what becomes of a status by a try, by the time; what is reported; no memory.
-/
namespace Go.Proofs.YtcedhgihebollaaGreatDoor.E.J
set_option maxRecDepth 100000
open Go.RowKit
structure PJ where
  base : Int
  most : Int
  life : Int
  warn : Int
def okP (p : PJ) : Bool := inI p.most 1 1048576 && (inI p.base 1 p.most && (inI p.life 1 1073741824 && inI p.warn 1 1073741824))
theorem inI_iff {n a b : Int} : inI n a b = true ↔ a ≤ n ∧ n ≤ b := by simp [inI]
theorem okP_iff {p : PJ} : okP p = true ↔ (1 ≤ p.most ∧ p.most ≤ 1048576) ∧ (1 ≤ p.base ∧ p.base ≤ p.most) ∧ (1 ≤ p.life ∧ p.life ≤ 1073741824) ∧ 1 ≤ p.warn ∧ p.warn ≤ 1073741824 := by
  unfold okP
  simp only [Bool.and_eq_true, inI_iff]
/-- How often a wait is doubled. -/
def dblJ (tries : Int) : Nat := (min (max tries 1 - 1) 63).toNat
def waitJ (p : PJ) (tries : Int) : Int := min (p.base * 2 ^ dblJ tries) p.most
theorem dbl_le (t : Int) : dblJ t ≤ 63 := by unfold dblJ; omega
theorem pow_pos2 (k : Nat) : (1 : Int) ≤ 2 ^ k := by
  induction k with
  | zero => decide
  | succ k ih => rw [Int.pow_succ]; omega
theorem mul_pos1 {b : Int} (h : 1 ≤ b) (k : Nat) : b ≤ b * 2 ^ k := by
  have h1 := Int.mul_le_mul_of_nonneg_left (pow_pos2 k) (show (0 : Int) ≤ b by omega)
  rw [Int.mul_one] at h1
  exact h1
theorem mul_grow {b : Int} (h : 1 ≤ b) (k j : Nat) : b * 2 ^ k ≤ b * 2 ^ (k + j) := by
  rw [Int.pow_add, ← Int.mul_assoc]
  have h0 := mul_pos1 h k
  exact mul_pos1 (by omega) j
theorem waitJ_lo {p : PJ} (h : okP p = true) (t : Int) : p.base ≤ waitJ p t ∧ waitJ p t ≤ p.most := by
  obtain ⟨_, ⟨h1, h2⟩, _⟩ := okP_iff.1 h
  have := mul_pos1 h1 (dblJ t)
  unfold waitJ
  omega
theorem waitJ_next {p : PJ} (h : okP p = true) {t : Int} (h1 : 1 ≤ t) : waitJ p t ≤ waitJ p (t + 1) ∧ (waitJ p (t + 1) = p.most ∨ waitJ p (t + 1) = 2 * waitJ p t) := by
  obtain ⟨⟨m1, m2⟩, ⟨b1, b2⟩, _⟩ := okP_iff.1 h
  unfold waitJ
  by_cases hd : t ≤ 63
  · have e : dblJ (t + 1) = dblJ t + 1 := by unfold dblJ; omega
    have e2 : p.base * 2 ^ (dblJ t + 1) = 2 * (p.base * 2 ^ dblJ t) := by rw [Int.pow_succ, ← Int.mul_assoc, Int.mul_comm]
    rw [e, e2]
    have := mul_pos1 b1 (dblJ t)
    omega
  · have e1 : dblJ (t + 1) = 63 := by unfold dblJ; omega
    have e2 : dblJ t = 63 := by unfold dblJ; omega
    rw [e1, e2]
    have := Int.mul_le_mul_of_nonneg_right b1 (show (0 : Int) ≤ 2 ^ 63 by decide)
    have e3 : (2 : Int) ^ 63 = 9223372036854775808 := by decide
    rw [e3] at this ⊢
    omega
theorem waitJ_one {p : PJ} (h : okP p = true) : waitJ p 1 = p.base := by
  obtain ⟨_, ⟨b1, b2⟩, _⟩ := okP_iff.1 h
  have e : dblJ 1 = 0 := by decide
  unfold waitJ
  rw [e, Int.pow_zero, Int.mul_one]
  omega
theorem waitJ_40 {p : PJ} (h : okP p = true) : waitJ p 40 = p.most := by
  obtain ⟨⟨m1, m2⟩, ⟨b1, b2⟩, _⟩ := okP_iff.1 h
  have e : dblJ 40 = 39 := by decide
  unfold waitJ
  rw [e]
  have e3 : (2 : Int) ^ 39 = 549755813888 := by decide
  rw [e3]
  omega
/-- The loop: doubled k times it is at most the longest. -/
theorem wait_stop {p : PJ} (h : okP p = true) {k n : Nat} (hk : k < n) (hw : p.most / 2 < p.base * 2 ^ k) : min (p.base * 2 ^ n) p.most = p.most := by
  obtain ⟨_, ⟨b1, _⟩, _⟩ := okP_iff.1 h
  obtain ⟨j, rfl⟩ : ∃ j, n = k + 1 + j := ⟨n - (k + 1), by omega⟩
  have h1 := mul_grow b1 (k + 1) j
  have e2 : p.base * 2 ^ (k + 1) = 2 * (p.base * 2 ^ k) := by rw [Int.pow_succ, ← Int.mul_assoc, Int.mul_comm]
  omega
theorem wait_dbl {b : Int} (k : Nat) : b * 2 ^ (k + 1) = 2 * (b * 2 ^ k) := by rw [Int.pow_succ, ← Int.mul_assoc, Int.mul_comm]
/- What may be reported. -/
structure KJ where
  name : Txt
  bit : Int
  c : UInt8
  un : Bool
def kD : KJ := ⟨[100, 101, 108, 97, 121, 101, 100], 1, 68, true⟩
def kF : KJ := ⟨[102, 97, 105, 108, 101, 100], 2, 70, true⟩
def kS : KJ := ⟨[100, 101, 108, 105, 118, 101, 114, 101, 100], 4, 83, false⟩
def kG : KJ := ⟨[114, 101, 108, 97, 121, 101, 100], 4, 83, false⟩
def kindB4 (k : KJ) : Prop := k = kD ∨ k = kF ∨ k = kS ∨ k = kG
def hasB (told bit : Int) : Bool := told / bit % 2 == 1
def askJ (k : KJ) (no : Txt) (f : Bool) : Bool := !(no == [78]) && (f || (if no == [] then k.un else no.contains k.c))
def nullJ (x : EM) : Bool := P.nullB x.fr
def madeJ (x : EM) (no : Txt) (k : KJ) (f : Bool) (t : ST) : Bool := !(nullJ x) && (!(hasB t.told k.bit) && askJ k no f)
def repT (x : EM) (no : Txt) (k : KJ) (f : Bool) (t : ST) : ST := if madeJ x no k f t then { t with told := t.told + k.bit } else t
def repL (x : EM) (no : Txt) (k : KJ) (f : Bool) (t : ST) : List Txt := if madeJ x no k f t then [k.name] else []
def backB (s : Txt) : Bool := s == [82] || s == [82, 84]
def expJ (p : PJ) (x : EM) : Int := x.at_ + p.life
def dlJ (x : EM) : Int := x.at_ + x.m.by_
def warJ (p : PJ) (x : EM) : Int := x.at_ + p.warn
def comeJ (x : EM) (now : Int) : Bool := x.m.hb && decide (dlJ x ≤ now)
def bkJ (x : EM) (now : Int) : Bool := comeJ x now && backB x.m.mode
def overJ (p : PJ) (x : EM) (now : Int) : Bool := bkJ x now || decide (expJ p x ≤ now)
def passT (p : PJ) (x : EM) (no : Txt) (now : Int) (t : ST) : ST :=
  if overJ p x now then repT x no kF (bkJ x now) { t with st := [70] }
  else if comeJ x now then repT x no kD true t
  else if warJ p x ≤ now then repT x no kD false t else t
def passL (p : PJ) (x : EM) (no : Txt) (now : Int) (t : ST) : List Txt :=
  if overJ p x now then repL x no kF (bkJ x now) { t with st := [70] }
  else if comeJ x now then repL x no kD true t
  else if warJ p x ≤ now then repL x no kD false t else []
def mayJ (p : PJ) (x : EM) (t : ST) (now : Int) : Int := if (okP p && inI now 0 1099511627776) = false then 1 else if (t.st == [82] && inI t.pl 0 ((x.rc.length : Int) - 1)) = false then 9 else 0
def noJ (x : EM) (t : ST) : Txt := (x.rc.getD t.pl.toNat ⟨([], []), zeroR⟩).r.no
def tr1 (t : ST) : ST := { t with tr := min t.tr 999 + 1 }
def laterT (p : PJ) (now : Int) (t : ST) : ST := { tr1 t with ne := now + waitJ p (min t.tr 999 + 1) }
def endT (t : ST) (s : Txt) : ST := { tr1 t with st := s }
def tryE (p : PJ) (x : EM) (t : ST) (now o : Int) : Int := if mayJ p x t now = 0 then (if o = 2 ∨ o = 3 ∨ o = 5 ∨ o = 4 ∨ o = 0 then 0 else 10) else mayJ p x t now
def tryT (p : PJ) (x : EM) (t : ST) (now o : Int) : ST :=
  if mayJ p x t now = 0 then
    (if o = 2 then repT x (noJ x t) kS false (endT t [68]) else if o = 3 then repT x (noJ x t) kG false (endT t [71]) else if o = 5 then repT x (noJ x t) kF false (endT t [70])
     else if o = 4 ∨ o = 0 then passT p x (noJ x t) now (laterT p now t) else zeroT)
  else zeroT
def tryL (p : PJ) (x : EM) (t : ST) (now o : Int) : List Txt :=
  if mayJ p x t now = 0 then
    (if o = 2 then repL x (noJ x t) kS false (endT t [68]) else if o = 3 then repL x (noJ x t) kG false (endT t [71]) else if o = 5 then repL x (noJ x t) kF false (endT t [70])
     else if o = 4 ∨ o = 0 then passL p x (noJ x t) now (laterT p now t) else [])
  else []
def timeT (p : PJ) (x : EM) (t : ST) (now : Int) : ST := if mayJ p x t now = 0 then passT p x (noJ x t) now t else zeroT
def timeL (p : PJ) (x : EM) (t : ST) (now : Int) : List Txt := if mayJ p x t now = 0 then passL p x (noJ x t) now t else []
def quietJ (t : ST) : Bool := !(hasB t.told 1)
def alarmJ (p : PJ) (x : EM) (t : ST) : Int :=
  if (t.st == [82]) = false then 0 else
    let f1 := min t.ne (expJ p x)
    let f2 := if x.m.hb && (quietJ t || backB x.m.mode) then min f1 (dlJ x) else f1
    if quietJ t then min f2 (warJ p x) else f2
/-- Numbers that may be added. -/
structure BdJ (x : EM) : Prop where
  at_ : 0 ≤ x.at_ ∧ x.at_ ≤ 1099511627776
  by_ : x.m.hb = true → -999999999 ≤ x.m.by_ ∧ x.m.by_ ≤ 999999999
end Go.Proofs.YtcedhgihebollaaGreatDoor.E.J
/-
  Plain: what the laws say of a status behind a try, and by the time.
-/
namespace Go.Proofs.YtcedhgihebollaaGreatDoor.E.J
set_option maxRecDepth 100000
open Go.RowKit
section
variable {p : PJ} {x : EM} {no : Txt} {k : KJ} {f : Bool} {t : ST} {now o : Int}
theorem rep_st : (repT x no k f t).st = t.st := by unfold repT; split <;> rfl
theorem rep_tr : (repT x no k f t).tr = t.tr := by unfold repT; split <;> rfl
theorem rep_ne : (repT x no k f t).ne = t.ne := by unfold repT; split <;> rfl
theorem rep_pl : (repT x no k f t).pl = t.pl := by unfold repT; split <;> rfl
theorem rep_yes (h : madeJ x no k f t = true) : repT x no k f t = { t with told := t.told + k.bit } ∧ repL x no k f t = [k.name] := by unfold repT repL; rw [if_pos h, if_pos h]; exact ⟨rfl, rfl⟩
theorem rep_no (h : madeJ x no k f t = false) : repT x no k f t = t ∧ repL x no k f t = [] := by unfold repT repL; rw [h]; exact ⟨rfl, rfl⟩
theorem has_more {n b : Int} (hb : 0 < b) (h : hasB n b = false) : hasB (n + b) b = true := by
  unfold hasB at *
  have e : (n + b) / b = n / b + 1 := by rw [Int.add_ediv_of_dvd_right (Int.dvd_refl b), Int.ediv_self (by omega)]
  rw [e]
  simp only [beq_eq_false_iff_ne, ne_eq, beq_iff_eq] at *
  omega
theorem kbit (h : kindB4 k) : 0 < k.bit := by rcases h with rfl | rfl | rfl | rfl <;> decide
theorem made_has (h : madeJ x no k f t = true) : hasB t.told k.bit = false := by
  unfold madeJ at h
  simp only [Bool.and_eq_true, Bool.not_eq_true'] at h
  exact h.2.1
theorem made_not (h : hasB t.told k.bit = true) : madeJ x no k f t = false := by unfold madeJ; rw [h]; simp
/-- Once made, it is made no more. -/
theorem rep_again (hk : kindB4 k) : madeJ x no k f (repT x no k f t) = false := by
  cases h : madeJ x no k f t with
  | false => rw [(rep_no h).1]; exact h
  | true =>
    rw [(rep_yes h).1]
    exact made_not (has_more (kbit hk) (made_has h))
theorem pass_pl : (passT p x no now t).pl = t.pl := by unfold passT; split <;> (try split) <;> (try split) <;> first | rfl | rw [rep_pl]
theorem pass_tr : (passT p x no now t).tr = t.tr := by unfold passT; split <;> (try split) <;> (try split) <;> first | rfl | rw [rep_tr]
theorem pass_ne : (passT p x no now t).ne = t.ne := by unfold passT; split <;> (try split) <;> (try split) <;> first | rfl | rw [rep_ne]
theorem pass_st : (passT p x no now t).st = if overJ p x now then [70] else t.st := by
  unfold passT
  split
  · rw [rep_st]
  · split
    · rw [rep_st]
    · split
      · rw [rep_st]
      · rfl
theorem may_zero (hp : okP p = true) (hn : 0 ≤ now ∧ now ≤ 1099511627776) (hs : t.st = [82]) (hl : 0 ≤ t.pl ∧ t.pl < x.rc.length) : mayJ p x t now = 0 := by
  unfold mayJ
  rw [if_neg (by rw [hp, inI_iff.2 hn]; decide), if_neg]
  rw [hs, inI_iff.2 (by omega)]; decide
theorem may_state (hp : okP p = true) (hn : 0 ≤ now ∧ now ≤ 1099511627776) (hs : t.st ≠ [82]) : mayJ p x t now = 9 := by
  unfold mayJ
  rw [if_neg (by rw [hp, inI_iff.2 hn]; decide), if_pos]
  rw [beq_eq_false_iff_ne.2 hs]; rfl
theorem over_iff : overJ p x now = true ↔ bkJ x now = true ∨ expJ p x ≤ now := by unfold overJ; simp
/- The alarm. -/
theorem alarm_le (hs : t.st = [82]) : alarmJ p x t ≤ t.ne ∧ alarmJ p x t ≤ expJ p x ∧ (x.m.hb = true → (quietJ t = true ∨ backB x.m.mode = true) → alarmJ p x t ≤ dlJ x) ∧ (quietJ t = true → alarmJ p x t ≤ warJ p x) := by
  unfold alarmJ
  rw [if_neg (by rw [hs]; decide)]
  simp only
  cases x.m.hb <;> cases quietJ t <;> cases backB x.m.mode <;> simp <;> omega
theorem alarm_gt (hs : t.st = [82]) {n : Int} (h1 : n < t.ne) (h2 : n < expJ p x) (h3 : x.m.hb = true → (quietJ t = true ∨ backB x.m.mode = true) → n < dlJ x) (h4 : quietJ t = true → n < warJ p x) : n < alarmJ p x t := by
  unfold alarmJ
  rw [if_neg (by rw [hs]; decide)]
  simp only
  revert h3 h4
  cases x.m.hb <;> cases quietJ t <;> cases backB x.m.mode <;> simp <;> omega
theorem come_iff : comeJ x now = true ↔ x.m.hb = true ∧ dlJ x ≤ now := by unfold comeJ; simp
theorem quiet_no (h : quietJ t = false) (no : Txt) (f : Bool) : madeJ x no kD f t = false := made_not (show hasB t.told 1 = true by unfold quietJ at h; simpa using h)
/-- Ahead of the alarm nothing is done. -/
theorem alarm_ahead (hs : t.st = [82]) (h : now < alarmJ p x t) : passT p x no now t = t ∧ passL p x no now t = [] := by
  obtain ⟨a1, a2, a3, a4⟩ := alarm_le (p := p) (x := x) hs
  have ho : overJ p x now = false := by
    rw [Bool.eq_false_iff]
    intro e
    rcases over_iff.1 e with e | e
    · unfold bkJ at e
      rw [Bool.and_eq_true, come_iff] at e
      have := a3 e.1.1 (.inr e.2)
      omega
    · omega
  unfold passT passL
  rw [ho]
  simp only [Bool.false_eq_true, if_false]
  cases hq : quietJ t with
  | true =>
    have hc : comeJ x now = false := by
      rw [Bool.eq_false_iff]
      intro e
      have := come_iff.1 e
      have := a3 this.1 (.inl hq)
      omega
    have hw : ¬ warJ p x ≤ now := by have := a4 hq; omega
    rw [hc]
    simp [hw]
  | false =>
    rw [(rep_no (quiet_no hq no true)).1, (rep_no (quiet_no hq no true)).2, (rep_no (quiet_no hq no false)).1, (rep_no (quiet_no hq no false)).2]
    constructor <;> (split <;> (try split) <;> rfl)
theorem over_alarm (hs : t.st = [82]) (h : overJ p x now = true) : alarmJ p x t ≤ now := by
  obtain ⟨a1, a2, a3, a4⟩ := alarm_le (p := p) (x := x) hs
  rcases over_iff.1 h with e | e
  · unfold bkJ at e
    rw [Bool.and_eq_true, come_iff] at e
    have := a3 e.1.1 (.inr e.2)
    omega
  · omega
/-- Asked again at the same time. -/
theorem pass_again (h : overJ p x now = false) : passT p x no now (passT p x no now t) = passT p x no now t ∧ passL p x no now (passT p x no now t) = [] := by
  have e : ∀ u, passT p x no now u = (if comeJ x now then repT x no kD true u else if warJ p x ≤ now then repT x no kD false u else u) ∧ passL p x no now u = (if comeJ x now then repL x no kD true u else if warJ p x ≤ now then repL x no kD false u else []) := fun u => by
    unfold passT passL
    rw [h]
    simp
  rw [(e t).1, (e _).1, (e _).2]
  have k1 := rep_no (rep_again (x := x) (no := no) (f := true) (t := t) (.inl rfl : kindB4 kD))
  have k2 := rep_no (rep_again (x := x) (no := no) (f := false) (t := t) (.inl rfl : kindB4 kD))
  cases hc : comeJ x now
  · by_cases hw : warJ p x ≤ now
    · simp only [Bool.false_eq_true, if_false, if_pos hw]; exact k2
    · simp only [Bool.false_eq_true, if_false, if_neg hw, and_self]
  · simp only [if_true]; exact k1
theorem has_next {n b : Int} (hb : b = 1) (h : hasB n b = true) : hasB n 1 = true := by rw [hb] at h; exact h
/-- The alarm moves on. -/
theorem alarm_on (hs : t.st = [82]) (h : overJ p x now = false) : alarmJ p x t ≤ alarmJ p x (passT p x no now t) ∧ ((no == [] && !(nullJ x)) = true → now < (passT p x no now t).ne → now < alarmJ p x (passT p x no now t)) := by
  have e : passT p x no now t = (if comeJ x now then repT x no kD true t else if warJ p x ≤ now then repT x no kD false t else t) := by
    unfold passT
    rw [h]
    simp
  have hst : (passT p x no now t).st = [82] := by rw [pass_st, h]; exact hs
  have hexp : now < expJ p x := by
    rw [Bool.eq_false_iff] at h
    rcases Int.lt_or_le now (expJ p x) with g | g
    · exact g
    · exact absurd (over_iff.2 (.inr g)) h
  have hbk : x.m.hb = true → backB x.m.mode = true → now < dlJ x := fun h1 h2 => by
    rw [Bool.eq_false_iff] at h
    have := fun g => h (over_iff.2 (.inl g))
    unfold bkJ at this
    rw [Bool.and_eq_true, come_iff] at this
    have h3 : ¬ dlJ x ≤ now := fun g => this ⟨⟨h1, g⟩, h2⟩
    omega
  have key : passT p x no now t = t ∨ (quietJ t = true ∧ quietJ (passT p x no now t) = false ∧ (passT p x no now t).ne = t.ne) := by
    have g : ∀ f, repT x no kD f t = t ∨ (quietJ t = true ∧ quietJ (repT x no kD f t) = false ∧ (repT x no kD f t).ne = t.ne) := fun f => by
      cases hm : madeJ x no kD f t with
      | false => exact .inl (rep_no hm).1
      | true =>
        have h1 := made_has hm
        rw [(rep_yes hm).1]
        refine .inr ⟨by unfold quietJ; rw [show hasB t.told 1 = false from h1]; rfl, ?_, rfl⟩
        unfold quietJ
        rw [show hasB (t.told + kD.bit) 1 = true from has_more (by decide) h1]
        rfl
    rw [e]
    split
    · exact g true
    · split
      · exact g false
      · exact .inl rfl
  constructor
  · rcases key with k1 | ⟨k1, k2, k3⟩
    · rw [k1]; exact Int.le_refl _
    · obtain ⟨a1, a2, a3, a4⟩ := alarm_le (p := p) (x := x) hs
      rcases Int.lt_or_le (alarmJ p x (passT p x no now t)) (alarmJ p x t) with hl | hl
      · exfalso
        have := alarm_gt (p := p) (x := x) hst (n := alarmJ p x t - 1) (by rw [k3]; omega) (by omega) (fun g1 g2 => by have := a3 g1 (.inl k1); omega) (fun g => by rw [k2] at g; cases g)
        omega
      · exact hl
  · intro hq hne
    rw [Bool.and_eq_true, Bool.not_eq_true'] at hq
    have hno : no = [] := by simpa using hq.1
    refine alarm_gt hst hne hexp (fun g1 g2 => ?_) (fun g => ?_)
    · rcases g2 with g2 | g2
      · rcases Int.lt_or_le now (dlJ x) with hl | hl
        · exact hl
        · exfalso
          rw [e, come_iff.2 ⟨g1, hl⟩] at g2
          simp only [if_true] at g2
          cases hm : madeJ x no kD true t with
          | false =>
            rw [(rep_no hm).1] at g2
            unfold madeJ askJ at hm
            rw [hq.2, hno] at hm
            unfold quietJ at g2
            rw [show hasB t.told kD.bit = false from (by simpa using g2 : hasB t.told 1 = false)] at hm
            cases hm
          | true =>
            rw [(rep_yes hm).1] at g2
            unfold quietJ at g2
            rw [show hasB (t.told + kD.bit) 1 = true from has_more (by decide) (made_has hm)] at g2
            cases g2
      · exact hbk g1 g2
    · rcases Int.lt_or_le now (warJ p x) with hl | hl
      · exact hl
      · exfalso
        have gen : ∀ f, (askJ kD no f = true) → quietJ (repT x no kD f t) = true → False := fun f ha g => by
          cases hm : madeJ x no kD f t with
          | false =>
            rw [(rep_no hm).1] at g
            unfold madeJ at hm
            rw [hq.2, ha] at hm
            unfold quietJ at g
            rw [show hasB t.told kD.bit = false from (by simpa using g : hasB t.told 1 = false)] at hm
            cases hm
          | true =>
            rw [(rep_yes hm).1] at g
            unfold quietJ at g
            rw [show hasB (t.told + kD.bit) 1 = true from has_more (by decide) (made_has hm)] at g
            cases g
        rw [e] at g
        split at g
        · exact gen true (by rw [hno]; rfl) g
        · first
            | rw [if_pos hl] at g
            | skip
          exact gen false (by rw [hno]; rfl) g
/- Outcomes. -/
theorem try_1 (h : mayJ p x t now = 0) (ho : ¬ (o = 2 ∨ o = 3 ∨ o = 5 ∨ o = 4 ∨ o = 0)) : tryE p x t now o = 10 := by unfold tryE; rw [if_pos h, if_neg ho]
theorem try_0 (h : mayJ p x t now = 0) (ho : o = 2 ∨ o = 3 ∨ o = 5 ∨ o = 4 ∨ o = 0) : tryE p x t now o = 0 := by unfold tryE; rw [if_pos h, if_pos ho]
theorem try_end (h : mayJ p x t now = 0) {s : Txt} (ho : (o = 2 ∧ s = [68]) ∨ (o = 3 ∧ s = [71]) ∨ (o = 5 ∧ s = [70])) : (tryT p x t now o).st = s ∧ (tryT p x t now o).tr = min t.tr 999 + 1 ∧ (tryT p x t now o).ne = t.ne ∧ (tryT p x t now o).pl = t.pl := by
  unfold tryT
  rw [if_pos h]
  rcases ho with ⟨rfl, rfl⟩ | ⟨rfl, rfl⟩ | ⟨rfl, rfl⟩ <;> simp [rep_st, rep_tr, rep_ne, rep_pl, endT, tr1]
theorem try_later (h : mayJ p x t now = 0) (ho : o = 4 ∨ o = 0) : tryT p x t now o = passT p x (noJ x t) now (laterT p now t) ∧ tryL p x t now o = passL p x (noJ x t) now (laterT p now t) := by
  unfold tryT tryL
  rw [if_pos h, if_pos h]
  rcases ho with rfl | rfl <;> simp
end
end Go.Proofs.YtcedhgihebollaaGreatDoor.E.J
/-
  The walks of judge's small functions: within, Right, Wait, sum, Expires, warned, Deadline, returned, kinds, asked.
-/
namespace Go.Proofs.YtcedhgihebollaaGreatDoor.E.J
set_option maxRecDepth 100000
open Go.RowKit Go.Shelf
abbrev plA (p : PJ) : Value := .agg #[.int .i64 p.base, .int .i64 p.most, .int .i64 p.life, .int .i64 p.warn]
theorem jwithin_x (n a b : Int) (w : World) : Calls Tryz.prog 22 #[.int .i64 n, .int .i64 a, .int .i64 b] w fun e w' => e = .returned (.bool (inI n a b)) ∧ w = w' := by
  unfold inI
  cases h1 : decide (a ≤ n) <;> cases h2 : decide (n ≤ b)
  all_goals
    go_enter Tryz.func22, Tryz.ntmps22
    go_wp2_with fail
    go_ret
    exact ⟨rfl, rfl⟩
set_option maxHeartbeats 4000000 in
theorem jright_x (p : PJ) (w : World) : Calls Tryz.prog 9 #[plA p] w fun e w' => e = .returned (.int .i64 (if okP p then 0 else 1)) ∧ Below w.heap.size w w' := by
  have H1 := Lib.hid (fun w => jwithin_x p.most 1 1048576 w)
  have H2 := Lib.hid (fun w => jwithin_x p.base 1 p.most w)
  have H3 := Lib.hid (fun w => jwithin_x p.life 1 1073741824 w)
  have H4 := Lib.hid (fun w => jwithin_x p.warn 1 1073741824 w)
  have HB := Lib.hid (below_box w (.cells #[.int .i64 p.base, .int .i64 p.most, .int .i64 p.life, .int .i64 p.warn] 23))
  unfold okP plA
  generalize inI p.most 1 1048576 = q1 at H1 ⊢
  generalize inI p.base 1 p.most = q2 at H2 ⊢
  generalize inI p.life 1 1073741824 = q3 at H3 ⊢
  generalize inI p.warn 1 1073741824 = q4 at H4 ⊢
  cases q1
  · go_enter Tryz.func9, Tryz.ntmps9
    go_wp2_with (first | (go_at_call 22; (with_reducible refine (H1.out _).mono ?_); rintro e w' ⟨rfl, rfl⟩))
    go_ret
    exact ⟨rfl, HB.out⟩
  · cases q2
    · go_enter Tryz.func9, Tryz.ntmps9
      go_wp2_with (first | (go_at_call 22; (with_reducible refine (H1.out _).mono ?_); rintro e w' ⟨rfl, rfl⟩) | (go_at_call 22; (with_reducible refine (H2.out _).mono ?_); rintro e w' ⟨rfl, rfl⟩))
      go_ret
      exact ⟨rfl, HB.out⟩
    · cases q3
      · go_enter Tryz.func9, Tryz.ntmps9
        go_wp2_with (first | (go_at_call 22; (with_reducible refine (H1.out _).mono ?_); rintro e w' ⟨rfl, rfl⟩) | (go_at_call 22; (with_reducible refine (H2.out _).mono ?_); rintro e w' ⟨rfl, rfl⟩) | (go_at_call 22; (with_reducible refine (H3.out _).mono ?_); rintro e w' ⟨rfl, rfl⟩))
        go_ret
        exact ⟨rfl, HB.out⟩
      · cases q4
        all_goals
          go_enter Tryz.func9, Tryz.ntmps9
          go_wp2_with (first | (go_at_call 22; (with_reducible refine (H1.out _).mono ?_); rintro e w' ⟨rfl, rfl⟩) | (go_at_call 22; (with_reducible refine (H2.out _).mono ?_); rintro e w' ⟨rfl, rfl⟩) | (go_at_call 22; (with_reducible refine (H3.out _).mono ?_); rintro e w' ⟨rfl, rfl⟩) | (go_at_call 22; (with_reducible refine (H4.out _).mono ?_); rintro e w' ⟨rfl, rfl⟩))
          go_ret
          exact ⟨rfl, HB.out⟩
set_option maxHeartbeats 4000000 in
theorem jsum_x (a b : Int) (w : World) (ha : -4000000000000000000 ≤ a ∧ a ≤ 4000000000000000000) (hb : -4000000000000000000 ≤ b ∧ b ≤ 4000000000000000000) :
    Calls Tryz.prog 27 #[.int .i64 a, .int .i64 b] w fun e w' => e = .returned (.int .i64 (a + b)) ∧ w = w' := by
  have q1 : IntKind.i64.wrap (9223372036854775807 - b) = 9223372036854775807 - b ∨ b ≤ 0 := by
    by_cases h : b ≤ 0
    · exact .inr h
    · exact .inl (IntWalk.i64_in _ (by omega))
  have q2 : IntKind.i64.wrap (-9223372036854775808 - b) = -9223372036854775808 - b ∨ 0 ≤ b := by
    by_cases h : 0 ≤ b
    · exact .inr h
    · exact .inl (IntWalk.i64_in _ (by omega))
  have q3 : IntKind.i64.wrap (a + b) = a + b := IntWalk.i64_in _ (by omega)
  by_cases h0 : 0 < b
  · have d1 : decide (0 < b) = true := decide_eq_true h0
    have q4 : IntKind.i64.wrap (9223372036854775807 - b) = 9223372036854775807 - b := q1.resolve_right (by omega)
    have d2 : decide (9223372036854775807 - b < a) = false := decide_eq_false (by omega)
    have d3 : decide (b < 0) = false := decide_eq_false (by omega)
    clear q1 q2
    go_enter Tryz.func27, Tryz.ntmps27
    go_wp2_with fail
    go_ret
    exact ⟨rfl, rfl⟩
  · have d1 : decide (0 < b) = false := decide_eq_false h0
    by_cases h1 : b < 0
    · have d3 : decide (b < 0) = true := decide_eq_true h1
      have q4 : IntKind.i64.wrap (-9223372036854775808 - b) = -9223372036854775808 - b := q2.resolve_right (by omega)
      have d2 : decide (a < -9223372036854775808 - b) = false := decide_eq_false (by omega)
      clear q1 q2
      go_enter Tryz.func27, Tryz.ntmps27
      go_wp2_with fail
      go_ret
      exact ⟨rfl, rfl⟩
    · have d3 : decide (b < 0) = false := decide_eq_false h1
      clear q1 q2
      go_enter Tryz.func27, Tryz.ntmps27
      go_wp2_with fail
      go_ret
      exact ⟨rfl, rfl⟩
set_option maxHeartbeats 8000000 in
theorem jwait_x (p : PJ) (t : Int) (w : World) (hp : okP p = true) (h1 : -1000000000000 ≤ t) (h2 : t ≤ 1000000000000) :
    Calls Tryz.prog 18 #[plA p, .int .i64 t] w fun e w' => e = .returned (.int .i64 (waitJ p t)) ∧ Below w.heap.size w w' := by
  have HB := Lib.hid (below_box w (.cells #[.int .i64 p.base, .int .i64 p.most, .int .i64 p.life, .int .i64 p.warn] 23))
  have HN := Lib.hid (newOf w (.cells #[.int .i64 p.base, .int .i64 p.most, .int .i64 p.life, .int .i64 p.warn] 23))
  obtain ⟨⟨m1, m2⟩, ⟨b1, b2⟩, _⟩ := okP_iff.1 hp
  obtain ⟨n, hn⟩ : ∃ n, dblJ t = n := ⟨_, rfl⟩
  have hn2 : min (max t 1 - 1) 63 = (n : Int) := by rw [← hn]; unfold dblJ; omega
  have hn3 : n ≤ 63 := by rw [← hn]; exact dbl_le t
  have HWJ := Lib.hid (show waitJ p t = min (p.base * 2 ^ n) p.most by unfold waitJ; rw [hn])
  have q1 : IntKind.i64.wrap (max t 1 - 1) = max t 1 - 1 := IntWalk.i64_in _ (by omega)
  have q2 : p.most.tdiv 2 = p.most / 2 := Int.tdiv_eq_ediv_of_nonneg (by omega)
  have q3 : IntKind.i64.wrap (p.most / 2) = p.most / 2 := IntWalk.i64_in _ (by omega)
  have q4 : max (p.most / 2) 0 = p.most / 2 := by omega
  have HP := Lib.hid hp
  clear hn hp
  unfold plA
  go_enter Tryz.func18, Tryz.ntmps18
  go_wp2_with fail
  go_loop [5, 12] (fun wv iv => ∃ k : Nat, k ≤ n ∧ iv = .int .i64 k ∧ wv = .int .i64 (p.base * 2 ^ k) ∧ Hid (p.base * 2 ^ k ≤ p.most)) (fun _ iv => n - (intOf iv).toNat)
  case atStart => exact ⟨0, Nat.zero_le _, rfl, by simp, Lib.hid (by simpa using b2)⟩
  case round =>
    obtain ⟨k, hk, rfl, rfl, HK⟩ := hrel
    have hbk := mul_pos1 b1 k
    have HPW := Lib.hid (show p.base * 2 ^ (k + 1) = 2 * (p.base * 2 ^ k) from wait_dbl k)
    have HST := Lib.hid (fun (hk : k < n) (hw : p.most / 2 < p.base * 2 ^ k) => wait_stop HP.out hk hw)
    have HEN := Lib.hid (fun (e : k = n) => show waitJ p t = min (p.base * 2 ^ k) p.most by rw [HWJ.out, e])
    have hkm := HK.out
    generalize p.base * 2 ^ k = x at *
    have q5 : max x (-4611686018427387904) = x := by omega
    by_cases hlt : k < n
    · have d1 : decide ((k : Int) < (n : Int)) = true := decide_eq_true (by omega)
      by_cases hw : p.most / 2 < x
      · have d2 : decide (p.most / 2 < x) = true := decide_eq_true hw
        have HE := Lib.hid (HWJ.out.trans (HST.out hlt hw))
        clear hw hkm HST
        go_wp2_with fail
        go_ret
        exact ⟨ret_int HE.out.symm, HB.out⟩
      · have d2 : decide (p.most / 2 < x) = false := decide_eq_false hw
        have q6 : IntKind.i64.wrap (2 * x) = 2 * x := IntWalk.i64_in _ (by omega)
        have HM := Lib.hid (show 2 * x ≤ p.most by omega)
        clear hw hkm HST
        go_wp2_with fail
        go_round
        case rel => exact ⟨k + 1, by omega, by go_num, by rw [HPW.out], Lib.hid (by rw [HPW.out]; exact HM.out)⟩
        case measure => simp [intOf]; omega
    · have HE := Lib.hid (HEN.out (by omega))
      obtain rfl : k = n := by omega
      have d1 : decide ((k : Int) < (k : Int)) = false := decide_eq_false (by omega)
      clear HST HEN
      go_wp2_with fail
      go_ret
      exact ⟨ret_int HE.out.symm, HB.out⟩
end Go.Proofs.YtcedhgihebollaaGreatDoor.E.J
