/-
  Plain: what was told, as three bits and as a map of counts.
-/
import Derived.Test.YtcedhgihebollaaGreatDoorJgFactB
import Derived.Test.YtcedhgihebollaaGreatDoorMaPaD
namespace Go.Proofs.YtcedhgihebollaaGreatDoor.E.J
set_option maxRecDepth 100000
open Go.RowKit Go.Shelf
def bitsJ (a b c : Bool) : Int := (if a then 1 else 0) + (if b then 2 else 0) + (if c then 4 else 0)
def one1 : Value := .int .i64 1
def mF (a b c : Bool) : Txt → Option Value := fun n => if n = kD.name then (if a then some one1 else none) else if n = kF.name then (if b then some one1 else none) else if n = kS.name then (if c then some one1 else none) else none
/-- A kind's name, relayed told as delivered. -/
def mrgJ (k : KJ) : Txt := if k.name = kG.name then kS.name else k.name
theorem bits_le (a b c : Bool) : 0 ≤ bitsJ a b c ∧ bitsJ a b c ≤ 7 := by cases a <;> cases b <;> cases c <;> decide
theorem upd_if (g : Txt → Option Value) (k : Txt) (v : Value) (n : Txt) : updF g k v n = if n = k then some v else g n := rfl
theorem once_step {a b c : Bool} {k : KJ} (hk : kindB4 k) (h : hasB (bitsJ a b c) k.bit = false) : ∃ a' b' c', bitsJ a b c + k.bit = bitsJ a' b' c' ∧ mF a b c (mrgJ k) = none ∧ ∀ n, updF (mF a b c) (mrgJ k) one1 n = mF a' b' c' n := by
  have hu := upd_if
  rcases hk with rfl | rfl | rfl | rfl
  · have ha : a = false := by revert h; cases a <;> cases b <;> cases c <;> decide
    subst ha
    refine ⟨true, b, c, by cases b <;> cases c <;> decide, rfl, fun n => ?_⟩
    rw [hu]; unfold mF; rw [show mrgJ kD = kD.name from rfl]
    by_cases h1 : n = kD.name
    · rw [if_pos h1, if_pos h1]; rfl
    · rw [if_neg h1, if_neg h1, if_neg h1]
  · have hb : b = false := by revert h; cases a <;> cases b <;> cases c <;> decide
    subst hb
    refine ⟨a, true, c, by cases a <;> cases c <;> decide, rfl, fun n => ?_⟩
    rw [hu]; unfold mF; rw [show mrgJ kF = kF.name from rfl]
    by_cases h1 : n = kF.name
    · subst h1; rfl
    · rw [if_neg h1, if_neg h1, if_neg h1]
  all_goals
    have hc : c = false := by revert h; cases a <;> cases b <;> cases c <;> decide
    subst hc
    refine ⟨a, b, true, by cases a <;> cases b <;> decide, rfl, fun n => ?_⟩
    rw [hu]
    unfold mF
    by_cases h1 : n = kS.name
    · subst h1; rfl
    · have h2 : ¬ n = mrgJ kS := h1
      have h3 : ¬ n = mrgJ kG := h1
      simp only [if_neg h1, if_neg h2, if_neg h3]
section
variable {p : PJ} {x : EM} {t T : ST} {now o : Int}
/-- Behind the time's end nobody is R. -/
theorem time_open (h : mayJ p x t now = 0) (hs : (timeT p x t now).st = [82]) : now < expJ p x := by
  unfold timeT at hs
  rw [if_pos h, pass_st] at hs
  split at hs
  · exact absurd hs (by decide)
  · rename_i ho
    rcases Int.lt_or_le now (expJ p x) with g | g
    · exact g
    · exact absurd (over_iff.2 (.inr g)) ho
theorem try_open (h : mayJ p x t now = 0) (he : tryE p x t now o = 0) (hs : (tryT p x t now o).st = [82]) : now < expJ p x := by
  by_cases hl : o = 4 ∨ o = 0
  · rw [(try_later h hl).1, pass_st] at hs
    split at hs
    · exact absurd hs (by decide)
    · rename_i ho
      rcases Int.lt_or_le now (expJ p x) with g | g
      · exact g
      · exact absurd (over_iff.2 (.inr g)) ho
  · by_cases ho : o = 2 ∨ o = 3 ∨ o = 5
    · exfalso
      rcases ho with rfl | rfl | rfl
      · rw [(try_end h (.inl ⟨rfl, rfl⟩)).1] at hs; exact absurd hs (by decide)
      · rw [(try_end h (.inr (.inl ⟨rfl, rfl⟩))).1] at hs; exact absurd hs (by decide)
      · rw [(try_end h (.inr (.inr ⟨rfl, rfl⟩))).1] at hs; exact absurd hs (by decide)
    · exfalso
      have := try_1 (p := p) (x := x) (t := t) (now := now) (o := o) h (by omega)
      omega
theorem try_count (h : mayJ p x t now = 0) (ht : t.tr ≤ 900) (ho : o = 0 ∨ (2 ≤ o ∧ o ≤ 5)) : tryE p x t now o = 0 ∧ (tryT p x t now o).tr = t.tr + 1 ∧ (tryT p x t now o).pl = t.pl := by
  have e : min t.tr 999 + 1 = t.tr + 1 := by omega
  have hc : (o = 4 ∨ o = 0) ∨ o = 2 ∨ o = 3 ∨ o = 5 := by omega
  rcases hc with hl | hl | hl | hl
  · refine ⟨try_0 h (by omega), ?_, ?_⟩
    · rw [(try_later h hl).1, pass_tr]; show min t.tr 999 + 1 = _; exact e
    · rw [(try_later h hl).1, pass_pl]; rfl
  · have k := try_end (p := p) (x := x) (t := t) (now := now) (o := o) h (.inl ⟨hl, rfl⟩)
    exact ⟨try_0 h (by omega), k.2.1.trans e, k.2.2.2⟩
  · have k := try_end (p := p) (x := x) (t := t) (now := now) (o := o) h (.inr (.inl ⟨hl, rfl⟩))
    exact ⟨try_0 h (by omega), k.2.1.trans e, k.2.2.2⟩
  · have k := try_end (p := p) (x := x) (t := t) (now := now) (o := o) h (.inr (.inr ⟨hl, rfl⟩))
    exact ⟨try_0 h (by omega), k.2.1.trans e, k.2.2.2⟩
theorem time_same (h : mayJ p x t now = 0) : (timeT p x t now).tr = t.tr ∧ (timeT p x t now).ne = t.ne ∧ (timeT p x t now).pl = t.pl := by
  unfold timeT
  rw [if_pos h]
  exact ⟨pass_tr, pass_ne, pass_pl⟩
/-- What the law asks of a step. -/
def AF (p : PJ) (x : EM) (t T : ST) (L : List Txt) (now : Int) : Prop := (t.st ≠ [82] → L = []) ∧ (t.st = [82] → SaidJ x (noJ x t) true t T L ∧ T.pl = t.pl ∧ 0 ≤ T.tr ∧ T.tr ≤ t.tr + 1 ∧ (T.st = [82] → now < expJ p x))
theorem said_true {no : Txt} {F : Bool} {L : List Txt} (h : SaidJ x no F t T L) : SaidJ x no true t T L := by
  rcases h with h | ⟨k, f, h1, h2, h3, h4, h5, h6, h7, h8⟩
  · exact .inl h
  · exact .inr ⟨k, f, h1, h2, h3, h4, h5, h6, fun e => ⟨rfl, (h7 e).2⟩, h8⟩
theorem try_af (hp : okP p = true) (hn : 0 ≤ now ∧ now ≤ 1099511627776) (hl : 0 ≤ t.pl ∧ t.pl < x.rc.length) (h0 : 0 ≤ t.tr ∧ t.tr ≤ 900) (ho : o = 0 ∨ (2 ≤ o ∧ o ≤ 5)) : AF p x t (tryT p x t now o) (tryL p x t now o) now ∧ (t.st = [82] → tryE p x t now o = 0 ∧ (tryT p x t now o).tr = t.tr + 1) ∧ (t.st ≠ [82] → tryE p x t now o = 9) := by
  refine ⟨⟨fun h => ?_, fun h => ?_⟩, fun h => ?_, fun h => ?_⟩
  · have hm := may_state (p := p) (x := x) (t := t) hp hn h
    unfold tryL
    rw [if_neg (by rw [hm]; decide)]
  · have hm := may_zero (p := p) (x := x) (t := t) hp hn h hl
    have hc := try_count hm h0.2 ho
    refine ⟨?_, hc.2.2, by rw [hc.2.1]; omega, by rw [hc.2.1]; omega, try_open hm hc.1⟩
    rcases try_said (o := o) hm with hs | hs
    · exact said_true hs
    · rw [hc.1] at hs; exact absurd hs (by decide)
  · have hm := may_zero (p := p) (x := x) (t := t) hp hn h hl
    have hc := try_count hm h0.2 ho
    exact ⟨hc.1, hc.2.1⟩
  · have hm := may_state (p := p) (x := x) (t := t) hp hn h
    unfold tryE
    rw [if_neg (by rw [hm]; decide), hm]
theorem time_af (hp : okP p = true) (hn : 0 ≤ now ∧ now ≤ 1099511627776) (hl : 0 ≤ t.pl ∧ t.pl < x.rc.length) (h0 : 0 ≤ t.tr ∧ t.tr ≤ 900) : AF p x t (timeT p x t now) (timeL p x t now) now ∧ (t.st = [82] → mayJ p x t now = 0 ∧ (timeT p x t now).tr = t.tr ∧ (timeT p x t now).ne = t.ne) ∧ (t.st ≠ [82] → mayJ p x t now = 9) := by
  refine ⟨⟨fun h => ?_, fun h => ?_⟩, fun h => ?_, fun h => may_state hp hn h⟩
  · have hm := may_state (p := p) (x := x) (t := t) hp hn h
    unfold timeL
    rw [if_neg (by rw [hm]; decide)]
  · have hm := may_zero (p := p) (x := x) (t := t) hp hn h hl
    have hs := time_same hm
    exact ⟨time_said hm, hs.2.2, by rw [hs.1]; omega, by rw [hs.1]; omega, time_open hm⟩
  · have hm := may_zero (p := p) (x := x) (t := t) hp hn h hl
    have hs := time_same hm
    exact ⟨hm, hs.1, hs.2.1⟩
end
end Go.Proofs.YtcedhgihebollaaGreatDoor.E.J
