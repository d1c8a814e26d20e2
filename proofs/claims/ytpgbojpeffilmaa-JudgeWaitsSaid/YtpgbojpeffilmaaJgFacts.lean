/-
  Plain: what the laws say of a status behind a try, and by the time.
-/
import Derived.Test.YtpgbojpeffilmaaProg
import Derived.Test.YtpgbojpeffilmaaJgMath
import Derived.Test.YtpgbojpeffilmaaMaEvA
import Derived.Test.YtpgbojpeffilmaaMaPure
import Derived.Test.YtpgbojpeffilmaaRows
import Derived.Lib.IndexAny
import Derived.Laws.Runes
import Derived.Lib.Small
import Derived.Lib.Bytealg
import Derived.Lib.ItoaNum
import Derived.Lib.Atoi
import Derived.Lib.Join
import Derived.Lib.Strings
import Derived.Lib.TrimByte
import Derived.Lib.IndexMore
import Derived.Lib.AtoiTie
import Derived.WalkKit
import Derived.WalkSpells
import Derived.WalkLawsBesides
import Derived.Deep.QuietTactic
import Derived.BigQuiet
import Derived.StillTailTactics
import Derived.Lib.Hide
import Derived.Maps.AppendAt
import Derived.Deep.AppendLies
import Derived.Deep.RegionWith
import Derived.Deep.RegionHeld3
import Derived.Deep.DeepFit
import Derived.Deep.LoopGhost
import Derived.IntWalk
import Derived.Lib.IndexBytes
import Derived.Laws.BytesString
import Derived.Shelf.Strings.Search1
import Derived.Shelf.Strings.Search2
import Derived.Shelf.Strings.Search3
import Derived.Shelf.LaysM
import Derived.Shelf.Strings.Shaped
import Derived.Shelf.Strings.BuilderK
import Derived.Lib.FrozenHead2
import Derived.Deep.MidRow
import Derived.Laws.ResultCell
import Derived.Laws.RangeAny
namespace Go.Proofs.Ytpgbojpeffilmaa.E.J
set_option maxRecDepth 100000
open Go.RowKit
section
variable {p : PJ} {x : EM} {no : Txt} {k : KJ} {f : Bool} {t : ST} {now o : Int}
theorem rep_st : (repT x no k f t).st = t.st := by unfold repT; split <;> rfl
theorem rep_tr : (repT x no k f t).tr = t.tr := by unfold repT; split <;> rfl
theorem rep_ne : (repT x no k f t).ne = t.ne := by unfold repT; split <;> rfl
theorem rep_pl : (repT x no k f t).pl = t.pl := by unfold repT; split <;> rfl
theorem rep_yes (h : madeJ x no k f t = true) : repT x no k f t = { t with told := t.told + k.bit } ∧ repL x no k f t = [k.name] := by unfold repT repL; rw [if_pos h, if_pos h]; exact ⟨rfl, rfl⟩
theorem rep_no (h : madeJ x no k f t = false) : repT x no k f t = t ∧ repL x no k f t = [] := by unfold repT repL; rw [h]; exact ⟨rfl, rfl⟩
theorem has_more {n b : Int} (hb : 0 < b) (h : hasB n b = false) : hasB (n + b) b = true := by
  unfold hasB at *
  have e : (n + b) / b = n / b + 1 := by rw [Int.add_ediv_of_dvd_right (Int.dvd_refl b), Int.ediv_self (by omega)]
  rw [e]
  simp only [beq_eq_false_iff_ne, ne_eq, beq_iff_eq] at *
  omega
theorem kbit (h : kindB4 k) : 0 < k.bit := by rcases h with rfl | rfl | rfl | rfl <;> decide
theorem made_has (h : madeJ x no k f t = true) : hasB t.told k.bit = false := by
  unfold madeJ at h
  simp only [Bool.and_eq_true, Bool.not_eq_true'] at h
  exact h.2.1
theorem made_not (h : hasB t.told k.bit = true) : madeJ x no k f t = false := by unfold madeJ; rw [h]; simp
/-- Once made, it is made no more. -/
theorem rep_again (hk : kindB4 k) : madeJ x no k f (repT x no k f t) = false := by
  cases h : madeJ x no k f t with
  | false => rw [(rep_no h).1]; exact h
  | true =>
    rw [(rep_yes h).1]
    exact made_not (has_more (kbit hk) (made_has h))
theorem pass_pl : (passT p x no now t).pl = t.pl := by unfold passT; split <;> (try split) <;> (try split) <;> first | rfl | rw [rep_pl]
theorem pass_tr : (passT p x no now t).tr = t.tr := by unfold passT; split <;> (try split) <;> (try split) <;> first | rfl | rw [rep_tr]
theorem pass_ne : (passT p x no now t).ne = t.ne := by unfold passT; split <;> (try split) <;> (try split) <;> first | rfl | rw [rep_ne]
theorem pass_st : (passT p x no now t).st = if overJ p x now then [70] else t.st := by
  unfold passT
  split
  · rw [rep_st]
  · split
    · rw [rep_st]
    · split
      · rw [rep_st]
      · rfl
theorem may_zero (hp : okP p = true) (hn : 0 ≤ now ∧ now ≤ 1099511627776) (hs : t.st = [82]) (hl : 0 ≤ t.pl ∧ t.pl < x.rc.length) : mayJ p x t now = 0 := by
  unfold mayJ
  rw [if_neg (by rw [hp, inI_iff.2 hn]; decide), if_neg]
  rw [hs, inI_iff.2 (by omega)]; decide
theorem may_state (hp : okP p = true) (hn : 0 ≤ now ∧ now ≤ 1099511627776) (hs : t.st ≠ [82]) : mayJ p x t now = 9 := by
  unfold mayJ
  rw [if_neg (by rw [hp, inI_iff.2 hn]; decide), if_pos]
  rw [beq_eq_false_iff_ne.2 hs]; rfl
theorem over_iff : overJ p x now = true ↔ bkJ x now = true ∨ expJ p x ≤ now := by unfold overJ; simp
/- The alarm. -/
theorem alarm_le (hs : t.st = [82]) : alarmJ p x t ≤ t.ne ∧ alarmJ p x t ≤ expJ p x ∧ (x.m.hb = true → (quietJ t = true ∨ backB x.m.mode = true) → alarmJ p x t ≤ dlJ x) ∧ (quietJ t = true → alarmJ p x t ≤ warJ p x) := by
  unfold alarmJ
  rw [if_neg (by rw [hs]; decide)]
  simp only
  cases x.m.hb <;> cases quietJ t <;> cases backB x.m.mode <;> simp <;> omega
theorem alarm_gt (hs : t.st = [82]) {n : Int} (h1 : n < t.ne) (h2 : n < expJ p x) (h3 : x.m.hb = true → (quietJ t = true ∨ backB x.m.mode = true) → n < dlJ x) (h4 : quietJ t = true → n < warJ p x) : n < alarmJ p x t := by
  unfold alarmJ
  rw [if_neg (by rw [hs]; decide)]
  simp only
  revert h3 h4
  cases x.m.hb <;> cases quietJ t <;> cases backB x.m.mode <;> simp <;> omega
theorem come_iff : comeJ x now = true ↔ x.m.hb = true ∧ dlJ x ≤ now := by unfold comeJ; simp
theorem quiet_no (h : quietJ t = false) (no : Txt) (f : Bool) : madeJ x no kD f t = false := made_not (show hasB t.told 1 = true by unfold quietJ at h; simpa using h)
/-- Ahead of the alarm nothing is done. -/
theorem alarm_ahead (hs : t.st = [82]) (h : now < alarmJ p x t) : passT p x no now t = t ∧ passL p x no now t = [] := by
  obtain ⟨a1, a2, a3, a4⟩ := alarm_le (p := p) (x := x) hs
  have ho : overJ p x now = false := by
    rw [Bool.eq_false_iff]
    intro e
    rcases over_iff.1 e with e | e
    · unfold bkJ at e
      rw [Bool.and_eq_true, come_iff] at e
      have := a3 e.1.1 (.inr e.2)
      omega
    · omega
  unfold passT passL
  rw [ho]
  simp only [Bool.false_eq_true, if_false]
  cases hq : quietJ t with
  | true =>
    have hc : comeJ x now = false := by
      rw [Bool.eq_false_iff]
      intro e
      have := come_iff.1 e
      have := a3 this.1 (.inl hq)
      omega
    have hw : ¬ warJ p x ≤ now := by have := a4 hq; omega
    rw [hc]
    simp [hw]
  | false =>
    rw [(rep_no (quiet_no hq no true)).1, (rep_no (quiet_no hq no true)).2, (rep_no (quiet_no hq no false)).1, (rep_no (quiet_no hq no false)).2]
    constructor <;> (split <;> (try split) <;> rfl)
theorem over_alarm (hs : t.st = [82]) (h : overJ p x now = true) : alarmJ p x t ≤ now := by
  obtain ⟨a1, a2, a3, a4⟩ := alarm_le (p := p) (x := x) hs
  rcases over_iff.1 h with e | e
  · unfold bkJ at e
    rw [Bool.and_eq_true, come_iff] at e
    have := a3 e.1.1 (.inr e.2)
    omega
  · omega
/-- Asked again at the same time. -/
theorem pass_again (h : overJ p x now = false) : passT p x no now (passT p x no now t) = passT p x no now t ∧ passL p x no now (passT p x no now t) = [] := by
  have e : ∀ u, passT p x no now u = (if comeJ x now then repT x no kD true u else if warJ p x ≤ now then repT x no kD false u else u) ∧ passL p x no now u = (if comeJ x now then repL x no kD true u else if warJ p x ≤ now then repL x no kD false u else []) := fun u => by
    unfold passT passL
    rw [h]
    simp
  rw [(e t).1, (e _).1, (e _).2]
  have k1 := rep_no (rep_again (x := x) (no := no) (f := true) (t := t) (.inl rfl : kindB4 kD))
  have k2 := rep_no (rep_again (x := x) (no := no) (f := false) (t := t) (.inl rfl : kindB4 kD))
  cases hc : comeJ x now
  · by_cases hw : warJ p x ≤ now
    · simp only [Bool.false_eq_true, if_false, if_pos hw]; exact k2
    · simp only [Bool.false_eq_true, if_false, if_neg hw, and_self]
  · simp only [if_true]; exact k1
theorem has_next {n b : Int} (hb : b = 1) (h : hasB n b = true) : hasB n 1 = true := by rw [hb] at h; exact h
/-- The alarm moves on. -/
theorem alarm_on (hs : t.st = [82]) (h : overJ p x now = false) : alarmJ p x t ≤ alarmJ p x (passT p x no now t) ∧ ((no == [] && !(nullJ x)) = true → now < (passT p x no now t).ne → now < alarmJ p x (passT p x no now t)) := by
  have e : passT p x no now t = (if comeJ x now then repT x no kD true t else if warJ p x ≤ now then repT x no kD false t else t) := by
    unfold passT
    rw [h]
    simp
  have hst : (passT p x no now t).st = [82] := by rw [pass_st, h]; exact hs
  have hexp : now < expJ p x := by
    rw [Bool.eq_false_iff] at h
    rcases Int.lt_or_le now (expJ p x) with g | g
    · exact g
    · exact absurd (over_iff.2 (.inr g)) h
  have hbk : x.m.hb = true → backB x.m.mode = true → now < dlJ x := fun h1 h2 => by
    rw [Bool.eq_false_iff] at h
    have := fun g => h (over_iff.2 (.inl g))
    unfold bkJ at this
    rw [Bool.and_eq_true, come_iff] at this
    have h3 : ¬ dlJ x ≤ now := fun g => this ⟨⟨h1, g⟩, h2⟩
    omega
  have key : passT p x no now t = t ∨ (quietJ t = true ∧ quietJ (passT p x no now t) = false ∧ (passT p x no now t).ne = t.ne) := by
    have g : ∀ f, repT x no kD f t = t ∨ (quietJ t = true ∧ quietJ (repT x no kD f t) = false ∧ (repT x no kD f t).ne = t.ne) := fun f => by
      cases hm : madeJ x no kD f t with
      | false => exact .inl (rep_no hm).1
      | true =>
        have h1 := made_has hm
        rw [(rep_yes hm).1]
        refine .inr ⟨by unfold quietJ; rw [show hasB t.told 1 = false from h1]; rfl, ?_, rfl⟩
        unfold quietJ
        rw [show hasB (t.told + kD.bit) 1 = true from has_more (by decide) h1]
        rfl
    rw [e]
    split
    · exact g true
    · split
      · exact g false
      · exact .inl rfl
  constructor
  · rcases key with k1 | ⟨k1, k2, k3⟩
    · rw [k1]; exact Int.le_refl _
    · obtain ⟨a1, a2, a3, a4⟩ := alarm_le (p := p) (x := x) hs
      rcases Int.lt_or_le (alarmJ p x (passT p x no now t)) (alarmJ p x t) with hl | hl
      · exfalso
        have := alarm_gt (p := p) (x := x) hst (n := alarmJ p x t - 1) (by rw [k3]; omega) (by omega) (fun g1 g2 => by have := a3 g1 (.inl k1); omega) (fun g => by rw [k2] at g; cases g)
        omega
      · exact hl
  · intro hq hne
    rw [Bool.and_eq_true, Bool.not_eq_true'] at hq
    have hno : no = [] := by simpa using hq.1
    refine alarm_gt hst hne hexp (fun g1 g2 => ?_) (fun g => ?_)
    · rcases g2 with g2 | g2
      · rcases Int.lt_or_le now (dlJ x) with hl | hl
        · exact hl
        · exfalso
          rw [e, come_iff.2 ⟨g1, hl⟩] at g2
          simp only [if_true] at g2
          cases hm : madeJ x no kD true t with
          | false =>
            rw [(rep_no hm).1] at g2
            unfold madeJ askJ at hm
            rw [hq.2, hno] at hm
            unfold quietJ at g2
            rw [show hasB t.told kD.bit = false from (by simpa using g2 : hasB t.told 1 = false)] at hm
            cases hm
          | true =>
            rw [(rep_yes hm).1] at g2
            unfold quietJ at g2
            rw [show hasB (t.told + kD.bit) 1 = true from has_more (by decide) (made_has hm)] at g2
            cases g2
      · exact hbk g1 g2
    · rcases Int.lt_or_le now (warJ p x) with hl | hl
      · exact hl
      · exfalso
        have gen : ∀ f, (askJ kD no f = true) → quietJ (repT x no kD f t) = true → False := fun f ha g => by
          cases hm : madeJ x no kD f t with
          | false =>
            rw [(rep_no hm).1] at g
            unfold madeJ at hm
            rw [hq.2, ha] at hm
            unfold quietJ at g
            rw [show hasB t.told kD.bit = false from (by simpa using g : hasB t.told 1 = false)] at hm
            cases hm
          | true =>
            rw [(rep_yes hm).1] at g
            unfold quietJ at g
            rw [show hasB (t.told + kD.bit) 1 = true from has_more (by decide) (made_has hm)] at g
            cases g
        rw [e] at g
        split at g
        · exact gen true (by rw [hno]; rfl) g
        · first
            | rw [if_pos hl] at g
            | skip
          exact gen false (by rw [hno]; rfl) g
/- Outcomes. -/
theorem try_1 (h : mayJ p x t now = 0) (ho : ¬ (o = 2 ∨ o = 3 ∨ o = 5 ∨ o = 4 ∨ o = 0)) : tryE p x t now o = 10 := by unfold tryE; rw [if_pos h, if_neg ho]
theorem try_0 (h : mayJ p x t now = 0) (ho : o = 2 ∨ o = 3 ∨ o = 5 ∨ o = 4 ∨ o = 0) : tryE p x t now o = 0 := by unfold tryE; rw [if_pos h, if_pos ho]
theorem try_end (h : mayJ p x t now = 0) {s : Txt} (ho : (o = 2 ∧ s = [68]) ∨ (o = 3 ∧ s = [71]) ∨ (o = 5 ∧ s = [70])) : (tryT p x t now o).st = s ∧ (tryT p x t now o).tr = min t.tr 999 + 1 ∧ (tryT p x t now o).ne = t.ne ∧ (tryT p x t now o).pl = t.pl := by
  unfold tryT
  rw [if_pos h]
  rcases ho with ⟨rfl, rfl⟩ | ⟨rfl, rfl⟩ | ⟨rfl, rfl⟩ <;> simp [rep_st, rep_tr, rep_ne, rep_pl, endT, tr1]
theorem try_later (h : mayJ p x t now = 0) (ho : o = 4 ∨ o = 0) : tryT p x t now o = passT p x (noJ x t) now (laterT p now t) ∧ tryL p x t now o = passL p x (noJ x t) now (laterT p now t) := by
  unfold tryT tryL
  rw [if_pos h, if_pos h]
  rcases ho with rfl | rfl <;> simp
end
end Go.Proofs.Ytpgbojpeffilmaa.E.J
