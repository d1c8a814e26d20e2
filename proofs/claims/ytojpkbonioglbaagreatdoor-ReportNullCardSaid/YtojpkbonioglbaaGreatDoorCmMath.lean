/-
  Plain mathematics: what a client's line tells, how it is said, and there and back (no model).
-/
import Derived.Test.YtojpkbonioglbaaGreatDoorMaPure
import Derived.Test.YtojpkbonioglbaaGreatDoorPtMath
import Derived.Test.YtojpkbonioglbaaGreatDoorPtDom
import Derived.Lib.TrimByte
namespace Go.Proofs.YtojpkbonioglbaaGreatDoor
set_option maxRecDepth 100000

def vHELO : Txt := [72, 69, 76, 79]
def vEHLO : Txt := [69, 72, 76, 79]
def vMAIL : Txt := [77, 65, 73, 76]
def vRCPT : Txt := [82, 67, 80, 84]
def vDATA : Txt := [68, 65, 84, 65]
def vRSET : Txt := [82, 83, 69, 84]
def vQUIT : Txt := [81, 85, 73, 84]
def vNOOP : Txt := [78, 79, 79, 80]
def vVRFY : Txt := [86, 82, 70, 89]
def vHELP : Txt := [72, 69, 76, 80]
/-- What a verb tells: 1 a domain, 2 a message, 3 a recipient, 4 nothing, 5 a text, 6 a text that isn't empty; 0: it is none. -/
def kindV (v : Txt) : Nat :=
  if v = vHELO then 1 else if v = vEHLO then 1 else if v = vMAIL then 2 else if v = vRCPT then 3 else if v = vDATA then 4 else if v = vRSET then 4 else if v = vQUIT then 4 else if v = vNOOP then 5 else if v = vVRFY then 6 else if v = vHELP then 5 else 0
def trR (l : Txt) : Txt := Lib.trimRightB l 32
def txtB (s : Txt) : Bool := s.all P.printB && Lib.trimB s 32 == s
def vbV (s : Txt) : Txt := upL (preC 32 s)
def hFROM : Txt := [32, 70, 82, 79, 77, 58]
def hTO : Txt := [32, 84, 79, 58]
/-- A command. -/
structure CL where
  verb : Txt
  arg : Txt
  p : P.Pth
  m : ML
  r : RL
def zeroC : CL := ⟨[], [], ([], []), zeroM, zeroR⟩
def hostlB (p : P.Pth) : Bool := p.1 != [] && p.2 == []
/-- What readPath answers. -/
def rpH (b hd : Txt) : Bool := decide (hd.length ≤ b.length) && upL (b.take hd.length) == hd
def rpW (rest : Txt) : Bool := (cutP 32 rest).2 == ((cutP 32 rest).1 != [])
def rpV (b hd : Txt) : P.Pth × Txt × Int :=
  if rpH b hd = true then (if (P.parseV (b.drop hd.length)).2.2 = 0 then (if rpW (P.parseV (b.drop hd.length)).2.1 = true then ((P.parseV (b.drop hd.length)).1, (cutP 32 (P.parseV (b.drop hd.length)).2.1).1, 0) else (([], []), [], 2)) else (([], []), [], (P.parseV (b.drop hd.length)).2.2)) else (([], []), [], 2)
def rdDE (b : Txt) : Int := if ((cutP 32 b).2 && P.domainE (cutP 32 b).1 == 0) = true then 0 else 2
def rdTE (b : Txt) : Int := if txtB (cutP 32 b).1 = true then 0 else 2
def rdNE (b : Txt) : Int := if b = [] then 0 else 2
def rdUE (b : Txt) : Int := if b = [] then 2 else rdTE b
def rdME (b : Txt) : Int := if (rpV b hFROM).2.2 = 0 then (if hostlB (rpV b hFROM).1 = true then 2 else peM (rpV b hFROM).2.1) else (rpV b hFROM).2.2
def rdRE (b : Txt) : Int := if (rpV b hTO).2.2 = 0 then (if P.nullB (rpV b hTO).1 = true then 2 else peR (rpV b hTO).2.1) else (rpV b hTO).2.2
def rE (k : Nat) (b : Txt) : Int := if k = 1 then rdDE b else if k = 2 then rdME b else if k = 3 then rdRE b else if k = 4 then rdNE b else if k = 5 then rdTE b else rdUE b
def rdDS (b : Txt) (c : CL) : CL := { c with arg := P.domainV (cutP 32 b).1 }
def rdTS (b : Txt) (c : CL) : CL := { c with arg := (cutP 32 b).1 }
def rdMS (b : Txt) (c : CL) : CL := { c with p := (rpV b hFROM).1, m := pvM (rpV b hFROM).2.1 }
def rdRS (b : Txt) (c : CL) : CL := { c with p := (rpV b hTO).1, r := pvR (rpV b hTO).2.1 }
def rS (k : Nat) (b : Txt) (c : CL) : CL := if k = 1 then rdDS b c else if k = 2 then rdMS b c else if k = 3 then rdRS b c else if k = 4 then c else rdTS b c
def headC (v : Txt) : CL := ⟨v, [], ([], []), zeroM, zeroR⟩
/-- What Parse answers. -/
def cpE (s : Txt) : Int := if kindV (vbV (trR s)) = 0 then 10 else rE (kindV (vbV (trR s))) ((trR s).drop (vbV (trR s)).length)
def cpV (s : Txt) : CL := if cpE s = 0 then rS (kindV (vbV (trR s))) ((trR s).drop (vbV (trR s)).length) (headC (vbV (trR s))) else zeroC
/-- What stands behind a verb, printed. -/
noncomputable def wdsV (hd : Txt) (p : P.Pth) (ws : Txt) : Txt := hd ++ P.textL p ++ (if ws = [] then [] else 32 :: ws)
def is4 (c : CL) : Prop := c = headC c.verb
def is5 (c : CL) : Prop := c = { headC c.verb with arg := c.arg }
def is2 (c : CL) : Prop := c = { headC c.verb with p := c.p, m := c.m }
def is3 (c : CL) : Prop := c = { headC c.verb with p := c.p, r := c.r }
open Classical in
noncomputable def bE (k : Nat) (c : CL) : Int :=
  if k = 1 then (if c = { headC c.verb with arg := P.domainV c.arg } ∧ P.domainE c.arg = 0 then 0 else 2)
  else if k = 2 then (if is2 c ∧ hostlB c.p = false then (if P.rightE c.p = 0 then rightM c.m else P.rightE c.p) else 2)
  else if k = 3 then (if is3 c ∧ P.nullB c.p = false then (if P.rightE c.p = 0 then rightR c.r else P.rightE c.p) else 2)
  else if k = 4 then (if is4 c then 0 else 2)
  else if k = 5 then (if is5 c ∧ txtB c.arg = true then 0 else 2)
  else (if c.arg = [] then 2 else if is5 c ∧ txtB c.arg = true then 0 else 2)
noncomputable def bV (k : Nat) (c : CL) : Txt :=
  if k = 1 then 32 :: P.domainV c.arg else if k = 2 then wdsV hFROM c.p (printM c.m) else if k = 3 then wdsV hTO c.p (printR c.r) else if k = 4 then [] else if c.arg = [] then [] else 32 :: c.arg
/-- What Print answers. -/
noncomputable def prE (c : CL) : Int := if kindV c.verb = 0 then 10 else if bE (kindV c.verb) c = 0 then (if 510 < c.verb.length + (bV (kindV c.verb) c).length then 3 else 0) else bE (kindV c.verb) c
noncomputable def prV (c : CL) : Txt := if prE c = 0 then c.verb ++ bV (kindV c.verb) c else []

/- Blanks at the end. -/
theorem dropW_le (p : UInt8 → Bool) : ∀ l : Txt, (l.dropWhile p).length ≤ l.length
  | [] => Nat.le_refl _
  | b :: t => by rw [List.dropWhile_cons]; split <;> simp <;> have := dropW_le p t <;> omega
theorem trR_le (s : Txt) : (trR s).length ≤ s.length := by
  have := dropW_le (· == 32) s.reverse
  simpa [trR, Lib.trimRightB] using this
theorem drop_reps : ∀ (n : Nat) (m : Txt), m.head? ≠ some 32 → (List.replicate n 32 ++ m).dropWhile (· == 32) = m
  | 0, [], _ => rfl
  | 0, b :: t, h => by
    have hb : (b == 32) = false := beq_eq_false_iff_ne.2 fun e => h (by rw [e]; rfl)
    simp [hb]
  | n + 1, m, h => by
    rw [List.replicate_succ, List.cons_append, List.dropWhile_cons]
    exact drop_reps n m h
theorem trR_cat {l : Txt} (n : Nat) (h : l.getLast? ≠ some 32) : trR (l ++ List.replicate n 32) = l := by
  unfold trR Lib.trimRightB
  rw [List.reverse_append, List.reverse_replicate, drop_reps n l.reverse (by rwa [List.head?_reverse]), List.reverse_reverse]
theorem dropW_reps : ∀ m : Txt, ∃ n, m = List.replicate n 32 ++ m.dropWhile (· == 32)
  | [] => ⟨0, rfl⟩
  | b :: t => by
    by_cases hb : b = 32
    · obtain ⟨n, e⟩ := dropW_reps t
      refine ⟨n + 1, ?_⟩
      rw [List.dropWhile_cons, hb, if_pos (by rfl), List.replicate_succ, List.cons_append, ← e]
    · have hb' : (b == 32) = false := beq_eq_false_iff_ne.2 hb
      exact ⟨0, by simp [hb']⟩
theorem trR_of (s : Txt) : ∃ n, s = trR s ++ List.replicate n 32 := by
  obtain ⟨n, e⟩ := dropW_reps s.reverse
  refine ⟨n, ?_⟩
  have e2 := congrArg List.reverse e
  rw [List.reverse_reverse, List.reverse_append, List.reverse_replicate] at e2
  exact e2
theorem dropW_head : ∀ m : Txt, (m.dropWhile (· == 32)).head? ≠ some 32
  | [] => by simp
  | b :: t => by
    rw [List.dropWhile_cons]
    split
    · exact dropW_head t
    · rename_i h
      intro e
      injection e with e
      exact h (by rw [e]; rfl)
theorem trR_last (s : Txt) : (trR s).getLast? ≠ some 32 := by
  unfold trR Lib.trimRightB
  rw [List.getLast?_reverse]
  exact dropW_head _
theorem takeW_reps : ∀ n : Nat, (List.replicate n (32 : UInt8)).takeWhile (· != 32) = []
  | 0 => rfl
  | n + 1 => by rw [List.replicate_succ, List.takeWhile_cons]; rfl
theorem preC_reps (n : Nat) : ∀ l : Txt, preC 32 (l ++ List.replicate n 32) = preC 32 l
  | [] => takeW_reps n
  | b :: t => by
    have ih := preC_reps n t
    unfold preC at ih ⊢
    rw [List.cons_append, List.takeWhile_cons, List.takeWhile_cons, ih]
theorem preC_trR (s : Txt) : preC 32 (trR s) = preC 32 s := by
  obtain ⟨n, e⟩ := trR_of s
  conv => rhs; rw [e]
  exact (preC_reps n _).symm
theorem last_trim {s : Txt} (h : (Lib.trimB s 32 == s) = true) : s.getLast? ≠ some 32 := by
  intro hl
  have hs : s ≠ [] := by rintro rfl; cases hl
  have e1 : s = s.dropLast ++ [32] := by
    have := List.dropLast_concat_getLast hs
    rw [List.getLast?_eq_some_getLast hs] at hl
    injection hl with hl
    rw [hl] at this
    exact this.symm
  have e2 : trR s = trR s.dropLast := by
    obtain ⟨n, e⟩ := trR_of s.dropLast
    conv => lhs; rw [e1, e, List.append_assoc, show (List.replicate n (32 : UInt8) ++ [32]) = List.replicate (n + 1) 32 from (List.replicate_succ' ..).symm]
    exact trR_cat _ (trR_last _)
  have e3 := congrArg List.length (beq_iff_eq.1 h)
  have h1 := dropW_le (· == 32) (trR s)
  have h2 := trR_le s.dropLast
  have h3 : (Lib.trimB s 32).length = ((trR s).dropWhile (· == 32)).length := rfl
  have h4 := congrArg List.length e1
  rw [e2] at h1 h3
  simp only [List.length_append, List.length_cons, List.length_nil] at h4
  omega

/- Verbs. -/
theorem kind_cases {v : Txt} (h : kindV v ≠ 0) : v ∈ [vHELO, vEHLO, vMAIL, vRCPT, vDATA, vRSET, vQUIT, vNOOP, vVRFY, vHELP] := by
  simp only [List.mem_cons, List.not_mem_nil, or_false]
  refine Classical.byContradiction fun h' => h ?_
  simp only [not_or] at h'
  obtain ⟨h1, h2, h3, h4, h5, h6, h7, h8, h9, h10⟩ := h'
  simp only [kindV, h1, h2, h3, h4, h5, h6, h7, h8, h9, h10, if_false]
theorem kind_len {v : Txt} (h : kindV v ≠ 0) : v.length = 4 := by
  have hm := kind_cases h
  simp only [List.mem_cons, List.not_mem_nil, or_false] at hm
  rcases hm with rfl | rfl | rfl | rfl | rfl | rfl | rfl | rfl | rfl | rfl <;> rfl
theorem kind_up {v : Txt} (h : kindV v ≠ 0) : upL v = v ∧ 32 ∉ v := by
  have hm := kind_cases h
  simp only [List.mem_cons, List.not_mem_nil, or_false] at hm
  rcases hm with rfl | rfl | rfl | rfl | rfl | rfl | rfl | rfl | rfl | rfl <;> decide
theorem kind_le (v : Txt) : kindV v ≤ 6 := by unfold kindV; (repeat' split) <;> omega
theorem up_32 (b : UInt8) : (upB b = 32) = (b = 32) := by
  have := P.all_bytes (P := fun b => (upB b == 32) == (b == 32)) (by decide +kernel) b
  rw [beq_iff_eq] at this
  by_cases h : b = 32
  · rw [h] at this ⊢; exact propext ⟨fun _ => rfl, fun _ => rfl⟩
  · refine propext ⟨fun h' => ?_, fun h' => absurd h' h⟩
    rw [h'] at this
    exact absurd (beq_iff_eq.1 this.symm) h
theorem up_free {l : Txt} (h : 32 ∉ upL l) : 32 ∉ l := fun hm => h (List.mem_map.2 ⟨32, hm, by decide⟩)
theorem take_free : ∀ {l b : Txt}, 32 ∉ l → (b = [] ∨ b.head? = some 32) → preC 32 (l ++ b) = l
  | [], b, _, hb => by
    rcases hb with rfl | hb
    · rfl
    · cases b with
      | nil => rfl
      | cons x t => simp at hb; subst hb; rfl
  | x :: l, b, h, hb => by
    have hx : (x != 32) = true := bne_iff_ne.2 fun e => h (by simp [e])
    have ih := take_free (l := l) (b := b) (fun hm => h (by simp [hm])) hb
    unfold preC at ih ⊢
    rw [List.cons_append, List.takeWhile_cons, if_pos hx, ih]
theorem pre_split : ∀ l : Txt, l = preC 32 l ++ l.drop (preC 32 l).length ∧ (l.drop (preC 32 l).length = [] ∨ (l.drop (preC 32 l).length).head? = some 32)
  | [] => ⟨rfl, .inl rfl⟩
  | b :: t => by
    obtain ⟨h1, h2⟩ := pre_split t
    unfold preC at h1 h2 ⊢
    rw [List.takeWhile_cons]
    by_cases hb : b = 32
    · subst hb
      exact ⟨rfl, .inr rfl⟩
    · rw [if_pos (by simpa using hb)]
      refine ⟨?_, ?_⟩
      · rw [List.cons_append, List.length_cons, List.drop_succ_cons, ← h1]
      · rw [List.length_cons, List.drop_succ_cons]; exact h2
/-- A line that is a verb, in any letters, and what stands behind it. -/
theorem cp_of {v lv b : Txt} (hk : kindV v ≠ 0) (hl : upL lv = v) (hb : b = [] ∨ b.head? = some 32) (hE : (lv ++ b).getLast? ≠ some 32) (n : Nat) :
    vbV (trR (lv ++ b ++ List.replicate n 32)) = v ∧ (trR (lv ++ b ++ List.replicate n 32)).drop v.length = b ∧ cpE (lv ++ b ++ List.replicate n 32) = rE (kindV v) b ∧ cpV (lv ++ b ++ List.replicate n 32) = if rE (kindV v) b = 0 then rS (kindV v) b (headC v) else zeroC := by
  have e1 : trR (lv ++ b ++ List.replicate n 32) = lv ++ b := trR_cat n hE
  have e2 : vbV (lv ++ b) = v := by rw [vbV, take_free (up_free (by rw [hl]; exact (kind_up hk).2)) hb, hl]
  have e3 : (lv ++ b).drop v.length = b := by
    have : v.length = lv.length := by rw [← hl]; simp [upL]
    rw [this, List.drop_left]
  have e4 : cpE (lv ++ b ++ List.replicate n 32) = rE (kindV v) b := by rw [cpE, e1, e2, if_neg hk, e3]
  refine ⟨by rw [e1, e2], by rw [e1, e3], e4, ?_⟩
  rw [cpV, e4, e1, e2, e3]
theorem cp_none {s : Txt} (h : kindV (vbV s) = 0) : cpE s = 10 ∧ cpV s = zeroC := by
  have e : cpE s = 10 := by rw [cpE, show vbV (trR s) = vbV s by rw [vbV, vbV, preC_trR], if_pos h]
  exact ⟨e, by rw [cpV, e]; rfl⟩

/- Texts. -/
theorem txt_last {s : Txt} (h : txtB s = true) : s.getLast? ≠ some 32 := by
  unfold txtB at h
  rw [Bool.and_eq_true] at h
  exact last_trim h.2
theorem last_cat {a b : Txt} (hb : b ≠ []) (h : b.getLast? ≠ some 32) : (a ++ b).getLast? ≠ some 32 := by
  rw [List.getLast?_append]
  cases hx : b.getLast? with
  | none => rw [List.getLast?_eq_none_iff] at hx; exact absurd hx hb
  | some x => rw [hx] at h; exact h
theorem last_opt {a b : Txt} (ha : a.getLast? ≠ some 32) (h : b ≠ [] → b.getLast? ≠ some 32) : (a ++ b).getLast? ≠ some 32 := by
  by_cases hb : b = []
  · rw [hb, List.append_nil]; exact ha
  · exact last_cat hb (h hb)
theorem last_not {l : Txt} (h : 32 ∉ l) : l.getLast? ≠ some 32 := fun e => h (List.mem_of_getLast? e)
theorem cut32 (l : Txt) : cutP 32 (32 :: l) = (l, true) := rfl
theorem cutP_nil : cutP 32 [] = ([], false) := rfl
theorem joinC_last : ∀ {l : List Txt}, (∀ x ∈ l, x ≠ [] ∧ 32 ∉ x) → joinC 32 l ≠ [] → (joinC 32 l).getLast? ≠ some 32
  | [], _, h => absurd rfl h
  | [a], h, _ => last_not (h a (by simp)).2
  | a :: b :: r, h, _ => by
    have hn : joinC 32 (b :: r) ≠ [] := joinC_ne (by simp) fun x hx => (h x (by simp [hx])).1
    have ih := joinC_last (l := b :: r) (fun x hx => h x (by simp [hx])) hn
    have e : joinC 32 (a :: b :: r) = (a ++ [32]) ++ joinC 32 (b :: r) := by simp [joinC]
    rw [e]
    exact last_cat hn ih
theorem printM_last {m : ML} (h : printM m ≠ []) : (printM m).getLast? ≠ some 32 := by
  unfold printM at h ⊢
  by_cases hr : rightM m = 0
  · rw [if_pos hr] at h ⊢
    exact joinC_last (fun x hx => ⟨wordsL_ne x hx, wordsL_free (wdM_ok (rightM_iff.1 hr).1) x hx⟩) h
  · rw [if_neg hr] at h
    exact absurd rfl h
theorem printR_last {r : RL} (h : printR r ≠ []) : (printR r).getLast? ≠ some 32 := by
  unfold printR at h ⊢
  by_cases hr : rightR r = 0
  · rw [if_pos hr] at h ⊢
    exact joinC_last (fun x hx => ⟨wordsL_ne x hx, wordsL_free (wdR_ok (rightR_iff.1 hr)) x hx⟩) h
  · rw [if_neg hr] at h
    exact absurd rfl h
theorem textL_last (p : P.Pth) : (P.textL p).getLast? = some 62 := by
  unfold P.textL
  split <;> exact List.getLast?_concat
theorem wds_last {hd ws : Txt} (p : P.Pth) (h : ws ≠ [] → ws.getLast? ≠ some 32) : (wdsV hd p ws).getLast? ≠ some 32 := by
  unfold wdsV
  refine last_opt ?_ ?_
  · rw [List.getLast?_append, textL_last]; simp
  · by_cases hw : ws = []
    · rw [if_pos hw]; exact fun h' => absurd rfl h'
    · rw [if_neg hw]
      exact fun _ => last_cat (a := [32]) hw (h hw)

/- Paths and words. -/
theorem rpH_of {hd hd' : Txt} (t : Txt) (h : upL hd' = hd) : rpH (hd' ++ t) hd = true ∧ (hd' ++ t).drop hd.length = t := by
  have hl : hd.length = hd'.length := by rw [← h]; simp [upL]
  unfold rpH
  rw [hl, List.take_left, List.drop_left, h]
  simp
theorem rpW_of (ws : Txt) : rpW (if ws = [] then [] else 32 :: ws) = true ∧ (cutP 32 (if ws = [] then [] else 32 :: ws)).1 = ws := by
  by_cases hw : ws = []
  · rw [if_pos hw, hw]; exact ⟨rfl, rfl⟩
  · rw [if_neg hw]; simp [rpW, cut32, hw]
theorem rp_of {hd hd' : Txt} {p : P.Pth} (h : upL hd' = hd) (hp : P.rightE p = 0) (ws : Txt) : rpV (hd' ++ P.textL p ++ (if ws = [] then [] else 32 :: ws)) hd = (p, ws, 0) := by
  obtain ⟨e1, e2⟩ := rpH_of (P.textL p ++ (if ws = [] then [] else 32 :: ws)) h
  rw [← List.append_assoc] at e1 e2
  rw [rpV, if_pos e1, e2, P.parse_text hp, if_pos rfl, if_pos (rpW_of ws).1, (rpW_of ws).2]
theorem rp_ok {b hd : Txt} (h : (rpV b hd).2.2 = 0) : P.rightE (rpV b hd).1 = 0 := by
  revert h
  unfold rpV
  split
  · split
    · split
      · exact fun _ => (P.parse_right (s := b.drop hd.length) (x := (P.parseV (b.drop hd.length)).1) (rest := (P.parseV (b.drop hd.length)).2.1) (by rename_i h2 _ _; exact Prod.ext rfl (Prod.ext rfl h2))).1
      · intro h; cases h
    · rename_i h2
      exact fun h => absurd h h2
  · intro h; cases h

/- What was printed is parsed. -/
theorem hd_last {v b : Txt} (hk : kindV v ≠ 0) (hb : b ≠ [] → b.getLast? ≠ some 32) (lv : Txt) (hl : upL lv = v) : (lv ++ b).getLast? ≠ some 32 :=
  last_opt (last_not (up_free (by rw [hl]; exact (kind_up hk).2))) hb
theorem dom_last {a : Txt} (h : P.domainE a = 0) : (32 :: a).getLast? ≠ some 32 := by
  have hl := (P.domE_zero.1 h).2
  have hn := P.labels_ne hl
  refine last_cat (a := [32]) hn (last_not fun hm => ?_)
  have := P.labels_mem hl 32 hm
  revert this
  decide
/-- What a command's text has behind its verb. -/
theorem b_facts {c : CL} (h : bE (kindV c.verb) c = 0) : (bV (kindV c.verb) c = [] ∨ (bV (kindV c.verb) c).head? = some 32) ∧ (bV (kindV c.verb) c ≠ [] → (bV (kindV c.verb) c).getLast? ≠ some 32) := by
  generalize kindV c.verb = k at h
  unfold bE at h
  unfold bV
  by_cases k1 : k = 1
  · rw [if_pos k1] at h ⊢
    split at h
    · rename_i h'
      have hv : c.arg = P.domainV c.arg := congrArg CL.arg h'.1
      exact ⟨.inr rfl, fun _ => by rw [← hv]; exact dom_last h'.2⟩
    · cases h
  rw [if_neg k1] at h ⊢
  by_cases k2 : k = 2
  · rw [if_pos k2] at h ⊢
    exact ⟨.inr rfl, fun _ => wds_last _ printM_last⟩
  rw [if_neg k2] at h ⊢
  by_cases k3 : k = 3
  · rw [if_pos k3] at h ⊢
    exact ⟨.inr rfl, fun _ => wds_last _ printR_last⟩
  rw [if_neg k3] at h ⊢
  by_cases k4 : k = 4
  · rw [if_pos k4]
    exact ⟨.inl rfl, fun h' => absurd rfl h'⟩
  rw [if_neg k4] at h ⊢
  have ht : txtB c.arg = true := by
    by_cases k5 : k = 5
    · rw [if_pos k5] at h
      split at h
      · rename_i h'; exact h'.2
      · cases h
    · rw [if_neg k5] at h
      split at h
      · cases h
      · split at h
        · rename_i h'; exact h'.2
        · cases h
  by_cases ha : c.arg = []
  · rw [if_pos ha]; exact ⟨.inl rfl, fun h' => absurd rfl h'⟩
  · rw [if_neg ha]; exact ⟨.inr rfl, fun _ => last_cat (a := [32]) ha (txt_last ht)⟩
/-- What was printed, its FROM and TO in any letters, is read. -/
def swapH (k : Nat) (hd' b : Txt) : Txt := if k = 2 then hd' ++ b.drop 6 else if k = 3 then hd' ++ b.drop 4 else b
theorem CL.eq {a b : CL} (h1 : a.verb = b.verb) (h2 : a.arg = b.arg) (h3 : a.p = b.p) (h4 : a.m = b.m) (h5 : a.r = b.r) : a = b := by
  cases a; cases b; simp only at h1 h2 h3 h4 h5; subst h1 h2 h3 h4 h5; rfl
theorem b_back {c : CL} {hd' : Txt} (hk : kindV c.verb ≠ 0) (h : bE (kindV c.verb) c = 0) (hh : (kindV c.verb = 2 → upL hd' = hFROM) ∧ (kindV c.verb = 3 → upL hd' = hTO)) :
    rE (kindV c.verb) (swapH (kindV c.verb) hd' (bV (kindV c.verb) c)) = 0 ∧ rS (kindV c.verb) (swapH (kindV c.verb) hd' (bV (kindV c.verb) c)) (headC c.verb) = c := by
  have hle := kind_le c.verb
  generalize kindV c.verb = k at hk h hh hle
  unfold bE at h
  unfold swapH bV rE rS
  by_cases k1 : k = 1
  · subst k1
    simp only [if_true, show ¬ (1 : Nat) = 2 by decide, show ¬ (1 : Nat) = 3 by decide, if_false] at h ⊢
    split at h
    · rename_i h'
      have hv : c.arg = P.domainV c.arg := congrArg CL.arg h'.1
      have e1 : P.domainE (P.domainV c.arg) = 0 := by rw [← hv]; exact h'.2
      have e2 : P.domainV (P.domainV c.arg) = P.domainV c.arg := by rw [← hv, ← hv]
      refine ⟨?_, ?_⟩
      · rw [rdDE, cut32, if_pos]; rw [e1]; rfl
      · rw [rdDS, cut32, e2]; exact h'.1.symm
    · cases h
  by_cases k2 : k = 2
  · subst k2
    simp only [if_true, show ¬ (2 : Nat) = 1 by decide, if_false] at h ⊢
    split at h
    · rename_i h'
      by_cases hp : P.rightE c.p = 0
      · rw [if_pos hp] at h
        have hr := rp_of (hh.1 rfl) hp (printM c.m)
        have e : hd' ++ (wdsV hFROM c.p (printM c.m)).drop 6 = hd' ++ P.textL c.p ++ (if printM c.m = [] then [] else 32 :: printM c.m) := by
          rw [wdsV, List.append_assoc hFROM, show (6 : Nat) = hFROM.length from rfl, List.drop_left, List.append_assoc]
        obtain ⟨e1, e2⟩ := print_read h
        rw [e]
        refine ⟨?_, ?_⟩
        · rw [rdME, hr, if_pos rfl, h'.2, if_neg (by decide), e1]
        · rw [rdMS, hr, e2]; exact h'.1.symm
      · rw [if_neg hp] at h; exact absurd h hp
    · cases h
  by_cases k3 : k = 3
  · subst k3
    simp only [if_true, show ¬ (3 : Nat) = 1 by decide, show ¬ (3 : Nat) = 2 by decide, if_false] at h ⊢
    split at h
    · rename_i h'
      by_cases hp : P.rightE c.p = 0
      · rw [if_pos hp] at h
        have hr := rp_of (hh.2 rfl) hp (printR c.r)
        have e : hd' ++ (wdsV hTO c.p (printR c.r)).drop 4 = hd' ++ P.textL c.p ++ (if printR c.r = [] then [] else 32 :: printR c.r) := by
          rw [wdsV, List.append_assoc hTO, show (4 : Nat) = hTO.length from rfl, List.drop_left, List.append_assoc]
        obtain ⟨e1, e2⟩ := printR_read h
        rw [e]
        refine ⟨?_, ?_⟩
        · rw [rdRE, hr, if_pos rfl, h'.2, if_neg (by decide), e1]
        · rw [rdRS, hr, e2]; exact h'.1.symm
      · rw [if_neg hp] at h; exact absurd h hp
    · cases h
  simp only [if_neg k1, if_neg k2, if_neg k3] at h ⊢
  by_cases k4 : k = 4
  · simp only [if_pos k4] at h ⊢
    split at h
    · rename_i h'
      exact ⟨by rw [rdNE, if_pos rfl], h'.symm⟩
    · cases h
  simp only [if_neg k4] at h ⊢
  have hx : is5 c ∧ txtB c.arg = true ∧ (k ≠ 5 → c.arg ≠ []) := by
    by_cases k5 : k = 5
    · rw [if_pos k5] at h
      split at h
      · rename_i h'; exact ⟨h'.1, h'.2, fun h2 => absurd k5 h2⟩
      · cases h
    · rw [if_neg k5] at h
      split at h
      · cases h
      · rename_i ha
        split at h
        · rename_i h'; exact ⟨h'.1, h'.2, fun _ => ha⟩
        · cases h
  have e1 : (cutP 32 (if c.arg = [] then [] else 32 :: c.arg)).1 = c.arg := by
    by_cases ha : c.arg = []
    · rw [if_pos ha, ha]; rfl
    · rw [if_neg ha]; rfl
  have e2 : rdTE (if c.arg = [] then [] else 32 :: c.arg) = 0 := by rw [rdTE, e1, if_pos hx.2.1]
  refine ⟨?_, ?_⟩
  · by_cases k5 : k = 5
    · rw [if_pos k5]; exact e2
    · rw [if_neg k5, rdUE, if_neg, e2]
      rw [if_neg (hx.2.2 k5)]; simp
  · rw [rdTS, e1]; exact hx.1.symm
theorem prE_zero {c : CL} (h : prE c = 0) : kindV c.verb ≠ 0 ∧ bE (kindV c.verb) c = 0 ∧ c.verb.length + (bV (kindV c.verb) c).length ≤ 510 := by
  unfold prE at h
  split at h
  · cases h
  · rename_i hk
    split at h
    · rename_i hb
      split at h
      · cases h
      · exact ⟨hk, hb, by omega⟩
    · rename_i hb; exact absurd h hb
theorem swap_self (c : CL) : swapH (kindV c.verb) (if kindV c.verb = 2 then hFROM else hTO) (bV (kindV c.verb) c) = bV (kindV c.verb) c := by
  unfold swapH
  by_cases k2 : kindV c.verb = 2
  · rw [if_pos k2, if_pos k2, k2]
    show hFROM ++ (wdsV hFROM c.p (printM c.m)).drop 6 = wdsV hFROM c.p (printM c.m)
    rw [wdsV, List.append_assoc hFROM, show (6 : Nat) = hFROM.length from rfl, List.drop_left]
  · rw [if_neg k2, if_neg k2]
    by_cases k3 : kindV c.verb = 3
    · rw [if_pos k3, k3]
      show hTO ++ (wdsV hTO c.p (printR c.r)).drop 4 = wdsV hTO c.p (printR c.r)
      rw [wdsV, List.append_assoc hTO, show (4 : Nat) = hTO.length from rfl, List.drop_left]
    · rw [if_neg k3]
/-- What was printed, blanks behind it, is parsed. -/
theorem cp_back {c : CL} (h : prE c = 0) (n : Nat) : cpE (prV c ++ List.replicate n 32) = 0 ∧ cpV (prV c ++ List.replicate n 32) = c := by
  obtain ⟨hk, hb, _⟩ := prE_zero h
  obtain ⟨f1, f2⟩ := b_facts hb
  obtain ⟨e1, e2⟩ := b_back (hd' := if kindV c.verb = 2 then hFROM else hTO) hk hb ⟨fun k => by rw [if_pos k]; decide, fun k => by rw [if_neg (by omega)]; decide⟩
  rw [swap_self c] at e1 e2
  obtain ⟨_, _, e3, e4⟩ := cp_of hk (kind_up hk).1 f1 (hd_last hk f2 _ (kind_up hk).1) n
  rw [prV, if_pos h, e3, e4, e1, if_pos rfl]
  exact ⟨rfl, e2⟩
theorem bE_1 {c : CL} : bE 1 c = 0 ↔ (c = { headC c.verb with arg := P.domainV c.arg } ∧ P.domainE c.arg = 0) := by
  unfold bE; rw [if_pos rfl]; split
  · rename_i h; exact ⟨fun _ => h, fun _ => rfl⟩
  · rename_i h; exact ⟨fun h' => (by cases h'), fun h' => absurd h' h⟩
theorem bE_2 {c : CL} : bE 2 c = 0 ↔ (is2 c ∧ hostlB c.p = false) ∧ P.rightE c.p = 0 ∧ rightM c.m = 0 := by
  unfold bE; rw [if_neg (by decide), if_pos rfl]; split
  · rename_i h; split
    · rename_i h2; exact ⟨fun h' => ⟨h, h2, h'⟩, fun h' => h'.2.2⟩
    · rename_i h2; exact ⟨fun h' => absurd h' h2, fun h' => absurd h'.2.1 h2⟩
  · rename_i h; exact ⟨fun h' => (by cases h'), fun h' => absurd h'.1 h⟩
theorem bE_3 {c : CL} : bE 3 c = 0 ↔ (is3 c ∧ P.nullB c.p = false) ∧ P.rightE c.p = 0 ∧ rightR c.r = 0 := by
  unfold bE; rw [if_neg (by decide), if_neg (by decide), if_pos rfl]; split
  · rename_i h; split
    · rename_i h2; exact ⟨fun h' => ⟨h, h2, h'⟩, fun h' => h'.2.2⟩
    · rename_i h2; exact ⟨fun h' => absurd h' h2, fun h' => absurd h'.2.1 h2⟩
  · rename_i h; exact ⟨fun h' => (by cases h'), fun h' => absurd h'.1 h⟩
theorem bE_4 {c : CL} : bE 4 c = 0 ↔ is4 c := by
  unfold bE; rw [if_neg (by decide), if_neg (by decide), if_neg (by decide), if_pos rfl]; split
  · rename_i h; exact ⟨fun _ => h, fun _ => rfl⟩
  · rename_i h; exact ⟨fun h' => (by cases h'), fun h' => absurd h' h⟩
theorem bE_5 {c : CL} : bE 5 c = 0 ↔ is5 c ∧ txtB c.arg = true := by
  unfold bE; rw [if_neg (by decide), if_neg (by decide), if_neg (by decide), if_neg (by decide), if_pos rfl]; split
  · rename_i h; exact ⟨fun _ => h, fun _ => rfl⟩
  · rename_i h; exact ⟨fun h' => (by cases h'), fun h' => absurd h' h⟩
theorem bE_6 {c : CL} : bE 6 c = 0 ↔ c.arg ≠ [] ∧ is5 c ∧ txtB c.arg = true := by
  unfold bE; rw [if_neg (by decide), if_neg (by decide), if_neg (by decide), if_neg (by decide), if_neg (by decide)]; split
  · rename_i h; exact ⟨fun h' => (by cases h'), fun h' => absurd h h'.1⟩
  · rename_i ha; split
    · rename_i h; exact ⟨fun _ => ⟨ha, h⟩, fun _ => rfl⟩
    · rename_i h; exact ⟨fun h' => (by cases h'), fun h' => absurd h'.2 h⟩
/-- What is parsed may be printed, but for its length. -/
theorem cp_right {s : Txt} (h : cpE s = 0) : kindV (cpV s).verb ≠ 0 ∧ bE (kindV (cpV s).verb) (cpV s) = 0 := by
  have hv : cpV s = rS (kindV (vbV (trR s))) ((trR s).drop (vbV (trR s)).length) (headC (vbV (trR s))) := if_pos h
  rw [hv]
  unfold cpE at h
  have hl := trR_last s
  obtain ⟨hs1, hs2⟩ := pre_split (trR s)
  have hlen : (preC 32 (trR s)).length = (vbV (trR s)).length := by simp [vbV, upL]
  rw [hlen] at hs1 hs2
  generalize vbV (trR s) = v at h hs1 hs2
  generalize hbb : (trR s).drop v.length = b at h hs1 hs2
  split at h
  · cases h
  rename_i hk
  have hbl : b ≠ [] → b.getLast? ≠ some 32 := fun hb e => hl (by rw [hs1, List.getLast?_append, e]; rfl)
  have hverb : (rS (kindV v) b (headC v)).verb = v := by
    unfold rS rdDS rdMS rdRS rdTS
    repeat' split
    all_goals rfl
  rw [hverb]
  refine ⟨hk, ?_⟩
  have hle := kind_le v
  generalize kindV v = k at h hk hle
  have hk6 : k = 1 ∨ k = 2 ∨ k = 3 ∨ k = 4 ∨ k = 5 ∨ k = 6 := by omega
  rcases hk6 with rfl | rfl | rfl | rfl | rfl | rfl
  · have h1 : rdDE b = 0 := h
    unfold rdDE at h1
    split at h1
    · rename_i h2
      rw [Bool.and_eq_true, beq_iff_eq] at h2
      have h3 : P.domainV (cutP 32 b).1 = P.smallL (cutP 32 b).1 := P.domV_zero h2.2
      have h4 := P.domE_small h2.2
      refine bE_1.2 ⟨?_, ?_⟩
      · show ({ headC v with arg := P.domainV (cutP 32 b).1 } : CL) = { headC v with arg := P.domainV (P.domainV (cutP 32 b).1) }
        rw [h3, h4.2]
      · show P.domainE (P.domainV (cutP 32 b).1) = 0
        rw [h3]; exact h4.1
    · cases h1
  · have h1 : rdME b = 0 := h
    unfold rdME at h1
    split at h1
    · rename_i h2
      split at h1
      · cases h1
      · rename_i h3
        exact bE_2.2 ⟨⟨rfl, Bool.eq_false_iff.2 h3⟩, rp_ok h2, read_right h1⟩
    · rename_i h2; exact absurd h1 h2
  · have h1 : rdRE b = 0 := h
    unfold rdRE at h1
    split at h1
    · rename_i h2
      split at h1
      · cases h1
      · rename_i h3
        exact bE_3.2 ⟨⟨rfl, Bool.eq_false_iff.2 h3⟩, rp_ok h2, readR_right h1⟩
    · rename_i h2; exact absurd h1 h2
  · exact bE_4.2 rfl
  · have h1 : rdTE b = 0 := h
    unfold rdTE at h1
    split at h1
    · rename_i h2
      exact bE_5.2 ⟨rfl, h2⟩
    · cases h1
  · have h1 : rdUE b = 0 := h
    unfold rdUE at h1
    split at h1
    · cases h1
    · rename_i hb
      unfold rdTE at h1
      split at h1
      · rename_i h2
        refine bE_6.2 ⟨?_, rfl, h2⟩
        show (cutP 32 b).1 ≠ []
        rcases hs2 with h3 | h3
        · exact absurd h3 hb
        · cases b with
          | nil => exact absurd rfl hb
          | cons x t =>
            injection h3 with h3
            subst h3
            intro ht
            have ht : t = [] := ht
            subst ht
            exact hbl (by simp) rfl
      · cases h1
theorem prE_of {c : CL} (hk : kindV c.verb ≠ 0) (h : bE (kindV c.verb) c = 0) : prE c = 0 ∨ prE c = 3 := by
  unfold prE
  rw [if_neg hk, if_pos h]
  split
  · exact .inr rfl
  · exact .inl rfl
theorem prV_no {c : CL} (h : prE c ≠ 0) : prV c = [] := if_neg h
theorem prV_len {c : CL} : (prV c).length ≤ 510 := by
  by_cases h : prE c = 0
  · obtain ⟨_, _, h3⟩ := prE_zero h
    rw [prV, if_pos h, List.length_append]; exact h3
  · rw [prV_no h]; decide

/- A verb, FROM and TO in small letters. -/
def lowB (b : UInt8) : UInt8 := b + 32
def lowL (l : Txt) : Txt := l.map lowB
def lowH (k : Nat) : Txt := if k = 2 then [32, 102, 114, 111, 109, 58] else [32, 116, 111, 58]
noncomputable def letV (c : CL) : Txt := lowL c.verb ++ swapH (kindV c.verb) (lowH (kindV c.verb)) (bV (kindV c.verb) c)
theorem low_kind {v : Txt} (h : kindV v ≠ 0) : upL (lowL v) = v := by
  have hm := kind_cases h
  simp only [List.mem_cons, List.not_mem_nil, or_false] at hm
  rcases hm with rfl | rfl | rfl | rfl | rfl | rfl | rfl | rfl | rfl | rfl <;> decide
theorem swap_facts {c : CL} {k : Nat} (h : (bV k c = [] ∨ (bV k c).head? = some 32) ∧ (bV k c ≠ [] → (bV k c).getLast? ≠ some 32)) : (swapH k (lowH k) (bV k c) = [] ∨ (swapH k (lowH k) (bV k c)).head? = some 32) ∧ (swapH k (lowH k) (bV k c) ≠ [] → (swapH k (lowH k) (bV k c)).getLast? ≠ some 32) := by
  unfold swapH
  by_cases k2 : k = 2
  · subst k2
    rw [if_pos rfl]
    refine ⟨.inr rfl, fun _ => ?_⟩
    have e : (bV 2 c).drop 6 = P.textL c.p ++ (if printM c.m = [] then [] else 32 :: printM c.m) := by
      show (wdsV hFROM c.p (printM c.m)).drop 6 = _
      rw [wdsV, List.append_assoc hFROM, show (6 : Nat) = hFROM.length from rfl, List.drop_left]
    rw [e, ← List.append_assoc]
    refine last_opt ?_ ?_
    · rw [List.getLast?_append, textL_last]; simp
    · by_cases hw : printM c.m = []
      · rw [if_pos hw]; exact fun h' => absurd rfl h'
      · rw [if_neg hw]; exact fun _ => last_cat (a := [32]) hw (printM_last hw)
  · rw [if_neg k2]
    by_cases k3 : k = 3
    · subst k3
      rw [if_pos rfl]
      refine ⟨.inr rfl, fun _ => ?_⟩
      have e : (bV 3 c).drop 4 = P.textL c.p ++ (if printR c.r = [] then [] else 32 :: printR c.r) := by
        show (wdsV hTO c.p (printR c.r)).drop 4 = _
        rw [wdsV, List.append_assoc hTO, show (4 : Nat) = hTO.length from rfl, List.drop_left]
      rw [e, ← List.append_assoc]
      refine last_opt ?_ ?_
      · rw [List.getLast?_append, textL_last]; simp
      · by_cases hw : printR c.r = []
        · rw [if_pos hw]; exact fun h' => absurd rfl h'
        · rw [if_neg hw]; exact fun _ => last_cat (a := [32]) hw (printR_last hw)
    · rw [if_neg k3]; exact h
theorem cp_letters {c : CL} (h : prE c = 0) : cpE (letV c) = 0 ∧ cpV (letV c) = c ∧ vbV (letV c) = c.verb := by
  obtain ⟨hk, hb, _⟩ := prE_zero h
  obtain ⟨f1, f2⟩ := swap_facts (b_facts hb)
  obtain ⟨e1, e2⟩ := b_back (hd' := lowH (kindV c.verb)) hk hb ⟨fun k => by rw [k]; decide, fun k => by rw [k]; decide⟩
  obtain ⟨_, _, e3, e4⟩ := cp_of hk (low_kind hk) f1 (hd_last hk f2 _ (low_kind hk)) 0
  rw [List.replicate_zero, List.append_nil] at e3 e4
  rw [letV, e3, e4, e1, if_pos rfl]
  refine ⟨rfl, e2, ?_⟩
  rw [vbV, take_free (up_free (by rw [low_kind hk]; exact (kind_up hk).2)) f1, low_kind hk]

/- A path's text, and more behind it. -/
theorem unq_more : ∀ (l : Txt) (m : Bool) (acc a r t : Txt), P.unqL l m acc = some (a, r) → P.unqL (l ++ t) m acc = some (a, r ++ t)
  | [], _, _, _, _, _, h => by cases h
  | b :: l, m, acc, a, r, t, h => by
    rw [List.cons_append]
    unfold P.unqL at h ⊢
    by_cases hp : P.printB b = true
    · rw [if_pos hp] at h ⊢
      by_cases h1 : (!m && b == 34) = true
      · rw [if_pos h1] at h ⊢
        injection h with h
        injection h with h2 h3
        rw [h2, h3]
      · rw [if_neg h1] at h ⊢
        by_cases h2 : (!m && b == 92) = true
        · rw [if_pos h2] at h ⊢
          exact unq_more l true acc a r t h
        · rw [if_neg h2] at h ⊢
          exact unq_more l false (acc ++ [b]) a r t h
    · rw [if_neg hp] at h; cases h
theorem cut_more {c : UInt8} {l : Txt} (t : Txt) (h : P.hasC c l = true) : P.hasC c (l ++ t) = true ∧ P.preC c (l ++ t) = P.preC c l ∧ P.postC c (l ++ t) = P.postC c l ++ t := by
  obtain ⟨h1, h2⟩ := P.cut_of h
  have h3 := P.cut_at (P.postC c l ++ t) h1
  have e : l ++ t = P.preC c l ++ c :: (P.postC c l ++ t) := by
    conv => lhs; rw [h2]
    rw [List.append_assoc, List.cons_append]
  rw [e]; exact h3
theorem has_post {c : UInt8} {d : UInt8} {l : Txt} (hc : P.hasC c l = true) (h : P.hasC d (P.postC c l) = true) : P.hasC d l = true := by
  obtain ⟨_, h2⟩ := P.cut_of hc
  unfold P.hasC at h ⊢
  rw [h2]
  simp only [List.contains_eq_mem, List.mem_append, List.mem_cons, decide_eq_true_eq] at h ⊢
  exact .inr (.inr h)
theorem has_end {d : UInt8} {l r : Txt} (h : P.hasC d r = true) (k : Txt) (e : l = k ++ r) : P.hasC d l = true := by
  unfold P.hasC at h ⊢
  rw [e]
  simp only [List.contains_eq_mem, List.mem_append, decide_eq_true_eq] at h ⊢
  exact .inr h
theorem alone_more {u t : Txt} (h : P.hasC 62 u = true) : P.aloneV (u ++ t) = (P.aloneV u).map fun x => (x.1, x.2 ++ t) := by
  obtain ⟨h1, h2, h3⟩ := cut_more t h
  unfold P.aloneV
  rw [if_pos h, if_pos h1, h2, h3]
  split
  · rfl
  · split <;> rfl
theorem local_more {u : Txt} (t : Txt) (h : (P.localV u).2.2 = true) : P.localV (u ++ t) = ((P.localV u).1, (P.localV u).2.1 ++ t, true) ∧ ∃ k, u = k ++ (P.localV u).2.1 := by
  unfold P.localV at h ⊢
  by_cases h34 : (u.head? == some 34) = true
  · obtain ⟨x, rfl⟩ : ∃ x, u = 34 :: x := by
      cases u with
      | nil => simp at h34
      | cons b x => simp at h34; exact ⟨x, by rw [h34]⟩
    rw [if_pos h34] at h
    rw [List.cons_append, if_pos (show ((34 :: (x ++ t)).head? == some 34) = true from rfl), if_pos h34]
    simp only [List.drop_succ_cons, List.drop_zero] at h ⊢
    simp only [Bool.and_eq_true, bne_iff_ne] at h
    obtain ⟨⟨h1, h2⟩, h3⟩ := h
    unfold P.unqV at h1 h2 h3 ⊢
    cases hu : P.unqL x false [] with
    | none => rw [hu] at h1; cases h1
    | some y =>
      obtain ⟨a, r⟩ := y
      rw [hu] at h1 h2 h3
      rw [unq_more x false [] a r t hu]
      simp only at h1 h2 h3 ⊢
      obtain ⟨_, k, hk⟩ := P.unq_some _ _ _ _ _ hu (by simp)
      unfold P.cutP at h2 ⊢
      by_cases h64 : (r.head? == some 64) = true
      · cases r with
        | nil => simp at h64
        | cons b r =>
          have hb : b = 64 := by simpa using h64
          subst hb
          refine ⟨?_, 34 :: (k ++ [64]), ?_⟩
          · simp [h3]
          · rw [hk]; simp
      · rw [if_neg h64] at h2; cases h2
  · rw [if_neg h34] at h
    simp only [Bool.and_eq_true] at h
    obtain ⟨h1, h2, h3⟩ := cut_more t h.1
    have h34' : ((u ++ t).head? == some 34) = false := by
      cases u with
      | nil => simp [P.hasC] at h
      | cons b x => simpa using h34
    rw [if_neg (by rw [h34']; decide), if_neg h34, h1, h2, h3, h.2]
    refine ⟨rfl, P.preC 64 u ++ [64], ?_⟩
    obtain ⟨_, c2⟩ := P.cut_of h.1
    conv => lhs; rw [c2]
    simp
theorem parse_more {s t : Txt} {p : P.Pth} {r : Txt} (h : P.parseV s = (p, r, 0)) : P.parseV (s ++ t) = (p, r ++ t, 0) := by
  unfold P.parseV at h ⊢
  split at h
  · rename_i h60
    obtain ⟨u, rfl⟩ : ∃ u, s = 60 :: u := by
      cases s with
      | nil => simp at h60
      | cons b u => simp at h60; exact ⟨u, by rw [h60]⟩
    rw [List.cons_append, if_pos (show ((60 :: (u ++ t)).head? == some 60) = true from rfl)]
    rw [List.drop_succ_cons, List.drop_zero] at h ⊢
    cases ha : P.aloneV u with
    | some x =>
      obtain ⟨q, v⟩ := x
      rw [ha] at h
      have hc : P.hasC 62 u = true := by
        unfold P.aloneV at ha
        split at ha
        · assumption
        · cases ha
      rw [alone_more hc, ha]
      simp only [Option.map_some, Prod.mk.injEq, and_true] at h ⊢
      exact ⟨h.1, by rw [h.2]⟩
    | none =>
      rw [ha] at h
      simp only at h
      unfold P.endV at h
      split at h
      · rename_i hc
        simp only [Bool.and_eq_true] at hc
        obtain ⟨⟨hi, h62⟩, hlab⟩ := hc
        obtain ⟨e1, k, hk⟩ := local_more t hi
        have hu : P.hasC 62 u = true := has_end h62 k hk
        obtain ⟨c1, c2, c3⟩ := cut_more t h62
        rw [alone_more hu, ha, e1]
        simp only [Option.map_none]
        unfold P.endV
        rw [c1, c2, hlab, if_pos (by rfl), c3]
        split at h
        · simp at h
        · rename_i hl
          rw [if_neg hl]
          simp only [Prod.mk.injEq, and_true] at h ⊢
          exact ⟨h.1, by rw [h.2]⟩
      · simp at h
  · simp at h
/-- A message's, or a recipient's, line of a path's text and words. -/
theorem rp_parts {where_ words : Txt} {p : P.Pth} {hd : Txt} (h : P.parseV where_ = (p, [], 0)) (hu : upL hd = hd) (hw : words ≠ []) : rpV (hd ++ where_ ++ 32 :: words) hd = (p, words, 0) := by
  obtain ⟨e1, e2⟩ := rpH_of (where_ ++ 32 :: words) hu
  rw [← List.append_assoc] at e1 e2
  have e3 := parse_more (t := 32 :: words) h
  rw [List.nil_append] at e3
  rw [rpV, if_pos e1, e2, e3, if_pos rfl, if_pos (by simp [rpW, cut32, hw]), cut32]
theorem cp_mail {where_ words : Txt} {p : P.Pth} (h : P.parseV where_ = (p, [], 0)) (hw : words ≠ []) (hl : words.getLast? ≠ some 32) :
    cpE (vMAIL ++ (hFROM ++ where_ ++ 32 :: words)) = (if hostlB p = true then 2 else peM words) ∧ cpV (vMAIL ++ (hFROM ++ where_ ++ 32 :: words)) = if (if hostlB p = true then 2 else peM words) = 0 then { headC vMAIL with p := p, m := pvM words } else zeroC := by
  have hr := rp_parts (hd := hFROM) h (by decide) hw
  obtain ⟨_, _, e3, e4⟩ := cp_of (v := vMAIL) (lv := vMAIL) (b := hFROM ++ where_ ++ 32 :: words) (by decide) (by decide) (.inr rfl) (last_cat (by simp) (last_cat (a := hFROM ++ where_ ++ [32]) hw hl |> fun h' => by simpa using h')) 0
  rw [List.replicate_zero, List.append_nil] at e3 e4
  have e5 : rE (kindV vMAIL) (hFROM ++ where_ ++ 32 :: words) = if hostlB p = true then 2 else peM words := by
    show rdME _ = _
    rw [rdME, hr, if_pos rfl]
  rw [e3, e4, e5]
  refine ⟨rfl, ?_⟩
  generalize (if hostlB p = true then 2 else peM words) = E
  by_cases hz : E = 0
  · rw [if_pos hz, if_pos hz]
    show rdMS _ _ = _
    rw [rdMS, hr]
  · rw [if_neg hz, if_neg hz]
theorem cp_rcpt {where_ words : Txt} {p : P.Pth} (h : P.parseV where_ = (p, [], 0)) (hw : words ≠ []) (hl : words.getLast? ≠ some 32) :
    cpE (vRCPT ++ (hTO ++ where_ ++ 32 :: words)) = (if P.nullB p = true then 2 else peR words) ∧ cpV (vRCPT ++ (hTO ++ where_ ++ 32 :: words)) = if (if P.nullB p = true then 2 else peR words) = 0 then { headC vRCPT with p := p, r := pvR words } else zeroC := by
  have hr := rp_parts (hd := hTO) h (by decide) hw
  obtain ⟨_, _, e3, e4⟩ := cp_of (v := vRCPT) (lv := vRCPT) (b := hTO ++ where_ ++ 32 :: words) (by decide) (by decide) (.inr rfl) (last_cat (by simp) (last_cat (a := hTO ++ where_ ++ [32]) hw hl |> fun h' => by simpa using h')) 0
  rw [List.replicate_zero, List.append_nil] at e3 e4
  have e5 : rE (kindV vRCPT) (hTO ++ where_ ++ 32 :: words) = if P.nullB p = true then 2 else peR words := by
    show rdRE _ = _
    rw [rdRE, hr, if_pos rfl]
  rw [e3, e4, e5]
  refine ⟨rfl, ?_⟩
  generalize (if P.nullB p = true then 2 else peR words) = E
  by_cases hz : E = 0
  · rw [if_pos hz, if_pos hz]
    show rdRS _ _ = _
    rw [rdRS, hr]
  · rw [if_neg hz, if_neg hz]
/-- A verb with a sign more, or a blank ahead of it, is none. -/
theorem vb_more {v : Txt} (h : kindV v ≠ 0) (t : Txt) : kindV (vbV (v ++ 88 :: 32 :: t)) = 0 ∧ kindV (vbV (32 :: t)) = 0 := by
  refine ⟨?_, rfl⟩
  have e : vbV (v ++ 88 :: 32 :: t) = v ++ [88] := by
    have h2 := take_free (l := v ++ [88]) (b := 32 :: t) (by simp [(kind_up h).2]) (.inr rfl)
    rw [show v ++ 88 :: 32 :: t = (v ++ [88]) ++ 32 :: t by simp, vbV, h2]
    show upL (v ++ [88]) = v ++ [88]
    rw [show upL (v ++ [88]) = upL v ++ [88] by simp [upL, show upB 88 = 88 by decide], (kind_up h).1]
  rw [e]
  refine Classical.byContradiction fun hk => ?_
  have h1 := kind_len hk
  have h2 := kind_len h
  simp at h1
  omega
end Go.Proofs.YtojpkbonioglbaaGreatDoor
