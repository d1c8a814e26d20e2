/-
  Plain mathematics: a message's words and a recipient's, read and printed (no model).
-/
import Derived.Test.YtdcakmamdabiaaaDoorPaMath
namespace Go.Proofs.YtdcakmamdabiaaaDoor
set_option maxRecDepth 100000

/- Numbers. -/
def whB (l : Txt) : Bool := l != [] && decide (l.length ≤ 9) && l.all digB
def whV (l : Txt) : Int := if whB l then (valX l : Int) else 0
def whE (l : Txt) : Int := if whB l then 0 else 2
def sgV (l : Txt) : Int := if (cutP 45 l).2 then -whV (cutP 45 l).1 else whV (cutP 45 l).1
def sgE (l : Txt) : Int := whE (cutP 45 l).1
def numE (n e a b : Int) : Int := if e = 0 then (if decide (a ≤ n) && decide (n ≤ b) then 0 else 1) else e
theorem whE_0 {l : Txt} (h : whE l = 0) : whB l = true := by unfold whE at h; cases hb : whB l <;> simp_all
theorem whV_nn (l : Txt) : 0 ≤ whV l := by unfold whV; split <;> omega
theorem numE_0 {n e a b : Int} (h : numE n e a b = 0) : e = 0 ∧ a ≤ n ∧ n ≤ b := by
  unfold numE at h
  by_cases he : e = 0
  · rw [if_pos he] at h
    by_cases hn : a ≤ n ∧ n ≤ b
    · exact ⟨he, hn⟩
    · rw [if_neg (by simpa using hn)] at h; cases h
  · rw [if_neg he] at h; exact absurd h he
theorem numE_in {n a b : Int} (h : a ≤ n ∧ n ≤ b) : numE n 0 a b = 0 := by
  unfold numE
  rw [if_pos rfl, if_pos (by simpa using h)]
theorem numE_out {n a b : Int} (h : ¬ (a ≤ n ∧ n ≤ b)) : numE n 0 a b = 1 := by
  unfold numE
  rw [if_pos rfl, if_neg (by simpa using h)]
theorem dd_all : ∀ (k u : Nat), u < 10 ^ (k + 1) → Lib.decDigits u ≠ [] ∧ (Lib.decDigits u).length ≤ k + 1 ∧ (Lib.decDigits u).all digB = true ∧ valX (Lib.decDigits u) = u
  | 0, u, h => by
    have h' : u < 10 := by simpa using h
    rw [dec_1 h']
    refine ⟨by simp, by simp, by simp [dg_dig h'], ?_⟩
    simp [valX, dg_nat h']
  | k + 1, u, h => by
    by_cases h' : u < 10
    · rw [dec_1 h']
      refine ⟨by simp, by simp, by simp [dg_dig h'], ?_⟩
      simp [valX, dg_nat h']
    · have hm : u % 10 < 10 := Nat.mod_lt _ (by decide)
      have hk : u / 10 < 10 ^ (k + 1) := by
        rw [Nat.div_lt_iff_lt_mul (by decide)]
        rw [Nat.pow_succ] at h
        exact h
      obtain ⟨h1, h2, h3, h4⟩ := dd_all k (u / 10) hk
      rw [dec_s h']
      refine ⟨by simp, by simp; omega, ?_, ?_⟩
      · rw [List.all_append, h3]; simp [dg_dig hm]
      · rw [valX_snoc, h4, dg_nat hm]
        omega
theorem dd_head {u : Nat} (h : u < 1000000000) : ∃ b t, Lib.decDigits u = b :: t ∧ digB b = true := by
  obtain ⟨h1, _, h3, _⟩ := dd_all 8 u (by simpa using h)
  cases hd : Lib.decDigits u with
  | nil => exact absurd hd h1
  | cons b t =>
    rw [hd] at h3
    exact ⟨b, t, rfl, by simpa using (List.all_eq_true.1 h3) b (by simp)⟩
theorem wh_dd {u : Nat} (h : u < 1000000000) : whB (Lib.decDigits u) = true ∧ whV (Lib.decDigits u) = u ∧ whE (Lib.decDigits u) = 0 := by
  obtain ⟨h1, h2, h3, h4⟩ := dd_all 8 u (by simpa using h)
  have hb : whB (Lib.decDigits u) = true := by unfold whB; rw [h3, Bool.and_true, decide_eq_true h2, Bool.and_true]; simpa using h1
  exact ⟨hb, by rw [whV, if_pos hb, h4], by rw [whE, if_pos hb]⟩
theorem cutP_no {l : Txt} (h : ∀ b t, l = b :: t → b ≠ 45) : cutP 45 l = (l, false) := by
  unfold cutP
  cases l with
  | nil => rfl
  | cons b t => rw [if_neg]; simp [h b t rfl]
theorem sg_itoa {n : Int} (h1 : -999999999 ≤ n) (h2 : n ≤ 999999999) : sgV (Lib.itoa n) = n ∧ sgE (Lib.itoa n) = 0 := by
  by_cases h : n < 0
  · have e : Lib.itoa n = 45 :: Lib.decDigits n.natAbs := by rw [Lib.itoa, if_pos h]
    have hc : cutP 45 (Lib.itoa n) = (Lib.decDigits n.natAbs, true) := by rw [e]; rfl
    obtain ⟨w1, w2, w3⟩ := wh_dd (u := n.natAbs) (by omega)
    unfold sgV sgE
    rw [hc]
    refine ⟨?_, w3⟩
    show (if true = true then -whV (Lib.decDigits n.natAbs) else _) = n
    rw [if_pos rfl, w2]
    omega
  · have e : Lib.itoa n = Lib.decDigits n.toNat := by rw [Lib.itoa, if_neg h]
    obtain ⟨w1, w2, w3⟩ := wh_dd (u := n.toNat) (by omega)
    obtain ⟨b, t, hbt, hd⟩ := dd_head (u := n.toNat) (by omega)
    have hc : cutP 45 (Lib.itoa n) = (Lib.decDigits n.toNat, false) := by
      rw [e]
      refine cutP_no fun b' t' e' => ?_
      rw [hbt] at e'
      injection e' with e1 _
      subst e1
      intro h45
      subst h45
      revert hd
      decide
    unfold sgV sgE
    rw [hc]
    refine ⟨?_, w3⟩
    show (if false = true then _ else whV (Lib.decDigits n.toNat)) = n
    rw [if_neg (by decide), w2]
    omega
theorem wh_itoa {n : Int} (h1 : 0 ≤ n) (h2 : n ≤ 999999999) : whV (Lib.itoa n) = n ∧ whE (Lib.itoa n) = 0 := by
  have e : Lib.itoa n = Lib.decDigits n.toNat := by rw [Lib.itoa, if_neg (by omega)]
  obtain ⟨w1, w2, w3⟩ := wh_dd (u := n.toNat) (by omega)
  rw [e]
  exact ⟨by rw [w2]; omega, w3⟩
theorem wh_minus (l : Txt) : whE (45 :: l) = 2 := by
  have : whB (45 :: l) = false := by
    unfold whB
    have : (45 :: l).all digB = false := by rw [List.all_cons, show digB 45 = false by decide, Bool.false_and]
    rw [this, Bool.and_false]
  rw [whE, this]
  rfl
/-- Signs of a number's text. -/
theorem itoa_signs {n : Int} (h1 : -999999999 ≤ n) (h2 : n ≤ 999999999) : ∀ b ∈ Lib.itoa n, b = 45 ∨ digB b = true := by
  intro b hb
  by_cases h : n < 0
  · rw [Lib.itoa, if_pos h] at hb
    rcases List.mem_cons.1 hb with rfl | hb
    · exact .inl rfl
    · exact .inr (List.all_eq_true.1 (dd_all 8 n.natAbs (by omega)).2.2.1 b hb)
  · rw [Lib.itoa, if_neg h] at hb
    exact .inr (List.all_eq_true.1 (dd_all 8 n.toNat (by omega)).2.2.1 b hb)
theorem itoa_ne {n : Int} (h1 : -999999999 ≤ n) (h2 : n ≤ 999999999) : Lib.itoa n ≠ [] := by
  by_cases h : n < 0
  · rw [Lib.itoa, if_pos h]; simp
  · rw [Lib.itoa, if_neg h]; exact (dd_all 8 n.toNat (by omega)).1
theorem itoa_free {n : Int} (h1 : -999999999 ≤ n) (h2 : n ≤ 999999999) (c : UInt8) (hc : (c == 45 || digB c) = false) : c ∉ Lib.itoa n := fun h => by
  rcases itoa_signs h1 h2 c h with rfl | h'
  · revert hc; decide
  · rw [h', Bool.or_true] at hc; cases hc

/- A message's words. -/
def kSIZE : Txt := [83, 73, 90, 69]
def kBODY : Txt := [66, 79, 68, 89]
def kRET : Txt := [82, 69, 84]
def kENV : Txt := [69, 78, 86, 73, 68]
def kHF : Txt := [72, 79, 76, 68, 70, 79, 82]
def kHU : Txt := [72, 79, 76, 68, 85, 78, 84, 73, 76]
def kBY : Txt := [66, 89]
def kPR : Txt := [77, 84, 45, 80, 82, 73, 79, 82, 73, 84, 89]
def kNO : Txt := [78, 79, 84, 73, 70, 89]
def kOR : Txt := [79, 82, 67, 80, 84]
def t7B : Txt := [55, 66, 73, 84]
def t8B : Txt := [56, 66, 73, 84, 77, 73, 77, 69]
def tFU : Txt := [70, 85, 76, 76]
def tHD : Txt := [72, 68, 82, 83]
def isBody (s : Txt) : Bool := s == t7B || s == t8B
def isRet (s : Txt) : Bool := s == tFU || s == tHD
def isMode (s : Txt) : Bool := s == [82] || s == [78] || s == [82, 84] || s == [78, 84]
def leastV (s : Txt) : Int := if s.head? == some 82 then 1 else -999999999
structure ML where
  hs : Bool
  hf : Bool
  hu : Bool
  hb : Bool
  hp : Bool
  sz : Int
  fo : Int
  un : Int
  by_ : Int
  pr : Int
  body : Txt
  ret : Txt
  env : Txt
  mode : Txt
def zeroM : ML := ⟨false, false, false, false, false, 0, 0, 0, 0, 0, [], [], [], []⟩
def isKM (k : Txt) : Bool := k == kSIZE || k == kBODY || k == kRET || k == kENV || k == kHF || k == kHU || k == kBY || k == kPR
def decdE (v : Txt) (most : Nat) : Int := if X.decE v ≠ 0 ∨ X.decS v = [] then 2 else if most < (X.decS v).length then 3 else 0
def byE (v : Txt) : Int := if isMode (upL (postC 59 v)) then numE (sgV (preC 59 v)) (sgE (preC 59 v)) (leastV (upL (postC 59 v))) 999999999 else 2
def errM (k v : Txt) : Int :=
  if k = kSIZE then numE (whV v) (whE v) 0 999999999
  else if k = kBODY then (if isBody (upL v) then 0 else 2)
  else if k = kRET then (if isRet (upL v) then 0 else 2)
  else if k = kENV then decdE v 100
  else if k = kHF then numE (whV v) (whE v) 1 1048576
  else if k = kHU then parseE (upL v)
  else if k = kBY then byE v
  else if k = kPR then numE (sgV v) (sgE v) (-9) 9
  else 0
def setM (k v : Txt) (m : ML) : ML :=
  if k = kSIZE then { m with sz := whV v, hs := true }
  else if k = kBODY then { m with body := upL v }
  else if k = kRET then { m with ret := upL v }
  else if k = kENV then { m with env := X.decS v }
  else if k = kHF then { m with fo := whV v, hf := true }
  else if k = kHU then { m with un := parseV (upL v), hu := true }
  else if k = kBY then { m with mode := upL (postC 59 v), by_ := sgV (preC 59 v), hb := true }
  else if k = kPR then { m with pr := sgV v, hp := true }
  else m
def finM (s : Txt) : ML := fin setM (splitC 32 s) zeroM
def rdM (s : Txt) : Int := if s = [] then 0 else errs isKM errM [] (splitC 32 s)
def peM (s : Txt) : Int := if rdM s = 0 then (if s ≠ [] ∧ (finM s).hf = true ∧ (finM s).hu = true then 9 else 0) else rdM s
def pvM (s : Txt) : ML := if peM s = 0 ∧ s ≠ [] then finM s else zeroM
/-- Field by field. -/
def setF (k v : Txt) (m : ML) : ML :=
  { hs := if k = kSIZE then true else m.hs, hf := if k = kHF then true else m.hf, hu := if k = kHU then true else m.hu, hb := if k = kBY then true else m.hb, hp := if k = kPR then true else m.hp,
    sz := if k = kSIZE then whV v else m.sz, fo := if k = kHF then whV v else m.fo, un := if k = kHU then parseV (upL v) else m.un, by_ := if k = kBY then sgV (preC 59 v) else m.by_, pr := if k = kPR then sgV v else m.pr,
    body := if k = kBODY then upL v else m.body, ret := if k = kRET then upL v else m.ret, env := if k = kENV then X.decS v else m.env, mode := if k = kBY then upL (postC 59 v) else m.mode }
theorem setM_F (k v : Txt) (m : ML) : setM k v m = setF k v m := by
  by_cases a1 : k = kSIZE
  · subst a1; rfl
  by_cases a2 : k = kBODY
  · subst a2; rfl
  by_cases a3 : k = kRET
  · subst a3; rfl
  by_cases a4 : k = kENV
  · subst a4; rfl
  by_cases a5 : k = kHF
  · subst a5; rfl
  by_cases a6 : k = kHU
  · subst a6; rfl
  by_cases a7 : k = kBY
  · subst a7; rfl
  by_cases a8 : k = kPR
  · subst a8; rfl
  unfold setM setF
  rw [if_neg a1, if_neg a2, if_neg a3, if_neg a4, if_neg a5, if_neg a6, if_neg a7, if_neg a8, if_neg a1, if_neg a5, if_neg a6, if_neg a7, if_neg a8, if_neg a1, if_neg a5, if_neg a6, if_neg a7, if_neg a8, if_neg a2, if_neg a3, if_neg a4, if_neg a7]
theorem ite_comm2 {α : Type} {k k' K : Txt} (h : k ≠ k') (a b c : α) : (if k = K then a else if k' = K then b else c) = (if k' = K then b else if k = K then a else c) := by
  by_cases h1 : k = K
  · have h2 : ¬ k' = K := fun e => h (h1.trans e.symm)
    rw [if_pos h1, if_neg h2, if_pos h1]
  · rw [if_neg h1, if_neg h1]
theorem setM_comm (k v k' v' : Txt) (st : ML) (h : k ≠ k') : setM k v (setM k' v' st) = setM k' v' (setM k v st) := by
  rw [setM_F, setM_F, setM_F, setM_F]
  unfold setF
  rw [ML.mk.injEq]
  exact ⟨ite_comm2 h _ _ _, ite_comm2 h _ _ _, ite_comm2 h _ _ _, ite_comm2 h _ _ _, ite_comm2 h _ _ _, ite_comm2 h _ _ _, ite_comm2 h _ _ _, ite_comm2 h _ _ _, ite_comm2 h _ _ _, ite_comm2 h _ _ _, ite_comm2 h _ _ _, ite_comm2 h _ _ _, ite_comm2 h _ _ _, ite_comm2 h _ _ _⟩

/- A recipient's words. -/
def tSU : Txt := [83, 85, 67, 67, 69, 83, 83]
def tFA : Txt := [70, 65, 73, 76, 85, 82, 69]
def tDE : Txt := [68, 69, 76, 65, 89]
def tNE : Txt := [78, 69, 86, 69, 82]
structure RL where
  no : Txt
  kind : Txt
  oc : Txt
def zeroR : RL := ⟨[], [], []⟩
def initV (n : Txt) : Txt := if n = tSU then [83] else if n = tFA then [70] else if n = tDE then [68] else []
def ordV (l : Txt) : Txt := (if l.contains 83 then [83] else []) ++ (if l.contains 70 then [70] else []) ++ (if l.contains 68 then [68] else [])
def letG : List Txt → Txt → Option Txt
  | [], all => some all
  | n :: r, all => if initV n = [] ∨ (∃ b ∈ initV n, b ∈ all) then none else letG r (all ++ initV n)
def notL (v : Txt) : Option Txt := if v = tNE then some [78] else (letG (splitC 44 v) []).map ordV
def notE (v : Txt) : Int := if (notL v).isSome then 0 else 2
def notV (v : Txt) : Txt := (notL v).getD []
def isKind (s : Txt) : Bool := s != [] && decide (s.length ≤ 32) && s.all alnB
def isKR (k : Txt) : Bool := k == kNO || k == kOR
def errR (k v : Txt) : Int := if k = kNO then notE (upL v) else if k = kOR then (if isKind (upL (preC 59 v)) then decdE (postC 59 v) 256 else 2) else 0
def setR (k v : Txt) (r : RL) : RL := if k = kNO then { r with no := notV (upL v) } else if k = kOR then { r with kind := upL (preC 59 v), oc := X.decS (postC 59 v) } else r
def finR (s : Txt) : RL := fin setR (splitC 32 s) zeroR
def peR (s : Txt) : Int := if s = [] then 0 else errs isKR errR [] (splitC 32 s)
def pvR (s : Txt) : RL := if peR s = 0 ∧ s ≠ [] then finR s else zeroR
def setG (k v : Txt) (r : RL) : RL := { no := if k = kNO then notV (upL v) else r.no, kind := if k = kOR then upL (preC 59 v) else r.kind, oc := if k = kOR then X.decS (postC 59 v) else r.oc }
theorem setR_G (k v : Txt) (r : RL) : setR k v r = setG k v r := by
  by_cases a1 : k = kNO
  · subst a1; rfl
  by_cases a2 : k = kOR
  · subst a2; rfl
  unfold setR setG
  rw [if_neg a1, if_neg a2, if_neg a1, if_neg a2, if_neg a2]
theorem setR_comm (k v k' v' : Txt) (st : RL) (h : k ≠ k') : setR k v (setR k' v' st) = setR k' v' (setR k v st) := by
  rw [setR_G, setR_G, setR_G, setR_G]
  unfold setG
  rw [RL.mk.injEq]
  exact ⟨ite_comm2 h _ _ _, ite_comm2 h _ _ _, ite_comm2 h _ _ _⟩

/- What may be told. -/
def namedB (m : ML) : Bool := (m.body == [] || isBody m.body) && (m.ret == [] || isRet m.ret) && ((m.hb && isMode m.mode) || (!m.hb && m.mode == []))
def unB (m : ML) : Bool := (m.hs || m.sz == 0) && (m.hf || m.fo == 0) && (m.hu || m.un == 0) && (m.hb || m.by_ == 0) && (m.hp || m.pr == 0)
def inB (said : Bool) (n a b : Int) : Bool := !said || (decide (a ≤ n) && decide (n ≤ b))
def rangB (m : ML) : Bool := inB m.hs m.sz 0 999999999 && inB m.hf m.fo 1 1048576 && (!m.hu || printE m.un == 0) && inB m.hb m.by_ (leastV m.mode) 999999999 && inB m.hp m.pr (-9) 9
def rightM (m : ML) : Int := if (namedB m && unB m) = false then 2 else if rangB m = false then 1 else if 100 < m.env.length then 3 else if (m.hf && m.hu) = true then 9 else 0
def kindB (r : RL) : Bool := ((r.kind == []) == (r.oc == [])) && (r.kind == [] || (isKind r.kind && r.kind == upL r.kind))
def rightR (r : RL) : Int := if (r.no == [78] || r.no == ordV r.no) = false then 2 else if kindB r = false then 2 else if 256 < r.oc.length then 3 else 0
def namesL (l : Txt) : List Txt := (if l.contains 83 then [tSU] else []) ++ (if l.contains 70 then [tFA] else []) ++ (if l.contains 68 then [tDE] else [])
def namesV (l : Txt) : Txt := if l = [78] then tNE else joinC 44 (namesL l)
/-- Words: is it said, its key, its value. -/
abbrev Wd := Bool × Txt × Txt
noncomputable def wdM (m : ML) : List Wd := [(m.hs, kSIZE, Lib.itoa m.sz), (m.body != [], kBODY, m.body), (m.ret != [], kRET, m.ret), (m.env != [], kENV, X.encX m.env), (m.hf, kHF, Lib.itoa m.fo), (m.hu, kHU, printS m.un),
  (m.hb, kBY, Lib.itoa m.by_ ++ [59] ++ m.mode), (m.hp, kPR, Lib.itoa m.pr)]
def wdR (r : RL) : List Wd := [(r.no != [], kNO, namesV r.no), (r.kind != [], kOR, r.kind ++ [59] ++ X.encX r.oc)]
def wordsL : List Wd → List Txt
  | [] => []
  | (b, k, v) :: r => if b then (k ++ [61] ++ v) :: wordsL r else wordsL r
noncomputable def printM (m : ML) : Txt := if rightM m = 0 then joinC 32 (wordsL (wdM m)) else []
def printR (r : RL) : Txt := if rightR r = 0 then joinC 32 (wordsL (wdR r)) else []
end Go.Proofs.YtdcakmamdabiaaaDoor
