/-
  Plain mathematics: paths and domains as texts, printed and read back (no model).
-/
import Derived.Lib.Strings
namespace Go.Proofs.YtojpkbonioglbaaGreatDoor.P
set_option maxRecDepth 100000

theorem all_bytes {P : UInt8 → Bool} (h : (List.range 256).all (fun n => P (UInt8.ofNat n)) = true) (b : UInt8) : P b = true := by
  have := List.all_eq_true.1 h b.toNat (by rw [List.mem_range]; exact b.toNat_lt)
  simpa using this

def capB (b : UInt8) : Bool := decide (65 ≤ b.toNat) && decide (b.toNat ≤ 90)
def smallB (b : UInt8) : UInt8 := if capB b then b + 32 else b
def smallL (l : List UInt8) : List UInt8 := l.map smallB
def plainB (b : UInt8) : Bool := (decide (97 ≤ b.toNat) && decide (b.toNat ≤ 122)) || capB b || (decide (48 ≤ b.toNat) && decide (b.toNat ≤ 57))
def labB (b : UInt8) : Bool := plainB b || b == 45
def signsL : List UInt8 := [33, 35, 36, 37, 38, 39, 42, 43, 45, 47, 61, 63, 94, 95, 124, 126, 96, 123, 125]
def atomB (b : UInt8) : Bool := plainB b || signsL.contains b
def printB (b : UInt8) : Bool := decide (32 ≤ b.toNat) && decide (b.toNat ≤ 126)

def hasC (c : UInt8) (l : List UInt8) : Bool := l.contains c
def preC (c : UInt8) (l : List UInt8) : List UInt8 := l.takeWhile (· != c)
def postC (c : UInt8) (l : List UInt8) : List UInt8 := (l.dropWhile (· != c)).drop 1
/-- The parts ahead of, between and behind dots. -/
def splitG : List UInt8 → List UInt8 → List (List UInt8)
  | acc, [] => [acc]
  | acc, b :: t => if b == 46 then acc :: splitG [] t else splitG (acc ++ [b]) t
def splitD (l : List UInt8) : List (List UInt8) := splitG [] l
def isLab (p : List UInt8) : Bool := p != [] && decide (p.length ≤ 63) && p.head? != some 45 && p.getLast? != some 45 && p.all labB
def isAtom (p : List UInt8) : Bool := p != [] && p.all atomB
def labels (s : List UInt8) : Bool := (splitD s).all isLab
def atoms (s : List UInt8) : Bool := (splitD s).all isAtom

abbrev Pth := List UInt8 × List UInt8
def pmL : List UInt8 := [112, 111, 115, 116, 109, 97, 115, 116, 101, 114]
def nullB (p : Pth) : Bool := p.1 == [] && p.2 == []
def hostB (p : Pth) : Bool := p.1 == pmL && p.2 == []
def longB (p : Pth) : Bool := decide (64 < p.1.length) || decide (255 < p.2.length)
def formB (p : Pth) : Bool := (nullB p || hostB p) || (p.1 != [] && p.1.all printB && labels p.2 && smallL p.2 == p.2)
def rightE (p : Pth) : Int := if longB p then 3 else if formB p then 0 else 2
def quoB (b : UInt8) : List UInt8 := if b == 34 || b == 92 then [92, b] else [b]
def quoL (l : List UInt8) : List UInt8 := l.flatMap quoB
def locL (l : List UInt8) : List UInt8 := if atoms l then l else [34] ++ quoL l ++ [34]
def textL (p : Pth) : List UInt8 := if nullB p || hostB p then [60] ++ p.1 ++ [62] else [60] ++ locL p.1 ++ [64] ++ p.2 ++ [62]
def printV (p : Pth) : List UInt8 := if rightE p = 0 then textL p else []
def unqL : List UInt8 → Bool → List UInt8 → Option (List UInt8 × List UInt8)
  | [], _, _ => none
  | b :: t, m, acc => if printB b then (if !m && b == 34 then some (acc, t) else if !m && b == 92 then unqL t true acc else unqL t false (acc ++ [b])) else none
def aloneV (s : List UInt8) : Option (Pth × List UInt8) :=
  if hasC 62 s then (if preC 62 s == [] then some (([], []), postC 62 s) else if smallL (preC 62 s) == pmL then some ((pmL, []), postC 62 s) else none) else none
/-- A text behind a sign that it begins with. -/
def cutP (c : UInt8) (s : List UInt8) : List UInt8 × Bool := if s.head? == some c then (s.drop 1, true) else (s, false)
def unqV (s : List UInt8) : List UInt8 × List UInt8 × Bool := match unqL s false [] with | none => ([], [], false) | some (a, r) => (a, r, true)
def localV (s : List UInt8) : List UInt8 × List UInt8 × Bool :=
  if s.head? == some 34 then ((unqV (s.drop 1)).1, (cutP 64 (unqV (s.drop 1)).2.1).1, (unqV (s.drop 1)).2.2 && (cutP 64 (unqV (s.drop 1)).2.1).2 && (unqV (s.drop 1)).1 != [])
  else (preC 64 s, postC 64 s, hasC 64 s && atoms (preC 64 s))
def endV (loc behind : List UInt8) (isl : Bool) : Pth × List UInt8 × Int :=
  if isl && hasC 62 behind && labels (preC 62 behind) then (if longB (loc, smallL (preC 62 behind)) then (([], []), [], 3) else ((loc, smallL (preC 62 behind)), postC 62 behind, 0)) else (([], []), [], 2)
def parseV (s : List UInt8) : Pth × List UInt8 × Int :=
  if s.head? == some 60 then
    match aloneV (s.drop 1) with
    | some (p, r) => (p, r, 0)
    | none => endV (localV (s.drop 1)).1 (localV (s.drop 1)).2.1 (localV (s.drop 1)).2.2
  else (([], []), [], 2)
def domainE (s : List UInt8) : Int := if 255 < s.length then 3 else if labels s then 0 else 2
def domainV (s : List UInt8) : List UInt8 := if domainE s = 0 then smallL s else []
/-- Texts side by side: of the paths, from the one of this number on. -/
def joinE : List Pth → Int
  | [] => 0
  | p :: r => if rightE p = 0 then joinE r else rightE p
def joinG : List Pth → List UInt8
  | [] => []
  | p :: r => [32] ++ textL p ++ joinG r
def joinT : List Pth → List UInt8
  | [] => []
  | p :: r => textL p ++ joinG r
def joinV (l : List Pth) : List UInt8 := if joinE l = 0 then joinT l else []

/- Bytes. -/
theorem small_small (b : UInt8) : smallB (smallB b) = smallB b := beq_iff_eq.1 (all_bytes (P := fun b => smallB (smallB b) == smallB b) (by decide +kernel) b)
theorem small_cap (b : UInt8) : capB (smallB b) = false := by
  have := all_bytes (P := fun b => !capB (smallB b)) (by decide +kernel) b
  simpa using this
theorem small_lab (b : UInt8) : labB (smallB b) = labB b := beq_iff_eq.1 (all_bytes (P := fun b => labB (smallB b) == labB b) (by decide +kernel) b)
theorem small_45 (b : UInt8) : (smallB b == 45) = (b == 45) := beq_iff_eq.1 (all_bytes (P := fun b => (smallB b == 45) == (b == 45)) (by decide +kernel) b)
theorem small_46 (b : UInt8) : (smallB b == 46) = (b == 46) := beq_iff_eq.1 (all_bytes (P := fun b => (smallB b == 46) == (b == 46)) (by decide +kernel) b)
theorem small_34 (b : UInt8) : (smallB b == 34) = (b == 34) := beq_iff_eq.1 (all_bytes (P := fun b => (smallB b == 34) == (b == 34)) (by decide +kernel) b)
theorem small_64 (b : UInt8) : (smallB b == 64) = (b == 64) := beq_iff_eq.1 (all_bytes (P := fun b => (smallB b == 64) == (b == 64)) (by decide +kernel) b)
theorem smallL_small (l : List UInt8) : smallL (smallL l) = smallL l := by simp [smallL, small_small]
theorem smallL_length (l : List UInt8) : (smallL l).length = l.length := by simp [smallL]
/-- Signs of atoms, and of labels, are no signs of a text's frame. -/
theorem atom_is {b : UInt8} (h : (atomB b || b == 46) = true) : b ≠ 34 ∧ b ≠ 62 ∧ b ≠ 64 ∧ printB b = true := by
  have := all_bytes (P := fun b => !(atomB b || b == 46) || (b != 34 && b != 62 && b != 64 && printB b)) (by decide +kernel) b
  rw [h] at this
  simpa [and_assoc] using this
theorem lab_is {b : UInt8} (h : (labB b || b == 46) = true) : b ≠ 62 := by
  have := all_bytes (P := fun b => !(labB b || b == 46) || b != 62) (by decide +kernel) b
  rw [h] at this
  simpa using this

/- A sign, and what stands ahead of it and behind. -/
theorem cut_at {c : UInt8} {a : List UInt8} (b : List UInt8) (h : c ∉ a) : hasC c (a ++ c :: b) = true ∧ preC c (a ++ c :: b) = a ∧ postC c (a ++ c :: b) = b := by
  have h' : ∀ x ∈ a, (x != c) = true := fun x hx => bne_iff_ne.2 fun e => h (e ▸ hx)
  refine ⟨by simp [hasC], ?_, ?_⟩
  · rw [preC, List.takeWhile_append_of_pos h', List.takeWhile_cons_of_neg (by simp), List.append_nil]
  · rw [postC, List.dropWhile_append_of_pos h', List.dropWhile_cons_of_neg (by simp)]
    rfl
theorem cut_of {c : UInt8} {l : List UInt8} (h : hasC c l = true) : c ∉ preC c l ∧ l = preC c l ++ c :: postC c l := by
  have hm : c ∈ l := by simpa [hasC] using h
  clear h
  induction l with
  | nil => simp at hm
  | cons b t ih =>
    by_cases e : b = c
    · subst e
      refine ⟨by simp [preC], by simp [preC, postC]⟩
    · have hm' : c ∈ t := by
        rcases List.mem_cons.1 hm with e' | h'
        · exact absurd e'.symm e
        · exact h'
      obtain ⟨h1, h2⟩ := ih hm'
      have e1 : preC c (b :: t) = b :: preC c t := by simp [preC, e]
      have e2 : postC c (b :: t) = postC c t := by simp [postC, e]
      rw [e1, e2]
      refine ⟨fun h' => ?_, by rw [List.cons_append, ← h2]⟩
      rcases List.mem_cons.1 h' with e' | h''
      · exact e e'.symm
      · exact h1 h''
theorem cut_no {c : UInt8} {l : List UInt8} (h : hasC c l = false) : preC c l = l ∧ postC c l = [] := by
  have h' : ∀ x ∈ l, (x != c) = true := fun x hx => bne_iff_ne.2 fun e => by
    have : hasC c l = true := by simpa [hasC] using (e ▸ hx)
    rw [h] at this; cases this
  have e := List.takeWhile_append_of_pos (l₂ := []) h'
  have d := List.dropWhile_append_of_pos (l₂ := []) h'
  rw [List.append_nil] at e d
  refine ⟨?_, ?_⟩
  · rw [preC, e]; simp
  · rw [postC, d]; rfl

/- Parts. -/
theorem splitG_cat (b : List UInt8) : ∀ (a acc : List UInt8), splitG acc (a ++ 46 :: b) = splitG acc a ++ splitG [] b
  | [], acc => by simp [splitG]
  | x :: a, acc => by
    rw [List.cons_append, splitG, splitG]
    split
    · rw [splitG_cat b a []]; rfl
    · exact splitG_cat b a _
theorem splitD_cat (a b : List UInt8) : splitD (a ++ 46 :: b) = splitD a ++ splitD b := splitG_cat b a []
theorem splitG_one : ∀ (a acc : List UInt8), 46 ∉ a → splitG acc a = [acc ++ a]
  | [], acc, _ => by simp [splitG]
  | x :: a, acc, h => by
    have hx : (x == 46) = false := beq_eq_false_iff_ne.2 fun e => h (e ▸ List.mem_cons_self ..)
    rw [splitG, hx, if_neg (by simp), splitG_one a _ (fun h' => h (List.mem_cons_of_mem _ h'))]
    simp
theorem splitD_yes {l : List UInt8} (h : hasC 46 l = true) : splitD l = preC 46 l :: splitD (postC 46 l) := by
  obtain ⟨h1, h2⟩ := cut_of h
  rw [splitD, congrArg (splitG []) h2, splitG_cat, splitG_one _ _ h1]
  rfl
theorem splitD_no {l : List UInt8} (h : hasC 46 l = false) : splitD l = [l] := by
  rw [splitD, splitG_one _ _ (fun h' => by have : hasC 46 l = true := by simpa [hasC] using h'
                                           rw [h] at this; cases this)]
  rfl
theorem splitD_len (l : List UInt8) : (splitD l).length ≤ l.length + 1 := by
  have : ∀ (l acc : List UInt8), (splitG acc l).length ≤ l.length + 1 := by
    intro l
    induction l with
    | nil => intro acc; simp [splitG]
    | cons b t ih =>
      intro acc
      rw [splitG]
      split
      · have := ih []; simp; omega
      · have := ih (acc ++ [b]); simp; omega
  exact this l []
theorem split_all (f : UInt8 → Bool) : ∀ (l acc : List UInt8), (splitG acc l).all (fun p => p.all f) = (acc.all f && l.all fun b => f b || b == 46)
  | [], acc => by simp [splitG]
  | b :: t, acc => by
    rw [splitG]
    split
    · rename_i h
      rw [List.all_cons, split_all f t [], List.all_cons, h]
      simp
    · rename_i h
      rw [split_all f t, List.all_append, List.all_cons]
      simp [Bool.not_eq_true _ ▸ h, Bool.and_assoc]
theorem split_map (f : UInt8 → UInt8) (hf : ∀ b, (f b == 46) = (b == 46)) : ∀ (l acc : List UInt8), splitG (acc.map f) (l.map f) = (splitG acc l).map (List.map f)
  | [], acc => by simp [splitG]
  | b :: t, acc => by
    rw [List.map_cons, splitG, splitG, hf]
    split
    · rw [List.map_cons, ← split_map f hf t []]; rfl
    · rw [← split_map f hf t]; simp
theorem atoms_mem {l : List UInt8} (h : atoms l = true) : ∀ b ∈ l, (atomB b || b == 46) = true := by
  have h1 : (splitG [] l).all (fun p => p.all atomB) = true := by
    rw [atoms, List.all_eq_true] at h
    rw [List.all_eq_true]
    intro p hp
    have := h p hp
    simp only [isAtom, Bool.and_eq_true] at this
    exact this.2
  rw [split_all] at h1
  simp only [List.all_nil, Bool.true_and] at h1
  exact List.all_eq_true.1 h1
theorem labels_mem {l : List UInt8} (h : labels l = true) : ∀ b ∈ l, (labB b || b == 46) = true := by
  have h1 : (splitG [] l).all (fun p => p.all labB) = true := by
    rw [labels, List.all_eq_true] at h
    rw [List.all_eq_true]
    intro p hp
    have := h p hp
    simp only [isLab, Bool.and_eq_true] at this
    exact this.2
  rw [split_all] at h1
  simp only [List.all_nil, Bool.true_and] at h1
  exact List.all_eq_true.1 h1
theorem atoms_ne {l : List UInt8} (h : atoms l = true) : l ≠ [] := by rintro rfl; simp [atoms, splitD, splitG, isAtom] at h
theorem labels_ne {l : List UInt8} (h : labels l = true) : l ≠ [] := by rintro rfl; simp [labels, splitD, splitG, isLab] at h
theorem atoms_frame {l : List UInt8} (h : atoms l = true) : 34 ∉ l ∧ 62 ∉ l ∧ 64 ∉ l ∧ l.all printB = true :=
  ⟨fun h' => (atom_is (atoms_mem h _ h')).1 rfl, fun h' => (atom_is (atoms_mem h _ h')).2.1 rfl, fun h' => (atom_is (atoms_mem h _ h')).2.2.1 rfl, List.all_eq_true.2 fun b hb => (atom_is (atoms_mem h b hb)).2.2.2⟩
theorem labels_frame {l : List UInt8} (h : labels l = true) : 62 ∉ l := fun h' => lab_is (labels_mem h _ h') rfl
theorem isLab_map (f : UInt8 → UInt8) (h45 : ∀ b, (f b == 45) = (b == 45)) (hl : ∀ b, labB (f b) = labB b) (p : List UInt8) : isLab (p.map f) = isLab p := by
  have e45 : ∀ o : Option UInt8, ((o.map f) != some 45) = (o != some 45) := by
    rintro (_ | b)
    · rfl
    · have := h45 b
      simp only [Option.map_some, bne, Option.some_beq_some, this]
  simp only [isLab, List.length_map, List.head?_map, List.getLast?_map, e45, List.all_map]
  congr 1
  · congr 1
    congr 1
    congr 1
    cases p <;> rfl
  · congr 1
    funext b
    exact hl b
theorem labels_map (f : UInt8 → UInt8) (h46 : ∀ b, (f b == 46) = (b == 46)) (h45 : ∀ b, (f b == 45) = (b == 45)) (hl : ∀ b, labB (f b) = labB b) (l : List UInt8) : labels (l.map f) = labels l := by
  rw [labels, labels, splitD, splitD, show splitG [] (l.map f) = splitG ([].map f) (l.map f) from rfl, split_map f h46, List.all_map]
  congr 1
  funext p
  exact isLab_map f h45 hl p
theorem labels_small (l : List UInt8) : labels (smallL l) = labels l := labels_map smallB small_46 small_45 small_lab l
theorem labels_cat (a b : List UInt8) : labels (a ++ 46 :: b) = (labels a && labels b) := by rw [labels, splitD_cat, List.all_append]; rfl

/- Between quotes. -/
theorem unq_quo (r : List UInt8) : ∀ (l acc : List UInt8), l.all printB = true → unqL (quoL l ++ 34 :: r) false acc = some (acc ++ l, r)
  | [], acc, _ => by simp [quoL, unqL, show printB 34 = true by decide]
  | b :: l, acc, h => by
    rw [List.all_cons, Bool.and_eq_true] at h
    have e : quoL (b :: l) ++ 34 :: r = quoB b ++ (quoL l ++ 34 :: r) := by simp [quoL]
    rw [e, quoB]
    split
    · rename_i hb
      have hb' : printB 92 = true := by decide
      simp only [List.cons_append, List.nil_append, unqL, hb', h.1, if_true, Bool.not_false, Bool.true_and, Bool.not_true, Bool.false_and]
      rw [if_neg (by decide), if_pos (by decide), if_neg (by decide), if_neg (by decide), unq_quo r l _ h.2]
      simp
    · rename_i hb
      have h34 : (b == 34) = false := by cases e34 : b == 34 <;> simp_all
      have h92 : (b == 92) = false := by cases e92 : b == 92 <;> simp_all
      simp only [List.cons_append, List.nil_append, unqL, h.1, if_true, h34, h92, Bool.and_false]
      rw [if_neg (by decide), if_neg (by decide), unq_quo r l _ h.2]
      simp
theorem unq_esc (r : List UInt8) : ∀ (l acc : List UInt8), l.all printB = true → unqL (l.flatMap (fun b => [92, b]) ++ 34 :: r) false acc = some (acc ++ l, r)
  | [], acc, _ => by simp [unqL, show printB 34 = true by decide]
  | b :: l, acc, h => by
    rw [List.all_cons, Bool.and_eq_true] at h
    have e : (b :: l).flatMap (fun b => [92, b]) ++ 34 :: r = 92 :: b :: (l.flatMap (fun b => [92, b]) ++ 34 :: r) := by simp
    rw [e]
    have hb' : printB 92 = true := by decide
    simp only [unqL, hb', h.1, if_true, Bool.not_false, Bool.true_and, Bool.not_true, Bool.false_and]
    rw [if_neg (by decide), if_pos (by decide), if_neg (by decide), if_neg (by decide), unq_esc r l _ h.2]
    simp
theorem unq_some : ∀ (l : List UInt8) (m : Bool) (acc a r : List UInt8), unqL l m acc = some (a, r) → acc.all printB = true → a.all printB = true ∧ ∃ k, l = k ++ r
  | [], m, acc, a, r, h, _ => by simp [unqL] at h
  | b :: t, m, acc, a, r, h, ha => by
    rw [unqL] at h
    split at h
    · rename_i hb
      split at h
      · injection h with h
        injection h with h1 h2
        subst h1; subst h2
        exact ⟨ha, [b], rfl⟩
      · split at h
        · obtain ⟨h1, k, rfl⟩ := unq_some t true acc a r h ha
          exact ⟨h1, b :: k, rfl⟩
        · obtain ⟨h1, k, rfl⟩ := unq_some t false (acc ++ [b]) a r h (by simp [ha, hb])
          exact ⟨h1, b :: k, rfl⟩
    · cases h

theorem alone_no {s : List UInt8} (h1 : preC 62 s ≠ []) (h2 : smallL (preC 62 s) ≠ pmL) : aloneV s = none := by
  rw [aloneV]
  split
  · rw [if_neg (by simpa using h1), if_neg (by simpa using h2)]
  · rfl
theorem right_ok {p : Pth} (h : rightE p = 0) : longB p = false ∧ formB p = true := by
  unfold rightE at h
  split at h
  · cases h
  · split at h
    · rename_i h1 h2
      exact ⟨by simpa using h1, h2⟩
    · cases h
theorem right_iff {p : Pth} : rightE p = 0 ↔ longB p = false ∧ formB p = true :=
  ⟨right_ok, fun ⟨h1, h2⟩ => by simp [rightE, h1, h2]⟩
/-- What was printed is read, whatever stands behind it. -/
theorem parse_text {p : Pth} (h : rightE p = 0) (behind : List UInt8) : parseV (textL p ++ behind) = (p, behind, 0) := by
  obtain ⟨hl, hf⟩ := right_ok h
  obtain ⟨loc, dom⟩ := p
  by_cases hn : nullB (loc, dom) = true
  · simp only [nullB, Bool.and_eq_true, beq_iff_eq] at hn
    obtain ⟨rfl, rfl⟩ := hn
    obtain ⟨c1, c2, c3⟩ := cut_at (c := 62) (a := []) behind (by simp)
    simp only [List.nil_append] at c1 c2 c3
    simp [textL, nullB, parseV, aloneV, c1, c2, c3]
  by_cases hh : hostB (loc, dom) = true
  · simp only [hostB, Bool.and_eq_true, beq_iff_eq] at hh
    obtain ⟨rfl, rfl⟩ := hh
    obtain ⟨c1, c2, c3⟩ := cut_at (c := 62) (a := pmL) behind (by decide)
    have e : textL (pmL, []) ++ behind = 60 :: (pmL ++ 62 :: behind) := by simp [textL, hostB]
    rw [e, parseV]
    simp only [List.head?_cons, List.drop_succ_cons, List.drop_zero, aloneV, c1, c2, c3]
    simp [show (pmL == []) = false by decide, show smallL pmL = pmL by decide]
  have hn' : nullB (loc, dom) = false := by simpa using hn
  have hh' : hostB (loc, dom) = false := by simpa using hh
  simp only [formB, hn', hh', Bool.or_self, Bool.false_or, Bool.and_eq_true, beq_iff_eq, bne_iff_ne] at hf
  obtain ⟨⟨⟨h1, h2⟩, h3⟩, h4⟩ := hf
  have h62 := labels_frame h3
  obtain ⟨d1, d2, d3⟩ := cut_at behind h62
  have HE : endV loc (dom ++ 62 :: behind) true = ((loc, dom), behind, 0) := by simp [endV, d1, d2, d3, h3, h4, hl]
  by_cases ha : atoms loc = true
  · obtain ⟨a34, a62, a64, _⟩ := atoms_frame ha
    have e : textL (loc, dom) ++ behind = 60 :: (loc ++ 64 :: (dom ++ 62 :: behind)) := by simp [textL, hn', hh', locL, ha]
    have e2 : loc ++ 64 :: (dom ++ 62 :: behind) = (loc ++ 64 :: dom) ++ 62 :: behind := by simp
    obtain ⟨c1, c2, c3⟩ := cut_at (c := 62) (a := loc ++ 64 :: dom) behind (by simp [a62, h62])
    obtain ⟨f1, f2, f3⟩ := cut_at (c := 64) (a := loc) (dom ++ 62 :: behind) a64
    have hA : aloneV (loc ++ 64 :: (dom ++ 62 :: behind)) = none := by
      refine alone_no ?_ ?_
      · rw [e2, c2]; simp
      · rw [e2, c2]
        intro hc
        have : (64 : UInt8) ∈ pmL := by rw [← hc]; simp only [smallL, List.mem_map]; exact ⟨64, by simp, by decide⟩
        exact absurd this (by decide)
    have hq : ((loc ++ 64 :: (dom ++ 62 :: behind)).head? == some 34) = false := by
      cases loc with
      | nil => exact absurd rfl h1
      | cons x t => simp only [List.cons_append, List.head?_cons, Option.some_beq_some]; exact beq_eq_false_iff_ne.2 fun e => a34 (e ▸ List.mem_cons_self ..)
    rw [e, parseV]
    simp only [List.head?_cons, List.drop_succ_cons, List.drop_zero, hA, localV, hq]
    simp only [f1, f2, f3, ha, beq_self_eq_true, if_true, Bool.and_self]
    exact HE
  · have ha' : atoms loc = false := by simpa using ha
    have e : textL (loc, dom) ++ behind = 60 :: 34 :: (quoL loc ++ 34 :: 64 :: (dom ++ 62 :: behind)) := by simp [textL, hn', hh', locL, ha']
    have hA : aloneV (34 :: (quoL loc ++ 34 :: 64 :: (dom ++ 62 :: behind))) = none := by
      have e3 : ∀ t, preC 62 (34 :: t) = 34 :: preC 62 t := fun t => by simp [preC]
      refine alone_no (by rw [e3]; simp) ?_
      rw [e3]
      intro hc
      have : (smallL (34 :: preC 62 (quoL loc ++ 34 :: 64 :: (dom ++ 62 :: behind)))).head? = pmL.head? := by rw [hc]
      simp [smallL, pmL, smallB, capB] at this
    have hU : unqV (quoL loc ++ 34 :: 64 :: (dom ++ 62 :: behind)) = (loc, 64 :: (dom ++ 62 :: behind), true) := by rw [unqV, unq_quo _ _ _ h2]; simp
    rw [e, parseV]
    simp only [List.head?_cons, List.drop_succ_cons, List.drop_zero, hA, localV, hU, cutP, beq_self_eq_true, if_true, Bool.and_self, Bool.true_and]
    rw [show (loc != []) = true from bne_iff_ne.2 h1]
    exact HE
/-- What is read of any bytes is right, and stands at their front. -/
theorem parse_right {s : List UInt8} {x : Pth} {rest : List UInt8} (h : parseV s = (x, rest, 0)) : rightE x = 0 ∧ ∃ k, s = k ++ rest ∧ k ≠ [] := by
  rw [parseV] at h
  split at h
  · rename_i h60
    obtain ⟨t, rfl⟩ : ∃ t, s = 60 :: t := by
      cases s with
      | nil => simp at h60
      | cons b t => simp at h60; exact ⟨t, by rw [h60]⟩
    rw [List.drop_succ_cons, List.drop_zero] at h
    split at h
    · rename_i p r ha
      injection h with h1 h2
      injection h2 with h2 _
      subst h1; subst h2
      rw [aloneV] at ha
      split at ha
      · rename_i hc
        obtain ⟨_, c2⟩ := cut_of hc
        have hk : ∃ k, 60 :: t = k ++ postC 62 t ∧ k ≠ [] := by
          refine ⟨60 :: (preC 62 t ++ [62]), ?_, by simp⟩
          conv => lhs; rw [c2]
          simp
        split at ha
        · injection ha with ha; injection ha with h1 h2
          subst h1; subst h2
          exact ⟨by decide, hk⟩
        · split at ha
          · injection ha with ha; injection ha with h1 h2
            subst h1; subst h2
            exact ⟨by decide, hk⟩
          · cases ha
      · cases ha
    · have key : ∀ loc behind isl, endV loc behind isl = (x, rest, 0) → (isl = true → loc ≠ [] ∧ loc.all printB = true ∧ ∃ k, t = k ++ behind) → rightE x = 0 ∧ ∃ k, 60 :: t = k ++ rest ∧ k ≠ [] := by
        intro loc behind isl he hl
        rw [endV] at he
        split at he
        · rename_i hc
          simp only [Bool.and_eq_true] at hc
          obtain ⟨⟨rfl, h62⟩, hlab⟩ := hc
          obtain ⟨l1, l2, k, hk⟩ := hl rfl
          split at he
          · simp at he
          · rename_i hlong
            injection he with h1 h2
            injection h2 with h2 _
            subst h1; subst h2
            refine ⟨right_iff.2 ⟨by simpa using hlong, ?_⟩, 60 :: (k ++ preC 62 behind ++ [62]), ?_, by simp⟩
            · have hls := labels_small (preC 62 behind)
              simp [formB, l1, l2, hls, hlab, smallL_small]
            · obtain ⟨_, c2⟩ := cut_of h62
              rw [hk]
              conv => lhs; rw [c2]
              simp
        · simp at he
      refine key _ _ _ h ?_
      intro hi
      rw [localV] at hi ⊢
      split at hi
      · rename_i h34
        rw [if_pos h34]
        obtain ⟨u, rfl⟩ : ∃ u, t = 34 :: u := by
          cases t with
          | nil => simp at h34
          | cons b t => simp at h34; exact ⟨t, by rw [h34]⟩
        rw [List.drop_succ_cons, List.drop_zero] at hi ⊢
        simp only [Bool.and_eq_true, bne_iff_ne] at hi
        obtain ⟨⟨i1, i2⟩, i3⟩ := hi
        unfold unqV at i1 i2 i3 ⊢
        split at i1
        · cases i1
        · rename_i a r hu
          simp only [hu] at i2 i3 ⊢
          obtain ⟨p1, k, rfl⟩ := unq_some _ _ _ _ _ hu (by simp)
          refine ⟨i3, p1, ?_⟩
          unfold cutP at i2 ⊢
          split at i2
          · rename_i h64
            rw [if_pos h64]
            cases r with
            | nil => simp at h64
            | cons b r => exact ⟨34 :: (k ++ [b]), by simp⟩
          · cases i2
      · rename_i h34
        rw [if_neg h34]
        simp only [Bool.and_eq_true] at hi
        obtain ⟨_, c2⟩ := cut_of hi.1
        obtain ⟨_, _, _, hp⟩ := atoms_frame hi.2
        exact ⟨atoms_ne hi.2, hp, preC 64 t ++ [64], by conv => lhs; rw [c2]
                                                        simp⟩
  · simp at h
theorem text_inj {p q : Pth} (hp : rightE p = 0) (hq : rightE q = 0) (h : textL p = textL q) : p = q := by
  have h1 := parse_text hp []
  rw [h, parse_text hq []] at h1
  injection h1 with h1 _
  exact h1.symm
theorem print_no {p : Pth} (h : rightE p ≠ 0) : printV p = [] := if_neg h
theorem print_yes {p : Pth} (h : rightE p = 0) : printV p = textL p := if_pos h
end Go.Proofs.YtojpkbonioglbaaGreatDoor.P
