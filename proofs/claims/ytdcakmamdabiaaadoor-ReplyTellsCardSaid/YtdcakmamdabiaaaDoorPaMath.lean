/-
  Plain mathematics: what is said beside paths, as texts, read (no model).
-/
import Derived.Test.YtdcakmamdabiaaaDoorXtMath
import Derived.Test.YtdcakmamdabiaaaDoorPrBack
import Derived.Lib.Atoi
import Derived.Lib.Join
namespace Go.Proofs.YtdcakmamdabiaaaDoor
set_option maxRecDepth 100000

abbrev Txt := List UInt8
/-- A small letter, capital letters in place of small ones, a letter or a digit. -/
def smlB (b : UInt8) : Bool := decide (97 ≤ b.toNat) && decide (b.toNat ≤ 122)
def upB (b : UInt8) : UInt8 := if smlB b then b - 32 else b
def upL (l : Txt) : Txt := l.map upB
def alnB (b : UInt8) : Bool := (decide (65 ≤ b.toNat) && decide (b.toNat ≤ 90)) || smlB b || digB b

/- A sign, what stands ahead of it and behind; the parts between signs. -/
def hasC (c : UInt8) (l : Txt) : Bool := l.contains c
def preC (c : UInt8) (l : Txt) : Txt := l.takeWhile (· != c)
def postC (c : UInt8) (l : Txt) : Txt := (l.dropWhile (· != c)).drop 1
def cutP (c : UInt8) (s : Txt) : Txt × Bool := if s.head? == some c then (s.drop 1, true) else (s, false)
def splitG (c : UInt8) : Txt → Txt → List Txt
  | acc, [] => [acc]
  | acc, b :: t => if b == c then acc :: splitG c [] t else splitG c (acc ++ [b]) t
def splitC (c : UInt8) (l : Txt) : List Txt := splitG c [] l
theorem cut_at {c : UInt8} {a : Txt} (b : Txt) (h : c ∉ a) : hasC c (a ++ c :: b) = true ∧ preC c (a ++ c :: b) = a ∧ postC c (a ++ c :: b) = b := by
  have h' : ∀ x ∈ a, (x != c) = true := fun x hx => bne_iff_ne.2 fun e => h (e ▸ hx)
  refine ⟨by simp [hasC], ?_, ?_⟩
  · rw [preC, List.takeWhile_append_of_pos h', List.takeWhile_cons_of_neg (by simp), List.append_nil]
  · rw [postC, List.dropWhile_append_of_pos h', List.dropWhile_cons_of_neg (by simp)]
    rfl
theorem cut_of {c : UInt8} {l : Txt} (h : hasC c l = true) : c ∉ preC c l ∧ l = preC c l ++ c :: postC c l := by
  have hm : c ∈ l := by simpa [hasC] using h
  clear h
  induction l with
  | nil => simp at hm
  | cons b t ih =>
    by_cases e : b = c
    · subst e
      refine ⟨by simp [preC], by simp [preC, postC]⟩
    · have hm' : c ∈ t := by
        rcases List.mem_cons.1 hm with e' | h'
        · exact absurd e'.symm e
        · exact h'
      obtain ⟨h1, h2⟩ := ih hm'
      have e1 : preC c (b :: t) = b :: preC c t := by simp [preC, e]
      have e2 : postC c (b :: t) = postC c t := by simp [postC, e]
      rw [e1, e2]
      refine ⟨fun h' => ?_, by rw [List.cons_append, ← h2]⟩
      rcases List.mem_cons.1 h' with e' | h''
      · exact e e'.symm
      · exact h1 h''
theorem cut_no {c : UInt8} {l : Txt} (h : hasC c l = false) : preC c l = l ∧ postC c l = [] := by
  have h' : ∀ x ∈ l, (x != c) = true := fun x hx => bne_iff_ne.2 fun e => by
    have : hasC c l = true := by simpa [hasC] using (e ▸ hx)
    rw [h] at this; cases this
  have e := List.takeWhile_append_of_pos (l₂ := []) h'
  have d := List.dropWhile_append_of_pos (l₂ := []) h'
  rw [List.append_nil] at e d
  refine ⟨?_, ?_⟩
  · rw [preC, e]; simp
  · rw [postC, d]; rfl
theorem hasC_mem {c : UInt8} {l : Txt} : hasC c l = true ↔ c ∈ l := by simp [hasC]
theorem hasC_not {c : UInt8} {l : Txt} : hasC c l = false ↔ c ∉ l := by simp [hasC]
theorem post_len {c : UInt8} {r : Txt} (h : hasC c r = true) : (postC c r).length < r.length := by
  have := (cut_of h).2
  have e := congrArg List.length this
  simp at e
  omega
theorem post_le (c : UInt8) (r : Txt) : (postC c r).length ≤ r.length := by
  cases h : hasC c r
  · rw [(cut_no h).2]; simp
  · exact Nat.le_of_lt (post_len h)
theorem pre_le (c : UInt8) (r : Txt) : (preC c r).length ≤ r.length := by
  cases h : hasC c r
  · rw [(cut_no h).1]; exact Nat.le_refl _
  · have := congrArg List.length (cut_of h).2
    simp at this
    omega
theorem splitG_cat (c : UInt8) (b : Txt) : ∀ (a acc : Txt), splitG c acc (a ++ c :: b) = splitG c acc a ++ splitG c [] b
  | [], acc => by simp [splitG]
  | x :: a, acc => by
    rw [List.cons_append, splitG, splitG]
    split
    · rw [splitG_cat c b a []]; rfl
    · exact splitG_cat c b a _
theorem splitC_cat (c : UInt8) (a b : Txt) : splitC c (a ++ c :: b) = splitC c a ++ splitC c b := splitG_cat c b a []
theorem splitG_one (c : UInt8) : ∀ (a acc : Txt), c ∉ a → splitG c acc a = [acc ++ a]
  | [], acc, _ => by simp [splitG]
  | x :: a, acc, h => by
    have h1 : ¬ (x == c) = true := fun e => h (by rw [beq_iff_eq.1 e]; simp)
    rw [splitG, if_neg h1, splitG_one c a _ (fun h' => h (List.mem_cons_of_mem _ h'))]
    simp
theorem splitC_one {c : UInt8} {a : Txt} (h : c ∉ a) : splitC c a = [a] := splitG_one c a [] h
theorem splitC_yes {c : UInt8} {l : Txt} (h : hasC c l = true) : splitC c l = preC c l :: splitC c (postC c l) := by
  obtain ⟨h1, h2⟩ := cut_of h
  rw [splitC, congrArg (splitG c []) h2, splitG_cat, splitG_one _ _ _ h1]
  rfl
theorem splitC_no {c : UInt8} {l : Txt} (h : hasC c l = false) : splitC c l = [l] := splitC_one (hasC_not.1 h)
theorem splitG_ne (c : UInt8) (acc l : Txt) : splitG c acc l ≠ [] := by
  induction l generalizing acc with
  | nil => simp [splitG]
  | cons b t ih =>
    rw [splitG]
    split
    · simp
    · exact ih _
theorem splitC_ne (c : UInt8) (l : Txt) : splitC c l ≠ [] := splitG_ne c [] l
theorem splitG_free (c : UInt8) : ∀ (l acc : Txt), c ∉ acc → ∀ x ∈ splitG c acc l, c ∉ x
  | [], acc, h, x, hx => by simp [splitG] at hx; rw [hx]; exact h
  | b :: t, acc, h, x, hx => by
    rw [splitG] at hx
    split at hx
    · rcases List.mem_cons.1 hx with rfl | hx
      · exact h
      · exact splitG_free c t [] (by simp) x hx
    · rename_i hb
      refine splitG_free c t (acc ++ [b]) (fun h' => ?_) x hx
      rcases List.mem_append.1 h' with h' | h'
      · exact h h'
      · exact hb (by rw [List.mem_singleton.1 h']; simp)
theorem splitC_free {c : UInt8} {l x : Txt} (h : x ∈ splitC c l) : c ∉ x := splitG_free c l [] (by simp) x h
theorem splitC_le (c : UInt8) (s : Txt) : ∀ x ∈ splitC c s, x.length ≤ s.length := by
  have : ∀ (l acc : Txt), ∀ x ∈ splitG c acc l, x.length ≤ acc.length + l.length := by
    intro l
    induction l with
    | nil => intro acc x hx; simp [splitG] at hx; subst hx; simp
    | cons b t ih =>
      intro acc x hx
      rw [splitG] at hx
      split at hx
      · rcases List.mem_cons.1 hx with rfl | hx
        · simp
        · have := ih [] x hx; simp at this; simp; omega
      · have := ih (acc ++ [b]) x hx; simp at this; simp; omega
  intro x hx
  have := this s [] x hx
  simpa using this
theorem splitC_len (c : UInt8) (l : Txt) : (splitC c l).length ≤ l.length + 1 := by
  have : ∀ (l acc : Txt), (splitG c acc l).length ≤ l.length + 1 := by
    intro l
    induction l with
    | nil => intro acc; simp [splitG]
    | cons b t ih =>
      intro acc
      rw [splitG]
      split
      · have := ih []; simp; omega
      · have := ih (acc ++ [b]); simp; omega
  exact this l []
/-- Texts with a sign between each two. -/
def joinC (c : UInt8) : List Txt → Txt
  | [] => []
  | [a] => a
  | a :: b :: r => a ++ c :: joinC c (b :: r)
theorem splitC_join (c : UInt8) : ∀ (l : List Txt), l ≠ [] → (∀ x ∈ l, c ∉ x) → splitC c (joinC c l) = l
  | [], h, _ => absurd rfl h
  | [a], _, h => splitC_one (h a (by simp))
  | a :: b :: r, _, h => by
    rw [joinC, splitC_cat, splitC_one (h a (by simp)), splitC_join c (b :: r) (by simp) (fun x hx => h x (List.mem_cons_of_mem _ hx))]
    rfl
theorem joinC_split (c : UInt8) (l : Txt) : ∀ (n : Nat), l.length ≤ n → joinC c (splitC c l) = l := by
  intro n
  induction n generalizing l with
  | zero =>
    intro h
    have : l = [] := List.eq_nil_of_length_eq_zero (by omega)
    subst this
    rfl
  | succ n ih =>
    intro h
    cases hh : hasC c l
    · rw [splitC_no hh]; rfl
    · have := post_len hh
      rw [splitC_yes hh]
      obtain ⟨y, r, e⟩ : ∃ y r, splitC c (postC c l) = y :: r := by
        cases hs : splitC c (postC c l) with
        | nil => exact absurd hs (splitC_ne _ _)
        | cons y r => exact ⟨y, r, rfl⟩
      rw [e, joinC, ← e, ih _ (by omega)]
      exact (cut_of hh).2.symm
theorem joinC_intercalate (c : UInt8) : ∀ l : List Txt, Lib.join l [c] = joinC c l
  | [] => rfl
  | [a] => by simp [Lib.join, joinC, List.intercalate]
  | a :: b :: r => by
    rw [joinC, ← joinC_intercalate c (b :: r)]
    simp [Lib.join, List.intercalate]

/- Words, one behind the other: generally. -/
section
variable {σ : Type} (isK : Txt → Bool) (err : Txt → Txt → Int) (set : Txt → Txt → σ → σ)
def keyW (w : Txt) : Txt := upL (preC 61 w)
def valW (w : Txt) : Txt := postC 61 w
def wordE (seen : List Txt) (w : Txt) : Int := if w = [] then 2 else if isK (keyW w) = false then 10 else if keyW w ∈ seen then 11 else err (keyW w) (valW w)
def errs : List Txt → List Txt → Int
  | _, [] => 0
  | seen, w :: ws => if wordE isK err seen w = 0 then errs (keyW w :: seen) ws else wordE isK err seen w
def fin (ws : List Txt) (st : σ) : σ := ws.foldl (fun st w => set (keyW w) (valW w) st) st
def GoodW (w : Txt) : Prop := w ≠ [] ∧ isK (keyW w) = true ∧ err (keyW w) (valW w) = 0
theorem wordE_zero {seen : List Txt} {w : Txt} : wordE isK err seen w = 0 ↔ GoodW isK err w ∧ keyW w ∉ seen := by
  unfold wordE GoodW
  by_cases h1 : w = []
  · simp [h1]
  · rw [if_neg h1]
    cases h2 : isK (keyW w)
    · simp
    · simp only [Bool.true_eq_false, if_false]
      by_cases h3 : keyW w ∈ seen
      · simp [h3]
      · simp [h1, h3]
theorem errs_zero : ∀ {seen ws : List Txt}, errs isK err seen ws = 0 ↔ (∀ w ∈ ws, GoodW isK err w ∧ keyW w ∉ seen) ∧ (ws.map keyW).Nodup
  | seen, [] => by simp [errs]
  | seen, w :: ws => by
    rw [errs]
    by_cases h : wordE isK err seen w = 0
    · have h' := (wordE_zero isK err).1 h
      rw [if_pos h, errs_zero (seen := keyW w :: seen)]
      simp only [List.mem_cons, List.map_cons, List.nodup_cons, List.mem_map, not_or, forall_eq_or_imp, not_exists, not_and]
      constructor
      · rintro ⟨h1, h2⟩
        exact ⟨⟨h', fun x hx => ⟨(h1 x hx).1, (h1 x hx).2.2⟩⟩, fun x hx => (h1 x hx).2.1, h2⟩
      · rintro ⟨⟨_, h1⟩, h2, h3⟩
        exact ⟨fun x hx => ⟨(h1 x hx).1, h2 x hx, (h1 x hx).2⟩, h3⟩
    · rw [if_neg h]
      constructor
      · intro h'; exact absurd h' h
      · rintro ⟨h1, _⟩
        exact absurd ((wordE_zero isK err).2 (h1 w (by simp))) h
theorem errs_append : ∀ (ws seen vs : List Txt), errs isK err seen (ws ++ vs) = if errs isK err seen ws = 0 then errs isK err ((ws.map keyW).reverse ++ seen) vs else errs isK err seen ws
  | [], seen, vs => by simp [errs]
  | w :: ws, seen, vs => by
    rw [List.cons_append, errs, errs]
    by_cases h : wordE isK err seen w = 0
    · rw [if_pos h, if_pos h, errs_append ws]
      simp
    · rw [if_neg h, if_neg h, if_neg h]
theorem errs_rev {ws : List Txt} (h : errs isK err [] ws = 0) : errs isK err [] ws.reverse = 0 := by
  rw [errs_zero] at h ⊢
  refine ⟨fun w hw => h.1 w (List.mem_reverse.1 hw), ?_⟩
  rw [List.map_reverse]
  exact List.pairwise_reverse.2 (h.2.imp Ne.symm)
theorem errs_twice {ws : List Txt} {w : Txt} (h : errs isK err [] ws = 0) (hw : w ∈ ws) : errs isK err [] (ws ++ [w]) = 11 := by
  rw [errs_append, if_pos h, errs]
  have hg := ((errs_zero isK err).1 h).1 w hw
  have : wordE isK err ((ws.map keyW).reverse ++ []) w = 11 := by
    unfold wordE
    rw [if_neg hg.1.1, hg.1.2.1, if_neg (by decide), if_pos]
    simp
    exact ⟨w, hw, rfl⟩
  rw [this, if_neg (by decide)]
theorem fin_append (ws vs : List Txt) (st : σ) : fin set (ws ++ vs) st = fin set vs (fin set ws st) := by simp [fin]
theorem fin_set (hc : ∀ k v k' v' st, k ≠ k' → set k v (set k' v' st) = set k' v' (set k v st)) : ∀ (ws : List Txt) (k v : Txt) (st : σ), k ∉ ws.map keyW → fin set ws (set k v st) = set k v (fin set ws st)
  | [], _, _, _, _ => rfl
  | w :: ws, k, v, st, h => by
    have h1 : k ≠ keyW w := fun e => h (by rw [e]; simp)
    have h2 : k ∉ ws.map keyW := fun h' => h (by rw [List.map_cons]; exact List.mem_cons_of_mem _ h')
    show fin set ws (set (keyW w) (valW w) (set k v st)) = _
    rw [← hc k v _ _ st h1, fin_set hc ws k v _ h2]
    rfl
theorem fin_rev (hc : ∀ k v k' v' st, k ≠ k' → set k v (set k' v' st) = set k' v' (set k v st)) : ∀ (ws : List Txt) (st : σ), (ws.map keyW).Nodup → fin set ws.reverse st = fin set ws st
  | [], _, _ => rfl
  | w :: ws, st, h => by
    rw [List.map_cons, List.nodup_cons] at h
    rw [List.reverse_cons, fin_append, fin_rev hc ws st h.2]
    show set (keyW w) (valW w) (fin set ws st) = fin set ws (set (keyW w) (valW w) st)
    rw [fin_set set hc ws _ _ _ h.1]
end
end Go.Proofs.YtdcakmamdabiaaaDoor
