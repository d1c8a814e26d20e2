/-
  Plain mathematics: words in another order, a word said twice (no model).
-/
import Derived.Test.YtpgbojpeffilmaaMaPure
import Derived.Lib.Bytealg
import Derived.Lib.ItoaNum
import Derived.Lib.Atoi
import Derived.Lib.Join
namespace Go.Proofs.Ytpgbojpeffilmaa
set_option maxRecDepth 100000
/-- A text's words in the other order. -/
def turnT (s : Txt) : Txt := joinC 32 (splitC 32 s).reverse
theorem split_turn (s : Txt) : splitC 32 (turnT s) = (splitC 32 s).reverse :=
  splitC_join 32 _ (by simp [splitC_ne]) (fun x hx => splitC_free (List.mem_reverse.1 hx))
theorem turn_ne {s : Txt} (h : ∀ w ∈ splitC 32 s, w ≠ []) : turnT s ≠ [] := by
  intro e
  have h1 := split_turn s
  rw [e, show splitC 32 [] = [[]] from rfl] at h1
  have : ([] : Txt) ∈ (splitC 32 s).reverse := by rw [← h1]; simp
  exact h [] (List.mem_reverse.1 this) rfl
theorem peM_errs {s : Txt} (hs : s ≠ []) (h : peM s = 0) : errs isKM errM [] (splitC 32 s) = 0 ∧ pvM s = fin setM (splitC 32 s) zeroM := by
  have hr : rdM s = 0 := by
    by_cases h0 : rdM s = 0
    · exact h0
    · rw [peM, if_neg h0] at h; exact absurd h h0
  exact ⟨by rw [rdM, if_neg hs] at hr; exact hr, by rw [pvM, if_pos ⟨h, hs⟩]; rfl⟩
theorem ord_m {s : Txt} (hs : s ≠ []) (h : peM s = 0) : peM (turnT s) = 0 ∧ pvM (turnT s) = pvM s := by
  obtain ⟨he, hv⟩ := peM_errs hs h
  have hg := ((errs_zero isKM errM).1 he).1
  have hn := ((errs_zero isKM errM).1 he).2
  have ht : turnT s ≠ [] := turn_ne fun w hw => (hg w hw).1.1
  have hr : rdM (turnT s) = 0 := by rw [rdM, if_neg ht, split_turn]; exact errs_rev isKM errM he
  have hf : finM (turnT s) = finM s := by
    unfold finM
    rw [split_turn]
    exact fin_rev setM setM_comm _ _ hn
  have hp : peM (turnT s) = 0 := by
    unfold peM at h ⊢
    have hr0 : rdM s = 0 := by rw [rdM, if_neg hs]; exact he
    rw [if_pos hr0] at h
    rw [if_pos hr, hf]
    by_cases hb : (finM s).hf = true ∧ (finM s).hu = true
    · rw [if_pos ⟨hs, hb⟩] at h; cases h
    · rw [if_neg (fun h' => hb h'.2)]
  exact ⟨hp, by rw [pvM, if_pos ⟨hp, ht⟩, pvM, if_pos ⟨h, hs⟩, hf]⟩
theorem twice_m {s w : Txt} (hs : s ≠ []) (h : peM s = 0) (hw : w ∈ splitC 32 s) : peM (s ++ 32 :: w) = 11 := by
  obtain ⟨he, _⟩ := peM_errs hs h
  have h2 : splitC 32 (s ++ 32 :: w) = splitC 32 s ++ [w] := by rw [splitC_cat, splitC_one (splitC_free hw)]
  have hr : rdM (s ++ 32 :: w) = 11 := by rw [rdM, if_neg (by simp), h2]; exact errs_twice isKM errM he hw
  rw [peM, hr, if_neg (by decide)]
theorem peR_errs {s : Txt} (hs : s ≠ []) (h : peR s = 0) : errs isKR errR [] (splitC 32 s) = 0 := by rw [peR, if_neg hs] at h; exact h
theorem ord_r {s : Txt} (hs : s ≠ []) (h : peR s = 0) : peR (turnT s) = 0 ∧ pvR (turnT s) = pvR s := by
  have he := peR_errs hs h
  have hg := ((errs_zero isKR errR).1 he).1
  have hn := ((errs_zero isKR errR).1 he).2
  have ht : turnT s ≠ [] := turn_ne fun w hw => (hg w hw).1.1
  have hr : peR (turnT s) = 0 := by rw [peR, if_neg ht, split_turn]; exact errs_rev isKR errR he
  have hf : finR (turnT s) = finR s := by
    unfold finR
    rw [split_turn]
    exact fin_rev setR setR_comm _ _ hn
  exact ⟨hr, by rw [pvR, if_pos ⟨hr, ht⟩, pvR, if_pos ⟨h, hs⟩, hf]⟩
theorem twice_r {s w : Txt} (hs : s ≠ []) (h : peR s = 0) (hw : w ∈ splitC 32 s) : peR (s ++ 32 :: w) = 11 := by
  have he := peR_errs hs h
  have h2 : splitC 32 (s ++ 32 :: w) = splitC 32 s ++ [w] := by rw [splitC_cat, splitC_one (splitC_free hw)]
  rw [peR, if_neg (by simp), h2]
  exact errs_twice isKR errR he hw
/-- Lengths. -/
theorem lens_le : ∀ (l : List Txt) (n : Nat), (∀ x ∈ l, x.length ≤ n) → Lib.lens l ≤ l.length * n
  | [], _, _ => by simp [Lib.lens]
  | x :: l, n, h => by
    have ih := lens_le l n fun y hy => h y (List.mem_cons_of_mem _ hy)
    have hx := h x (by simp)
    simp only [Lib.lens, List.map_cons, List.sum_cons, List.length_cons, Nat.succ_mul] at ih ⊢
    omega
theorem joinC_len (c : UInt8) (l : List Txt) : (joinC c l).length ≤ l.length + Lib.lens l := by
  rw [← joinC_intercalate]
  cases l with
  | nil => simp [Lib.join_nil]
  | cons x r =>
    rw [Lib.join_length]
    simp only [List.length_cons, List.length_nil]
    omega
theorem splitC_lens (c : UInt8) (s : Txt) : Lib.lens (splitC c s) ≤ s.length := by
  have : ∀ (l acc : Txt), Lib.lens (splitG c acc l) ≤ acc.length + l.length := by
    intro l
    induction l with
    | nil => intro acc; simp [splitG, Lib.lens]
    | cons b t ih =>
      intro acc
      rw [splitG]
      split
      · have := ih []
        simp only [Lib.lens, List.map_cons, List.sum_cons, List.length_nil, List.length_cons] at this ⊢
        omega
      · have := ih (acc ++ [b])
        simp only [List.length_append, List.length_cons, List.length_nil] at this ⊢
        omega
  have h := this s []
  rw [List.length_nil, Nat.zero_add] at h
  exact h
theorem turn_len (s : Txt) : (turnT s).length ≤ 2 * s.length + 1 := by
  have h1 := joinC_len 32 (splitC 32 s).reverse
  have h2 := splitC_lens 32 s
  have h3 := splitC_len 32 s
  have h4 : Lib.lens (splitC 32 s).reverse = Lib.lens (splitC 32 s) := by simp [Lib.lens]
  rw [h4, List.length_reverse] at h1
  show (joinC 32 (splitC 32 s).reverse).length ≤ _
  omega
/-- One step of the splitting, as a loop makes it. -/
theorem split_step {c : UInt8} {l acc rest : Txt} {b : UInt8} {L : List Txt} (h : splitC c l = L ++ splitG c acc (b :: rest)) : splitC c l = if b = c then (L ++ [acc]) ++ splitG c [] rest else L ++ splitG c (acc ++ [b]) rest := by
  rw [h, splitG]
  by_cases hb : b = c
  · rw [if_pos hb, if_pos (by simp [hb])]; simp
  · rw [if_neg hb, if_neg (by simp [hb])]
/-- A text laid from the last word to the first. -/
theorem join_snoc (l : List Txt) (x : Txt) (h : l ≠ []) : joinC 32 (l ++ [x]) = joinC 32 l ++ [32] ++ x := by
  rw [← joinC_intercalate, ← joinC_intercalate]
  cases l with
  | nil => exact absurd rfl h
  | cons y r =>
    rw [List.cons_append, Lib.join_cons, Lib.join_cons]
    simp [Lib.joinTail]
end Go.Proofs.Ytpgbojpeffilmaa
