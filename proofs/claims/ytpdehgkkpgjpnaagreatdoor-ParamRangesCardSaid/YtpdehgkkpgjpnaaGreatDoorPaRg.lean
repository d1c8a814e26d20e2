/-
  Plain mathematics: what one word with a number tells (no model).
-/
import Derived.Test.YtpdehgkkpgjpnaaGreatDoorMaPure
namespace Go.Proofs.YtpdehgkkpgjpnaaGreatDoor
set_option maxRecDepth 100000
theorem set_once (k v : Txt) : ((setM k v zeroM).hf && (setM k v zeroM).hu) = false := by
  unfold setM
  repeat' split
  all_goals rfl
theorem one_word {k v t : Txt} (ht : t = k ++ [61] ++ v) (hk : KeyOk isKM k) (hv : 32 ∉ v) : peM t = errM k v ∧ pvM t = if errM k v = 0 then setM k v zeroM else zeroM := by
  obtain ⟨h1, h2, h3, h4⟩ := hk
  obtain ⟨e1, e2⟩ := word_kv v h1 h3
  rw [← ht] at e1 e2
  have hne : t ≠ [] := by rw [ht]; simp
  have h32 : 32 ∉ t := by
    rw [ht]
    simp only [List.mem_append, List.mem_singleton, not_or]
    exact ⟨⟨h2, by decide⟩, hv⟩
  have hs := splitC_one h32
  have hf : finM t = setM k v zeroM := by
    unfold finM fin
    rw [hs]
    simp only [List.foldl_cons, List.foldl_nil, e1, e2]
  have hw : wordE isKM errM [] t = errM k v := by
    unfold wordE
    rw [if_neg hne, e1, e2, h4, if_neg (by decide), if_neg (by simp)]
  have hr : rdM t = errM k v := by
    unfold rdM
    rw [if_neg hne, hs, errs, hw]
    by_cases h0 : errM k v = 0
    · rw [if_pos h0, errs, h0]
    · rw [if_neg h0]
  have ho := set_once k v
  have hp : peM t = errM k v := by
    unfold peM
    rw [hr, hf]
    by_cases h0 : errM k v = 0
    · rw [if_pos h0, if_neg, h0]
      rintro ⟨_, a, b⟩
      rw [a, b] at ho
      cases ho
    · rw [if_neg h0]
  refine ⟨hp, ?_⟩
  unfold pvM
  rw [hp, hf]
  by_cases h0 : errM k v = 0
  · rw [if_pos h0, if_pos ⟨h0, hne⟩]
  · rw [if_neg h0, if_neg (fun h => h0 h.1)]
theorem num_bad (x a b : Int) : numE x 2 a b = 2 := by simp [numE]
theorem it_neg {n : Int} (h : n < 0) : whE (Lib.itoa n) = 2 := by rw [Lib.itoa, if_pos h]; exact wh_minus _
/-- HOLDFOR. -/
theorem rg_hf {n : Int} (h1 : -999999999 ≤ n) (h2 : n ≤ 999999999) :
    (n < 0 → peM (kHF ++ [61] ++ Lib.itoa n) = 2 ∧ pvM (kHF ++ [61] ++ Lib.itoa n) = zeroM) ∧ (0 ≤ n → ¬ (1 ≤ n ∧ n ≤ 1048576) → peM (kHF ++ [61] ++ Lib.itoa n) = 1 ∧ pvM (kHF ++ [61] ++ Lib.itoa n) = zeroM) ∧
    (1 ≤ n → n ≤ 1048576 → peM (kHF ++ [61] ++ Lib.itoa n) = 0 ∧ pvM (kHF ++ [61] ++ Lib.itoa n) = { zeroM with hf := true, fo := n }) := by
  obtain ⟨e1, e2⟩ := one_word (k := kHF) (v := Lib.itoa n) rfl (by decide) (itoa_free h1 h2 32 (by decide))
  have hE : errM kHF (Lib.itoa n) = numE (whV (Lib.itoa n)) (whE (Lib.itoa n)) 1 1048576 := by unfold errM; rw [if_neg (by decide), if_neg (by decide), if_neg (by decide), if_neg (by decide), if_pos rfl]
  rw [hE] at e1 e2
  refine ⟨fun h => ?_, fun h h' => ?_, fun h h' => ?_⟩
  · rw [it_neg h, num_bad] at e1 e2
    exact ⟨e1, by rw [e2, if_neg (by decide)]⟩
  · obtain ⟨a, b⟩ := wh_itoa h h2
    have : numE (whV (Lib.itoa n)) (whE (Lib.itoa n)) 1 1048576 = 1 := by
      rw [a, b, numE, if_pos rfl, if_neg]
      simp only [Bool.and_eq_true, decide_eq_true_eq]
      exact h'
    rw [this] at e1 e2
    exact ⟨e1, by rw [e2, if_neg (by decide)]⟩
  · obtain ⟨a, b⟩ := wh_itoa (n := n) (by omega) h2
    have : numE (whV (Lib.itoa n)) (whE (Lib.itoa n)) 1 1048576 = 0 := by
      rw [a, b, numE, if_pos rfl, if_pos]
      simp only [Bool.and_eq_true, decide_eq_true_eq]
      exact ⟨h, h'⟩
    rw [this, if_pos rfl] at e2
    rw [this] at e1
    refine ⟨e1, e2.trans ?_⟩
    unfold setM
    rw [if_neg (by decide), if_neg (by decide), if_neg (by decide), if_neg (by decide), if_pos rfl, a]
/-- SIZE. -/
theorem rg_sz {n : Int} (h1 : -999999999 ≤ n) (h2 : n ≤ 999999999) :
    (n < 0 → peM (kSIZE ++ [61] ++ Lib.itoa n) = 2 ∧ pvM (kSIZE ++ [61] ++ Lib.itoa n) = zeroM) ∧ (0 ≤ n → peM (kSIZE ++ [61] ++ Lib.itoa n) = 0 ∧ pvM (kSIZE ++ [61] ++ Lib.itoa n) = { zeroM with hs := true, sz := n }) := by
  obtain ⟨e1, e2⟩ := one_word (k := kSIZE) (v := Lib.itoa n) rfl (by decide) (itoa_free h1 h2 32 (by decide))
  have hE : errM kSIZE (Lib.itoa n) = numE (whV (Lib.itoa n)) (whE (Lib.itoa n)) 0 999999999 := by unfold errM; rw [if_pos rfl]
  rw [hE] at e1 e2
  refine ⟨fun h => ?_, fun h => ?_⟩
  · rw [it_neg h, num_bad] at e1 e2
    exact ⟨e1, by rw [e2, if_neg (by decide)]⟩
  · obtain ⟨a, b⟩ := wh_itoa h h2
    have : numE (whV (Lib.itoa n)) (whE (Lib.itoa n)) 0 999999999 = 0 := by
      rw [a, b, numE, if_pos rfl, if_pos]
      simp only [Bool.and_eq_true, decide_eq_true_eq]
      exact ⟨h, h2⟩
    rw [this, if_pos rfl] at e2
    rw [this] at e1
    refine ⟨e1, e2.trans ?_⟩
    unfold setM
    rw [if_pos rfl, a]
/-- MT-PRIORITY. -/
theorem rg_pr {n : Int} (h1 : -999999999 ≤ n) (h2 : n ≤ 999999999) :
    (¬ (-9 ≤ n ∧ n ≤ 9) → peM (kPR ++ [61] ++ Lib.itoa n) = 1 ∧ pvM (kPR ++ [61] ++ Lib.itoa n) = zeroM) ∧ (-9 ≤ n → n ≤ 9 → peM (kPR ++ [61] ++ Lib.itoa n) = 0 ∧ pvM (kPR ++ [61] ++ Lib.itoa n) = { zeroM with hp := true, pr := n }) := by
  obtain ⟨e1, e2⟩ := one_word (k := kPR) (v := Lib.itoa n) rfl (by decide) (itoa_free h1 h2 32 (by decide))
  obtain ⟨a, b⟩ := sg_itoa h1 h2
  have hE : errM kPR (Lib.itoa n) = numE n 0 (-9) 9 := by unfold errM; rw [if_neg (by decide), if_neg (by decide), if_neg (by decide), if_neg (by decide), if_neg (by decide), if_neg (by decide), if_neg (by decide), if_pos rfl, a, b]
  rw [hE] at e1 e2
  refine ⟨fun h => ?_, fun h h' => ?_⟩
  · have : numE n 0 (-9) 9 = 1 := by
      rw [numE, if_pos rfl, if_neg]
      simp only [Bool.and_eq_true, decide_eq_true_eq]
      exact h
    rw [this] at e1 e2
    exact ⟨e1, by rw [e2, if_neg (by decide)]⟩
  · have : numE n 0 (-9) 9 = 0 := by
      rw [numE, if_pos rfl, if_pos]
      simp only [Bool.and_eq_true, decide_eq_true_eq]
      exact ⟨h, h'⟩
    rw [this, if_pos rfl] at e2
    rw [this] at e1
    refine ⟨e1, e2.trans ?_⟩
    unfold setM
    rw [if_neg (by decide), if_neg (by decide), if_neg (by decide), if_neg (by decide), if_neg (by decide), if_neg (by decide), if_neg (by decide), if_pos rfl, a]
/-- BY. -/
theorem rg_by {n : Int} (h1 : -999999999 ≤ n) (h2 : n ≤ 999999999) (x : UInt8) (hx : x = 82 ∨ x = 78) :
    peM (kBY ++ [61] ++ (Lib.itoa n ++ 59 :: [x])) = numE n 0 (leastV [x]) 999999999 ∧ pvM (kBY ++ [61] ++ (Lib.itoa n ++ 59 :: [x])) = if numE n 0 (leastV [x]) 999999999 = 0 then { zeroM with hb := true, by_ := n, mode := [x] } else zeroM := by
  have hup : upL [x] = [x] := by rcases hx with rfl | rfl <;> decide
  have hmd : isMode [x] = true := by rcases hx with rfl | rfl <;> decide
  have hx32 : x ≠ 32 := by rcases hx with rfl | rfl <;> decide
  obtain ⟨_, c2, c3⟩ := cut_at [x] (itoa_free h1 h2 59 (by decide))
  obtain ⟨e1, e2⟩ := one_word (k := kBY) (v := Lib.itoa n ++ 59 :: [x]) rfl (by decide) (by
    simp only [List.mem_append, List.mem_cons, List.not_mem_nil, or_false, not_or]
    exact ⟨itoa_free h1 h2 32 (by decide), by decide, fun h => hx32 h.symm⟩)
  obtain ⟨a, b⟩ := sg_itoa h1 h2
  have hE : errM kBY (Lib.itoa n ++ 59 :: [x]) = numE n 0 (leastV [x]) 999999999 := by
    unfold errM
    rw [if_neg (by decide), if_neg (by decide), if_neg (by decide), if_neg (by decide), if_neg (by decide), if_neg (by decide), if_pos rfl, byE, c2, c3, hup, hmd, if_pos rfl, a, b]
  rw [hE] at e1 e2
  refine ⟨e1, e2.trans ?_⟩
  have hS : setM kBY (Lib.itoa n ++ 59 :: [x]) zeroM = { zeroM with hb := true, by_ := n, mode := [x] } := by
    unfold setM
    rw [if_neg (by decide), if_neg (by decide), if_neg (by decide), if_neg (by decide), if_neg (by decide), if_neg (by decide), if_pos rfl, c2, c3, hup, a]
  rw [hS]
theorem rg_r {n : Int} (h1 : -999999999 ≤ n) (h2 : n ≤ 999999999) :
    (¬ 0 < n → peM (kBY ++ [61] ++ (Lib.itoa n ++ 59 :: [82])) = 1 ∧ pvM (kBY ++ [61] ++ (Lib.itoa n ++ 59 :: [82])) = zeroM) ∧ (0 < n → peM (kBY ++ [61] ++ (Lib.itoa n ++ 59 :: [82])) = 0 ∧ pvM (kBY ++ [61] ++ (Lib.itoa n ++ 59 :: [82])) = { zeroM with hb := true, by_ := n, mode := [82] }) := by
  obtain ⟨e1, e2⟩ := rg_by h1 h2 82 (.inl rfl)
  rw [show leastV [82] = 1 from rfl] at e1 e2
  refine ⟨fun h => ?_, fun h => ?_⟩
  · have : numE n 0 1 999999999 = 1 := by
      rw [numE, if_pos rfl, if_neg]
      simp only [Bool.and_eq_true, decide_eq_true_eq]
      omega
    rw [this] at e1 e2
    exact ⟨e1, by rw [e2, if_neg (by decide)]⟩
  · have : numE n 0 1 999999999 = 0 := by
      rw [numE, if_pos rfl, if_pos]
      simp only [Bool.and_eq_true, decide_eq_true_eq]
      omega
    rw [this] at e1 e2
    exact ⟨e1, by rw [e2, if_pos rfl]⟩
theorem rg_n {n : Int} (h1 : -999999999 ≤ n) (h2 : n ≤ 999999999) :
    peM (kBY ++ [61] ++ (Lib.itoa n ++ 59 :: [78])) = 0 ∧ pvM (kBY ++ [61] ++ (Lib.itoa n ++ 59 :: [78])) = { zeroM with hb := true, by_ := n, mode := [78] } := by
  obtain ⟨e1, e2⟩ := rg_by h1 h2 78 (.inr rfl)
  rw [show leastV [78] = -999999999 from rfl] at e1 e2
  have : numE n 0 (-999999999) 999999999 = 0 := by
    rw [numE, if_pos rfl, if_pos]
    simp only [Bool.and_eq_true, decide_eq_true_eq]
    omega
  rw [this] at e1 e2
  exact ⟨e1, by rw [e2, if_pos rfl]⟩
end Go.Proofs.YtpdehgkkpgjpnaaGreatDoor
