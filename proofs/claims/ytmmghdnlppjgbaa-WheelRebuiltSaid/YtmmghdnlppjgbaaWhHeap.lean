/-
  A heap's order, as numbers: what a swap, a way down and a way up make of it (plain).
-/
import Derived.Test.YtmmghdnlppjgbaaBase
namespace Go.Proofs.Ytmmghdnlppjgbaa
/-- c stands under p. -/
def kid (p c : Nat) : Prop := c = 2 * p + 1 ∨ c = 2 * p + 2
def HOrd (n : Nat) (K : Nat → Int) : Prop := ∀ p c, kid p c → c < n → K p ≤ K c
def swK (K : Nat → Int) (i j : Nat) : Nat → Int := fun k => if k = i then K j else if k = j then K i else K k
theorem swK_l (K : Nat → Int) (i j : Nat) : swK K i j i = K j := by simp [swK]
theorem swK_r (K : Nat → Int) (i j : Nat) : swK K i j j = K i := by
  unfold swK
  split
  · rename_i h; rw [h]
  · simp
theorem swK_o (K : Nat → Int) {i j k : Nat} (h1 : k ≠ i) (h2 : k ≠ j) : swK K i j k = K k := by simp [swK, h1, h2]
/-- In order but for who stands at i against those under it, and above it. -/
def DOk (n : Nat) (K : Nat → Int) (i : Nat) : Prop := (∀ p c, kid p c → c < n → p ≠ i → c ≠ i → K p ≤ K c) ∧ (∀ q c, kid q i → kid i c → c < n → K q ≤ K c)
/-- In order but for who stands at j against the one above it. -/
def UOk (n : Nat) (K : Nat → Int) (j : Nat) : Prop := (∀ p c, kid p c → c < n → c ≠ j → K p ≤ K c) ∧ (∀ q c, kid q j → kid j c → c < n → K q ≤ K c)
def Above (K : Nat → Int) (i : Nat) : Prop := ∀ q, kid q i → K q ≤ K i
theorem kid_lt {p c : Nat} (h : kid p c) : p < c := by unfold kid at h; omega
theorem kid_one {p q c : Nat} (h : kid p c) (h' : kid q c) : p = q := by unfold kid at h h'; omega
theorem down_step {n : Nat} {K : Nat → Int} {i j : Nat} (h : DOk n K i) (hj : kid i j) (hn : j < n) (hm : ∀ c, kid i c → c < n → K j ≤ K c) (hl : K j ≤ K i) :
    DOk n (swK K i j) j ∧ Above (swK K i j) i ∧ Above (swK K i j) j := by
  have hij := kid_lt hj
  refine ⟨⟨fun p c hp hc h1 h2 => ?_, fun q c hq hc hcn => ?_⟩, fun q hq => ?_, fun q hq => ?_⟩
  · by_cases hpi : p = i
    · subst hpi
      rw [swK_l, swK_o K (by have := kid_lt hp; omega) h2]
      exact hm c hp hc
    · by_cases hci : c = i
      · subst hci
        rw [swK_l, swK_o K hpi h1]
        exact h.2 p j hp hj hn
      · rw [swK_o K hpi h1, swK_o K hci h2]
        exact h.1 p c hp hc hpi hci
  · have : q = i := kid_one hq hj
    subst this
    have := kid_lt hc
    rw [swK_l, swK_o K (by omega) (by omega)]
    exact h.1 j c hc hcn (by omega) (by omega)
  · have := kid_lt hq
    rw [swK_l, swK_o K (by omega) (by omega)]
    exact h.2 q j hq hj hn
  · have : q = i := kid_one hq hj
    subst this
    rw [swK_l, swK_r]
    exact hl
theorem down_end {n : Nat} {K : Nat → Int} {i : Nat} (h : DOk n K i) (hm : ∀ c, kid i c → c < n → K i ≤ K c) : UOk n K i := by
  refine ⟨fun p c hp hc h1 => ?_, h.2⟩
  by_cases hpi : p = i
  · subst hpi; exact hm c hp hc
  · exact h.1 p c hp hc hpi h1
theorem up_end {n : Nat} {K : Nat → Int} {j : Nat} (h : UOk n K j) (ha : Above K j) : HOrd n K := by
  intro p c hp hc
  by_cases hcj : c = j
  · subst hcj; exact ha p hp
  · exact h.1 p c hp hc hcj
theorem up_step {n : Nat} {K : Nat → Int} {i j : Nat} (h : UOk n K j) (hi : kid i j) (hn : j < n) (hl : K j ≤ K i) : UOk n (swK K i j) i := by
  have hij := kid_lt hi
  refine ⟨fun p c hp hc h1 => ?_, fun q c hq hc hcn => ?_⟩
  · have hpc := kid_lt hp
    by_cases hpi : p = i
    · subst hpi
      rw [swK_l]
      by_cases hcj : c = j
      · subst hcj; rw [swK_r]; exact hl
      · rw [swK_o K h1 hcj]
        exact Int.le_trans hl (h.1 p c hp hc hcj)
    · by_cases hpj : p = j
      · subst hpj
        rw [swK_r, swK_o K h1 (by omega)]
        exact h.2 i c hi hp hc
      · by_cases hcj : c = j
        · exact absurd (kid_one (hcj ▸ hp) hi) hpi
        · rw [swK_o K hpi hpj, swK_o K h1 hcj]
          exact h.1 p c hp hc hcj
  · have hqi := kid_lt hq
    have h1 := h.1 q i hq (by omega) (by omega)
    rw [swK_o K (by omega) (by omega)]
    by_cases hcj : c = j
    · subst hcj; rw [swK_r]; exact h1
    · have := kid_lt hc
      rw [swK_o K (by omega) hcj]
      exact Int.le_trans h1 (h.1 i c hc hcn hcj)
/-- Who came last is in order but for the one above it. -/
theorem push_up {n : Nat} {K : Nat → Int} (h : HOrd n K) : UOk (n + 1) K n := by
  refine ⟨fun p c hp hc h1 => h p c hp (by omega), fun q c hq hc hcn => ?_⟩
  have := kid_lt hc
  omega
/-- The last one put in the place of another one. -/
theorem rem_down {n : Nat} {K : Nat → Int} (h : HOrd (n + 1) K) {i : Nat} (hi : i ≤ n) : DOk n (swK K i n) i := by
  refine ⟨fun p c hp hc h1 h2 => ?_, fun q c hq hc hcn => ?_⟩
  · have := kid_lt hp
    rw [swK_o K h1 (by omega), swK_o K h2 (by omega)]
    exact h p c hp (by omega)
  · have h1 := kid_lt hq
    have h2 := kid_lt hc
    rw [swK_o K (by omega) (by omega), swK_o K (by omega) (by omega)]
    exact Int.le_trans (h q i hq (by omega)) (h i c hc (by omega))
theorem hord_cut {n m : Nat} {K : Nat → Int} (h : HOrd n K) (hm : m ≤ n) : HOrd m K := fun p c hp hc => h p c hp (by omega)
theorem hord_of {n : Nat} {K K' : Nat → Int} (h : HOrd n K) (he : ∀ k, k < n → K' k = K k) : HOrd n K' := fun p c hp hc => by
  have := kid_lt hp
  rw [he p (by omega), he c hc]
  exact h p c hp hc
theorem above_zero (K : Nat → Int) : Above K 0 := fun q hq => by have := kid_lt hq; omega
/-- The first one is the least. -/
theorem hord_min {n : Nat} {K : Nat → Int} (h : HOrd n K) : ∀ k, k < n → K 0 ≤ K k := by
  intro k
  induction k using Nat.strongRecOn with
  | ind k ih =>
    intro hk
    rcases Nat.eq_zero_or_pos k with h0 | h0
    · subst h0; exact Int.le_refl _
    · exact Int.le_trans (ih ((k - 1) / 2) (by omega) (by omega)) (h ((k - 1) / 2) k (by unfold kid; omega) hk)
/-- A row with two in each other's place. -/
def swL {α : Type} (l : List α) (i j : Nat) : List α := match l[i]?, l[j]? with
  | some a, some b => (l.set i b).set j a
  | _, _ => l
theorem swL_is {α : Type} {l : List α} {i j : Nat} {a b : α} (hi : l[i]? = some a) (hj : l[j]? = some b) : swL l i j = (l.set i b).set j a := by simp [swL, hi, hj]
theorem swL_length {α : Type} (l : List α) (i j : Nat) : (swL l i j).length = l.length := by unfold swL; split <;> simp
theorem swL_get {α : Type} {l : List α} {i j : Nat} {a b : α} (hi : l[i]? = some a) (hj : l[j]? = some b) (k : Nat) : (swL l i j)[k]? = if k = j then some a else if k = i then some b else l[k]? := by
  have h1 := (List.getElem?_eq_some_iff.1 hi).1
  have h2 := (List.getElem?_eq_some_iff.1 hj).1
  rw [swL_is hi hj, List.getElem?_set]
  by_cases e : k = j
  · subst e; simp [h2]
  · rw [if_neg (fun h => e h.symm), if_neg e, List.getElem?_set]
    by_cases e2 : k = i
    · subst e2; simp [h1]
    · rw [if_neg (fun h => e2 h.symm), if_neg e2]
theorem set_perm {α : Type} : ∀ {l : List α} {j : Nat} {b : α} (_ : l[j]? = some b) (a : α), (b :: l.set j a).Perm (a :: l)
  | [], _, _, h, _ => by simp at h
  | x :: l, 0, b, h, a => by simp at h; subst h; exact List.Perm.swap _ _ _
  | x :: l, j + 1, b, h, a => by
    simp only [List.getElem?_cons_succ] at h
    rw [List.set_cons_succ]
    exact ((List.Perm.swap x b _).trans (List.Perm.cons x (set_perm h a))).trans (List.Perm.swap a x l)
theorem swL_perm {α : Type} (l : List α) (i j : Nat) : (swL l i j).Perm l := by
  unfold swL
  split
  · rename_i a b hi hj
    have h1 := (List.getElem?_eq_some_iff.1 hi).1
    have e : (l.set i b)[j]? = some b := by
      rw [List.getElem?_set]
      by_cases e : i = j
      · subst e; simp [h1]
      · rw [if_neg e]; exact hj
    have p1 := set_perm e a
    have p2 := set_perm hi b
    exact (List.perm_cons b).1 (p1.trans p2)
  · exact List.Perm.refl _
end Go.Proofs.Ytmmghdnlppjgbaa
