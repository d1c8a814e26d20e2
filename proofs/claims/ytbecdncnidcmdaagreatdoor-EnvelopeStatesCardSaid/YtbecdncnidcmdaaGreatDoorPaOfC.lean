/-
  What holds while ofMail's map is made: each operation keeps it.
-/
import Derived.Test.YtbecdncnidcmdaaGreatDoorPaOfB
namespace Go.Proofs.YtbecdncnidcmdaaGreatDoor
set_option maxRecDepth 100000
open Go.RowKit
/-- Every variable's box holds what it held. -/
def KC (w w' : World) : Prop := ∀ b v, w.cell? ⟨b, 0, none⟩ = some v → w'.cell? ⟨b, 0, none⟩ = some v
theorem KC.of {w w' : World} (h : Below w.heap.size w w') : KC w w' := fun b _ hv => (h.cell (p := ⟨b, 0, none⟩) (cell_lt hv)).trans hv
theorem KC.map {w w' : World} {M n : Nat} {f : Txt → Option Value} (h : MapIs w M n f) (hg : w.grownBy w' (some M)) : KC w w' := fun b v hv => by
  obtain ⟨es, cl, hm⟩ := h.isMap
  have hne : b ≠ M := fun e => by subst e; simp [World.cell?, hm] at hv
  rw [← hv]
  simp only [World.cell?, hg.block b (cell_lt hv) (fun e => hne (by injection e))]
/-- number's closure, and its boxes. -/
def NumV (k mb i j : Nat) (a b : Int) (N0 : Nat) (v : Value) (w : World) : Prop := ∃ N, v = .func (.func 313) #[] #[.pointer (some ⟨N + 2, 0, none⟩), .pointer (some ⟨N + 3, 0, none⟩), .pointer (some ⟨N + 4, 0, none⟩), .pointer (some ⟨N, 0, none⟩), .pointer (some ⟨N + 1, 0, none⟩)] ∧ N0 ≤ N ∧ NumBox k mb i j a b N w
/-- name's closure, and its boxes. -/
def NamV (k mb i : Nat) (N0 : Nat) (v : Value) (w : World) : Prop := ∃ N, v = .func (.func 316) #[] #[.pointer (some ⟨N, 0, none⟩), .pointer (some ⟨N + 1, 0, none⟩)] ∧ N0 ≤ N ∧ w.cell? ⟨N, 0, none⟩ = some (.pointer (some ⟨mb, i, none⟩)) ∧ w.cell? ⟨N + 1, 0, none⟩ = some (.func (.func k) #[] #[])
theorem NumV.keep {k mb i j N0 : Nat} {a b : Int} {v : Value} {w w' : World} (h : NumV k mb i j a b N0 v w) (hk : KC w w') : NumV k mb i j a b N0 v w' := by
  obtain ⟨N, h1, h2, h3⟩ := h
  exact ⟨N, h1, h2, hk _ _ h3.told, hk _ _ h3.said, hk _ _ h3.parse, hk _ _ h3.least, hk _ _ h3.most⟩
theorem NamV.keep {k mb i N0 : Nat} {v : Value} {w w' : World} (h : NamV k mb i N0 v w) (hk : KC w w') : NamV k mb i N0 v w' := by
  obtain ⟨N, h1, h2, h3, h4⟩ := h
  exact ⟨N, h1, h2, hk _ _ h3, hk _ _ h4⟩
/-- What holds while the map is made: L: what has come up; X: the slots. -/
structure OM (w0 : World) (mb B B3 : Nat) (f : Nat) (L : Nat → Bool) (X : Nat → Value) (w : World) : Prop where
  bel : Below w0.heap.size w0 w
  fb : f ≤ 60
  x1 : X 1 = .pointer (some ⟨B, 0, none⟩)
  x3 : X 3 = .pointer (some ⟨B3, 0, none⟩)
  x4 : X 4 = .func (.func 315) #[] #[]
  pure : ∀ i c, i < 51 → cstM mb B B3 i = some c → L i = true → X (slotM i) = c
  c1 : L 9 = true → NumV 317 mb 5 0 0 999999999 w0.heap.size (X 14) w
  c2 : L 15 = true → NamV 318 mb 10 w0.heap.size (X 19) w
  c3 : L 21 = true → NamV 319 mb 11 w0.heap.size (X 24) w
  c4 : L 33 = true → NumV 317 mb 6 1 1 1048576 w0.heap.size (X 34) w
  c5 : L 43 = true → NumV 322 mb 9 4 (-9) 9 w0.heap.size (X 43) w
  mp : L 0 = true → ∃ M n, X 5 = .map (some M) ∧ w0.heap.size ≤ M ∧ n + f ≤ 100 ∧ MapIs w M n (fmap L X entsM)
  e1 : L 49 = true → X 46 = X 5
  e2 : L 50 = true → X 2 = X 5
theorem ents_ok : ∀ q ∈ entsM, 100 ≤ slotM q.1 ∧ q.1 < 51 ∧ ((depM[q.1]?).getD []).any (fun s => decide (s < 51) && slotM s == q.2.2) = true ∧ 0 ∈ (depM[q.1]?).getD [] := by decide +kernel
theorem OM.write {w0 : World} {mb B B3 f : Nat} {L : Nat → Bool} {X : Nat → Value} {w : World} (h : OM w0 mb B B3 (f + 1) L X w) (hc : ClosedL opsM L) (i : Nat) (hi : i < 51) (h100 : slotM i < 100) (h0 : i ≠ 0) (hL : L i = false) (v : Value) (w' : World) (hb : Below w.heap.size w w')
    (hp : ∀ c, cstM mb B B3 i = some c → v = c) (h9 : i = 9 → NumV 317 mb 5 0 0 999999999 w0.heap.size v w') (h15 : i = 15 → NamV 318 mb 10 w0.heap.size v w') (h21 : i = 21 → NamV 319 mb 11 w0.heap.size v w')
    (h33 : i = 33 → NumV 317 mb 6 1 1 1048576 w0.heap.size v w') (h43 : i = 43 → NumV 322 mb 9 4 (-9) 9 w0.heap.size v w') (h49 : i = 49 → v = X 5) (h50 : i = 50 → v = X 5) :
    OM w0 mb B B3 f (updL L i) (updX X (slotM i) v) w' := by
  have hne : ∀ j, j < 51 → j ≠ i → updX X (slotM i) v (slotM j) = X (slotM j) := fun j hj hji => upd_ne X v (slot_inj j hj i hi hji)
  have hself : updX X (slotM i) v (slotM i) = v := upd_same X _ v
  have hold := slot_old i hi
  have hk := KC.of hb
  have x5 : updX X (slotM i) v 5 = X 5 := hne 0 (by omega) (Ne.symm h0)
  refine ⟨h.bel.trans (hb.mono h.bel.size), by have := h.fb; omega, (upd_ne X v (Ne.symm hold.1)).trans h.x1, (upd_ne X v (Ne.symm hold.2.1)).trans h.x3, (upd_ne X v (Ne.symm hold.2.2)).trans h.x4, ?_, ?_, ?_, ?_, ?_, ?_, ?_, ?_, ?_⟩
  · intro j c hj hcj hLj
    by_cases hji : j = i
    · subst hji; rw [hself]; exact hp c hcj
    · rw [updL_ne L hji] at hLj
      rw [hne j hj hji]
      exact h.pure j c hj hcj hLj
  · intro hLj
    by_cases hji : 9 = i
    · subst hji
      rw [show updX X (slotM 9) v 14 = v from hself]; exact h9 rfl
    · rw [updL_ne L hji] at hLj
      rw [show updX X (slotM i) v 14 = X 14 from hne 9 (by omega) hji]
      exact (h.c1 hLj).keep hk
  · intro hLj
    by_cases hji : 15 = i
    · subst hji
      rw [show updX X (slotM 15) v 19 = v from hself]; exact h15 rfl
    · rw [updL_ne L hji] at hLj
      rw [show updX X (slotM i) v 19 = X 19 from hne 15 (by omega) hji]
      exact (h.c2 hLj).keep hk
  · intro hLj
    by_cases hji : 21 = i
    · subst hji
      rw [show updX X (slotM 21) v 24 = v from hself]; exact h21 rfl
    · rw [updL_ne L hji] at hLj
      rw [show updX X (slotM i) v 24 = X 24 from hne 21 (by omega) hji]
      exact (h.c3 hLj).keep hk
  · intro hLj
    by_cases hji : 33 = i
    · subst hji
      rw [show updX X (slotM 33) v 34 = v from hself]; exact h33 rfl
    · rw [updL_ne L hji] at hLj
      rw [show updX X (slotM i) v 34 = X 34 from hne 33 (by omega) hji]
      exact (h.c4 hLj).keep hk
  · intro hLj
    by_cases hji : 43 = i
    · subst hji
      rw [show updX X (slotM 43) v 43 = v from hself]; exact h43 rfl
    · rw [updL_ne L hji] at hLj
      rw [show updX X (slotM i) v 43 = X 43 from hne 43 (by omega) hji]
      exact (h.c5 hLj).keep hk
  · intro hLj
    rw [updL_ne L (Ne.symm h0)] at hLj
    obtain ⟨M, n, m1, m2, m3, m4⟩ := h.mp hLj
    refine ⟨M, n, x5.trans m1, m2, by omega, (m4.block (hb.block _ m4.lt)).congr fun k => (fmap_frame L X i (slotM i) v entsM (fun q hq => ?_) k).symm⟩
    obtain ⟨q1, q2, q3, _⟩ := ents_ok q hq
    refine ⟨fun e => by rw [e] at q1; omega, fun e => ?_⟩
    obtain ⟨s, hs1, hs2⟩ := List.any_eq_true.1 q3
    rw [Bool.and_eq_true] at hs2
    have hs51 : s < 51 := of_decide_eq_true hs2.1
    have hss : slotM s = slotM i := (beq_iff_eq.1 hs2.2).trans e
    have hsi : s = i := by
      by_cases hsi : s = i
      · exact hsi
      · exact absurd hss (slot_inj s hs51 i hi hsi)
    cases hLq : L q.1
    · rfl
    · have := closed_up hc q2 hLq hs1
      rw [hsi, hL] at this
      cases this
  · intro hLj
    by_cases hji : 49 = i
    · subst hji
      rw [show updX X (slotM 49) v 46 = v from hself, x5]; exact h49 rfl
    · rw [updL_ne L hji] at hLj
      rw [show updX X (slotM i) v 46 = X 46 from hne 49 (by omega) hji, x5]
      exact h.e1 hLj
  · intro hLj
    by_cases hji : 50 = i
    · subst hji
      rw [show updX X (slotM 50) v 2 = v from hself, x5]; exact h50 rfl
    · rw [updL_ne L hji] at hLj
      rw [show updX X (slotM i) v 2 = X 2 from hne 50 (by omega) hji, x5]
      exact h.e2 hLj
theorem OM.map0 {w0 : World} {mb B B3 f : Nat} {L : Nat → Bool} {X : Nat → Value} {w : World} (h : OM w0 mb B B3 (f + 1) L X w) (hc : ClosedL opsM L) (hL : L 0 = false) :
    OM w0 mb B B3 f (updL L 0) (updX X 5 (.map (some w.heap.size))) (w.alloc (.map #[] 0)) := by
  have hb : Below w.heap.size w (w.alloc (.map #[] 0)) := (Below.refl _ w).alloc (Nat.le_refl _) _
  have hk := KC.of hb
  have hne : ∀ j, j < 51 → j ≠ 0 → updX X 5 (.map (some w.heap.size)) (slotM j) = X (slotM j) := fun j hj hji => upd_ne X _ (slot_inj j hj 0 (by omega) hji)
  have hno : ∀ j, j < 51 → 0 ∈ (depM[j]?).getD [] → L j = true → False := fun j hj hd hLj => by
    have := closed_up hc hj hLj hd
    rw [hL] at this
    cases this
  refine ⟨h.bel.trans (hb.mono h.bel.size), by have := h.fb; omega, (upd_ne X _ (by decide)).trans h.x1, (upd_ne X _ (by decide)).trans h.x3, (upd_ne X _ (by decide)).trans h.x4, ?_, ?_, ?_, ?_, ?_, ?_, ?_, ?_, ?_⟩
  · intro j c hj hcj hLj
    by_cases hji : j = 0
    · subst hji; simp [cstM] at hcj
    · rw [updL_ne L hji] at hLj
      rw [hne j hj hji]
      exact h.pure j c hj hcj hLj
  · intro hLj; rw [updL_ne L (by decide)] at hLj; rw [upd_ne X _ (by decide)]; exact (h.c1 hLj).keep hk
  · intro hLj; rw [updL_ne L (by decide)] at hLj; rw [upd_ne X _ (by decide)]; exact (h.c2 hLj).keep hk
  · intro hLj; rw [updL_ne L (by decide)] at hLj; rw [upd_ne X _ (by decide)]; exact (h.c3 hLj).keep hk
  · intro hLj; rw [updL_ne L (by decide)] at hLj; rw [upd_ne X _ (by decide)]; exact (h.c4 hLj).keep hk
  · intro hLj; rw [updL_ne L (by decide)] at hLj; rw [upd_ne X _ (by decide)]; exact (h.c5 hLj).keep hk
  · intro _
    refine ⟨w.heap.size, 0, upd_same X 5 _, h.bel.size, by have := h.fb; omega, (MapIs.made w).congr fun k => (fmap_none _ _ entsM (fun q hq => ?_) k).symm⟩
    obtain ⟨_, q2, _, q4⟩ := ents_ok q hq
    have hq0 : q.1 ≠ 0 := fun e => by rw [e] at q4; revert q4; decide
    rw [updL_ne L hq0]
    cases hLq : L q.1
    · rfl
    · exact (hno q.1 q2 q4 hLq).elim
  · intro hLj; rw [updL_ne L (by decide)] at hLj; exact (hno 49 (by decide) (by decide) hLj).elim
  · intro hLj; rw [updL_ne L (by decide)] at hLj; exact (hno 50 (by decide) (by decide) hLj).elim
theorem OM.insert {w0 : World} {mb B B3 f : Nat} {L : Nat → Bool} {X : Nat → Value} {w : World} (h : OM w0 mb B B3 (f + 1) L X w) (i : Nat) (K : Txt) (t : Nat) (hq : (i, K, t) ∈ entsM) (hL : L i = false) (h0 : L 0 = true) :
    ∃ M w', X 5 = .map (some M) ∧ (Instr.mapUpdate 301 (.map (some M)) (.string (mkS K)) (X t)).run Tryz.prog w = .ok () w' ∧ OM w0 mb B B3 f (updL L i) X w' := by
  obtain ⟨M, n, m1, m2, m3, m4⟩ := h.mp h0
  obtain ⟨q1, q2, _, _⟩ := ents_ok _ hq
  have hKl : ∀ q ∈ entsM, q.2.1.length ≤ 1000000000 := by
    intro q hq
    have : ∀ q ∈ entsM, q.2.1.length ≤ 20 := by decide +kernel
    have := this q hq
    omega
  obtain ⟨w', r1, r2, r3⟩ := m4.put Tryz.underlying301 (by omega) (hKl _ hq) (X t)
  have hk := KC.map m4 r3
  have hne : ∀ j, j < 51 → slotM j < 100 → updL L i j = L j := fun j _ hj => updL_ne L (fun e => by subst e; simp only at q1; omega)
  refine ⟨M, w', m1, r1, h.bel.grown r3 h.bel.size (fun k e => by cases e; exact m2), by have := h.fb; omega, h.x1, h.x3, h.x4, ?_, ?_, ?_, ?_, ?_, ?_, ?_, ?_, ?_⟩
  · intro j c hj hcj hLj
    by_cases hji : j = i
    · subst hji
      have : ∀ j, j < 51 → 100 ≤ slotM j → cstM mb B B3 j = none := by
        intro j hj hs
        have : j ∈ [10, 16, 22, 24, 34, 44, 46, 48] := by
          have hd : ∀ j, j < 51 → 100 ≤ slotM j → j ∈ [10, 16, 22, 24, 34, 44, 46, 48] := by decide +kernel
          exact hd j hj hs
        simp only [List.mem_cons, List.not_mem_nil, or_false] at this
        rcases this with rfl | rfl | rfl | rfl | rfl | rfl | rfl | rfl <;> rfl
      rw [this j hj q1] at hcj
      cases hcj
    · rw [updL_ne L hji] at hLj
      exact h.pure j c hj hcj hLj
  · intro hLj; rw [hne 9 (by decide) (by decide)] at hLj; exact (h.c1 hLj).keep hk
  · intro hLj; rw [hne 15 (by decide) (by decide)] at hLj; exact (h.c2 hLj).keep hk
  · intro hLj; rw [hne 21 (by decide) (by decide)] at hLj; exact (h.c3 hLj).keep hk
  · intro hLj; rw [hne 33 (by decide) (by decide)] at hLj; exact (h.c4 hLj).keep hk
  · intro hLj; rw [hne 43 (by decide) (by decide)] at hLj; exact (h.c5 hLj).keep hk
  · intro _
    refine ⟨M, n + 1, m1, m2, by omega, r2.congr fun k => ?_⟩
    rw [fmap_set L X i K t entsM hq (by decide) (by decide) k]
    rfl
  · intro hLj; rw [hne 49 (by decide) (by decide)] at hLj; exact h.e1 hLj
  · intro hLj; rw [hne 50 (by decide) (by decide)] at hLj; exact h.e2 hLj
end Go.Proofs.YtbecdncnidcmdaaGreatDoor
