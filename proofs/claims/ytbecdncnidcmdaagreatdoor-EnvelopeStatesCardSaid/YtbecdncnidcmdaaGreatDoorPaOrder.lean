/-
  A region that draws its order, walked by an invariant: whichever operation comes up, the invariant holds behind it.
-/
import Derived.Test.YtbecdncnidcmdaaGreatDoorPaPR
namespace Go.Proofs.YtbecdncnidcmdaaGreatDoor
set_option maxRecDepth 100000
open Go.RowKit
/-- An act whose slots are told by a function. -/
def actX (n : Nat) (X : Nat → Value) : Act := { tmps := ((List.range n).map X).toArray, defers := [] }
def updX (X : Nat → Value) (s : Nat) (v : Value) : Nat → Value := fun t => if t = s then v else X t
def updL (L : Nat → Bool) (i : Nat) : Nat → Bool := fun j => if j = i then true else L j
theorem eval_X {n t : Nat} (X : Nat → Value) (ht : t < n) : (actX n X).eval (.tmp t) = X t := by
  simp [Act.eval, actX, ht]
theorem put_X (n d : Nat) (X : Nat → Value) (v : Value) : (actX n X).put (some d) v = actX n (updX X d v) := by
  unfold Act.put actX updX
  simp only
  congr 1
  apply Array.ext_getElem?
  intro j
  rw [Array.getElem?_setIfInBounds]
  by_cases h : d = j
  · subst h
    by_cases h2 : d < n
    · simp [h2]
    · simp [h2]
  · simp only [h, if_false, List.getElem?_toArray, List.getElem?_map]
    by_cases h2 : j < n
    · simp [h2, Ne.symm h]
    · simp [h2]
theorem upd_same (X : Nat → Value) (s : Nat) (v : Value) : updX X s v s = v := by simp [updX]
theorem upd_ne (X : Nat → Value) {s t : Nat} (v : Value) (h : t ≠ s) : updX X s v t = X t := by simp [updX, h]
theorem updL_same (L : Nat → Bool) (i : Nat) : updL L i i = true := by simp [updL]
theorem updL_ne (L : Nat → Bool) {i j : Nat} (h : j ≠ i) : updL L i j = L j := by simp [updL, h]
/-- How many have not come up. -/
def left (l : List Bool) : Nat := match l with
  | [] => 0
  | b :: r => (if b then 0 else 1) + left r
theorem left_set : ∀ (l : List Bool) (i : Nat), l[i]? = some false → left (l.set i true) + 1 = left l
  | [], _, h => by simp at h
  | b :: r, 0, h => by
    simp only [List.getElem?_cons_zero, Option.some.injEq] at h
    subst h
    simp [left]; omega
  | b :: r, i + 1, h => by
    simp only [List.getElem?_cons_succ] at h
    have := left_set r i h
    simp only [List.set_cons_succ, left]
    omega
theorem left_zero : ∀ (l : List Bool) (i : Nat), left l = 0 → i < l.length → l[i]? = some true
  | [], _, _, h => by simp at h
  | b :: r, 0, h, _ => by
    cases b
    · simp [left] at h
    · rfl
  | b :: r, i + 1, h, hi => by
    simp only [List.getElem?_cons_succ]
    refine left_zero r i ?_ (by simpa using hi)
    simp only [left] at h
    omega
def toL (a : Array Bool) : Nat → Bool := fun j => a.getD j false
theorem toL_set {a : Array Bool} {i : Nat} (h : i < a.size) : toL (a.setIfInBounds i true) = updL (toL a) i := by
  funext j
  unfold toL updL
  by_cases hj : j = i
  · subst hj
    simp [h]
  · rw [getD_set_ne false (Ne.symm hj), if_neg hj]
/-- What lies behind an operation that has come up has come up. -/
def ClosedL (ops : Array Oper) (L : Nat → Bool) : Prop := ∀ j o, ops[j]? = some o → L j = true → ∀ e ∈ o.after, Region.binds .any e = true → L e.on = true
theorem getD_eq (listed : Array Bool) {i : Nat} (hi : i < listed.size) (d : Bool) : listed.getD i d = listed[i] := by
  rw [Array.getD_eq_getD_getElem?, Array.getElem?_eq_getElem hi]; rfl
theorem ready_all {ops : Array Oper} {listed : Array Bool} (hback : ∀ (i : Nat) (o : Oper), ops[i]? = some o → ∀ e ∈ o.after, e.on < i) (hs : listed.size = ops.size) (hr : Region.ready .any ops listed = []) : ∀ i, i < ops.size → toL listed i = true := by
  intro i
  induction i using Nat.strongRecOn with
  | ind i ih =>
    intro his
    cases hL : toL listed i with
    | true => rfl
    | false =>
      exfalso
      have hmem : i ∈ Region.ready .any ops listed := by
        refine mem_ready.2 ⟨?_, ops[i], Array.getElem?_eq_getElem his, fun e he _ => ?_⟩
        · unfold toL at hL
          rw [getD_eq listed (by omega)] at hL ⊢
          exact hL
        · have := hback i ops[i] (Array.getElem?_eq_getElem his) e he
          exact ih e.on this (by omega)
      rw [hr] at hmem
      cases hmem
theorem wpAny_inv {P : Program} {ops : Array Oper} {Q : Exit → Act → World → Prop} {n : Nat} (Inv : Nat → (Nat → Bool) → (Nat → Value) → World → Prop)
    (hstep : ∀ f L X w i o, Inv (f + 1) L X w → ClosedL ops L → ops[i]? = some o → L i = false → (∀ e ∈ o.after, Region.binds .any e = true → L e.on = true) →
      ∀ K : Act → World → Prop, (∀ X' w', Inv f (updL L i) X' w' → K (actX n X') w') → o.wp P (actX n X) w K Q)
    (hg : ∀ (i : Nat) (o : Oper), ops[i]? = some o → o.guard = none)
    (hback : ∀ (i : Nat) (o : Oper), ops[i]? = some o → ∀ e ∈ o.after, e.on < i)
    (hend : ∀ f L X w, Inv f L X w → (∀ i, i < ops.size → L i = true) → Q .normal (actX n X) w) :
    ∀ (fuel : Nat) (listed : Array Bool) (X : Nat → Value) (w : World), listed.size = ops.size → left listed.toList ≤ fuel → ClosedL ops (toL listed) → Inv fuel (toL listed) X w → wpAny P .any ops Q fuel listed (actX n X) w := by
  intro fuel
  induction fuel with
  | zero =>
    intro listed X w hs hl hc hI
    have hall : ∀ i, i < ops.size → listed[i]? = some true := fun i hi => by
      have := left_zero listed.toList i (by omega) (by simpa [hs] using hi)
      simpa using this
    refine ⟨?_, hend 0 _ X w hI fun i hi => by unfold toL; simp [Array.getD_eq_getD_getElem?, hall i hi]⟩
    rw [List.eq_nil_iff_forall_not_mem]
    intro j hj
    obtain ⟨h0, o, ho, _⟩ := mem_ready.1 hj
    have := hall j (Array.getElem?_eq_some_iff.1 ho).1
    simp [Array.getD_eq_getD_getElem?, this] at h0
  | succ f ih =>
    intro listed X w hs hl hc hI
    refine ⟨fun hr => ?_, fun i hi => ?_⟩
    · refine hend _ _ X w hI ?_
      exact ready_all hback hs hr
    · obtain ⟨h0, o, ho, hall⟩ := mem_ready.1 hi
      have hlt : i < ops.size := (Array.getElem?_eq_some_iff.1 ho).1
      have hLi : toL listed i = false := by
        unfold toL
        rw [getD_eq listed (by omega)] at h0 ⊢
        exact h0
      have hget : listed.toList[i]? = some false := by
        unfold toL at hLi
        rw [getD_eq listed (by omega)] at hLi
        rw [Array.getElem?_toList, Array.getElem?_eq_getElem (by omega), hLi]
      refine wpOp_step ho fun K' hK' => ?_
      rw [show Region.wanted o (yielded ops (actX n X).tmps) = true by unfold Region.wanted; rw [hg i o ho], if_pos rfl]
      refine hstep f _ X w i o hI hc ho hLi hall K' fun X' w' hI' => hK' _ _ ?_
      refine ih (listed.setIfInBounds i true) X' w' (by simpa using hs) ?_ ?_ ?_
      · have := left_set listed.toList i hget
        rw [Array.toList_setIfInBounds]
        omega
      · rw [toL_set (by omega)]
        intro j oj hoj hj e he hb
        unfold updL at hj ⊢
        by_cases hji : j = i
        · subst hji
          rw [ho] at hoj
          injection hoj with hoj
          subst hoj
          have := hall e he hb
          unfold toL
          split
          · rfl
          · exact this
        · rw [if_neg hji] at hj
          have := hc j oj hoj hj e he hb
          split
          · rfl
          · exact this
      · rw [toL_set (by omega)]
        exact hI'
end Go.Proofs.YtbecdncnidcmdaaGreatDoor
