/-
  PaPR · PaOrder · PaOfA · PaOfB · PaOfC · PaOfD · PaOf · PaPM, in one text.
-/
import Derived.Test.YtojpkbonioglbaaGreatDoorMaPaD
import Derived.Laws.EntriesVeiled
/-
  The walk of param's ParseRcpt.
-/
namespace Go.Proofs.YtojpkbonioglbaaGreatDoor
set_option maxRecDepth 100000
open Go.RowKit
theorem NotR.lt {w : World} (h : NotR w) : 8 < w.heap.size := cell_lt h.n0
theorem NotR.apart {mb n : Nat} {a w : World} (h : NotR a) (hb : Apart mb n a w) (hn : 8 < n) (hm : 8 ≠ mb) : NotR w :=
  ⟨(hb.cell hn hm _ _).trans h.n0, (hb.cell hn hm _ _).trans h.n1, (hb.cell hn hm _ _).trans h.n2⟩
def RcptPost (s : Txt) (w : World) (e : Ending) (w' : World) : Prop := e = .returned (.tuple #[.agg #[.string (mkS (pvR s).no), .string (mkS (pvR s).kind), .string (mkS (pvR s).oc)], .int .i64 (peR s)]) ∧ Below w.heap.size w w'
end Go.Proofs.YtojpkbonioglbaaGreatDoor
/-
  A region that draws its order, walked by an invariant: whichever operation comes up, the invariant holds behind it.
-/
namespace Go.Proofs.YtojpkbonioglbaaGreatDoor
set_option maxRecDepth 100000
open Go.RowKit
/-- An act whose slots are told by a function. -/
def actX (n : Nat) (X : Nat → Value) : Act := { tmps := ((List.range n).map X).toArray, defers := [] }
def updX (X : Nat → Value) (s : Nat) (v : Value) : Nat → Value := fun t => if t = s then v else X t
def updL (L : Nat → Bool) (i : Nat) : Nat → Bool := fun j => if j = i then true else L j
theorem eval_X {n t : Nat} (X : Nat → Value) (ht : t < n) : (actX n X).eval (.tmp t) = X t := by
  simp [Act.eval, actX, ht]
theorem put_X (n d : Nat) (X : Nat → Value) (v : Value) : (actX n X).put (some d) v = actX n (updX X d v) := by
  unfold Act.put actX updX
  simp only
  congr 1
  apply Array.ext_getElem?
  intro j
  rw [Array.getElem?_setIfInBounds]
  by_cases h : d = j
  · subst h
    by_cases h2 : d < n
    · simp [h2]
    · simp [h2]
  · simp only [h, if_false, List.getElem?_toArray, List.getElem?_map]
    by_cases h2 : j < n
    · simp [h2, Ne.symm h]
    · simp [h2]
theorem upd_same (X : Nat → Value) (s : Nat) (v : Value) : updX X s v s = v := by simp [updX]
theorem upd_ne (X : Nat → Value) {s t : Nat} (v : Value) (h : t ≠ s) : updX X s v t = X t := by simp [updX, h]
theorem updL_same (L : Nat → Bool) (i : Nat) : updL L i i = true := by simp [updL]
theorem updL_ne (L : Nat → Bool) {i j : Nat} (h : j ≠ i) : updL L i j = L j := by simp [updL, h]
/-- How many have not come up. -/
def left (l : List Bool) : Nat := match l with
  | [] => 0
  | b :: r => (if b then 0 else 1) + left r
theorem left_set : ∀ (l : List Bool) (i : Nat), l[i]? = some false → left (l.set i true) + 1 = left l
  | [], _, h => by simp at h
  | b :: r, 0, h => by
    simp only [List.getElem?_cons_zero, Option.some.injEq] at h
    subst h
    simp [left]; omega
  | b :: r, i + 1, h => by
    simp only [List.getElem?_cons_succ] at h
    have := left_set r i h
    simp only [List.set_cons_succ, left]
    omega
theorem left_zero : ∀ (l : List Bool) (i : Nat), left l = 0 → i < l.length → l[i]? = some true
  | [], _, _, h => by simp at h
  | b :: r, 0, h, _ => by
    cases b
    · simp [left] at h
    · rfl
  | b :: r, i + 1, h, hi => by
    simp only [List.getElem?_cons_succ]
    refine left_zero r i ?_ (by simpa using hi)
    simp only [left] at h
    omega
def toL (a : Array Bool) : Nat → Bool := fun j => a.getD j false
theorem toL_set {a : Array Bool} {i : Nat} (h : i < a.size) : toL (a.setIfInBounds i true) = updL (toL a) i := by
  funext j
  unfold toL updL
  by_cases hj : j = i
  · subst hj
    simp [h]
  · rw [getD_set_ne false (Ne.symm hj), if_neg hj]
/-- What lies behind an operation that has come up has come up. -/
def ClosedL (ops : Array Oper) (L : Nat → Bool) : Prop := ∀ j o, ops[j]? = some o → L j = true → ∀ e ∈ o.after, Region.binds .any e = true → L e.on = true
theorem getD_eq (listed : Array Bool) {i : Nat} (hi : i < listed.size) (d : Bool) : listed.getD i d = listed[i] := by
  rw [Array.getD_eq_getD_getElem?, Array.getElem?_eq_getElem hi]; rfl
theorem ready_all {ops : Array Oper} {listed : Array Bool} (hback : ∀ (i : Nat) (o : Oper), ops[i]? = some o → ∀ e ∈ o.after, e.on < i) (hs : listed.size = ops.size) (hr : Region.ready .any ops listed = []) : ∀ i, i < ops.size → toL listed i = true := by
  intro i
  induction i using Nat.strongRecOn with
  | ind i ih =>
    intro his
    cases hL : toL listed i with
    | true => rfl
    | false =>
      exfalso
      have hmem : i ∈ Region.ready .any ops listed := by
        refine mem_ready.2 ⟨?_, ops[i], Array.getElem?_eq_getElem his, fun e he _ => ?_⟩
        · unfold toL at hL
          rw [getD_eq listed (by omega)] at hL ⊢
          exact hL
        · have := hback i ops[i] (Array.getElem?_eq_getElem his) e he
          exact ih e.on this (by omega)
      rw [hr] at hmem
      cases hmem
theorem wpAny_inv {P : Program} {ops : Array Oper} {Q : Exit → Act → World → Prop} {n : Nat} (Inv : Nat → (Nat → Bool) → (Nat → Value) → World → Prop)
    (hstep : ∀ f L X w i o, Inv (f + 1) L X w → ClosedL ops L → ops[i]? = some o → L i = false → (∀ e ∈ o.after, Region.binds .any e = true → L e.on = true) →
      ∀ K : Act → World → Prop, (∀ X' w', Inv f (updL L i) X' w' → K (actX n X') w') → o.wp P (actX n X) w K Q)
    (hg : ∀ (i : Nat) (o : Oper), ops[i]? = some o → o.guard = none)
    (hback : ∀ (i : Nat) (o : Oper), ops[i]? = some o → ∀ e ∈ o.after, e.on < i)
    (hend : ∀ f L X w, Inv f L X w → (∀ i, i < ops.size → L i = true) → Q .normal (actX n X) w) :
    ∀ (fuel : Nat) (listed : Array Bool) (X : Nat → Value) (w : World), listed.size = ops.size → left listed.toList ≤ fuel → ClosedL ops (toL listed) → Inv fuel (toL listed) X w → wpAny P .any ops Q fuel listed (actX n X) w := by
  intro fuel
  induction fuel with
  | zero =>
    intro listed X w hs hl hc hI
    have hall : ∀ i, i < ops.size → listed[i]? = some true := fun i hi => by
      have := left_zero listed.toList i (by omega) (by simpa [hs] using hi)
      simpa using this
    refine ⟨?_, hend 0 _ X w hI fun i hi => by unfold toL; simp [Array.getD_eq_getD_getElem?, hall i hi]⟩
    rw [List.eq_nil_iff_forall_not_mem]
    intro j hj
    obtain ⟨h0, o, ho, _⟩ := mem_ready.1 hj
    have := hall j (Array.getElem?_eq_some_iff.1 ho).1
    simp [Array.getD_eq_getD_getElem?, this] at h0
  | succ f ih =>
    intro listed X w hs hl hc hI
    refine ⟨fun hr => ?_, fun i hi => ?_⟩
    · refine hend _ _ X w hI ?_
      exact ready_all hback hs hr
    · obtain ⟨h0, o, ho, hall⟩ := mem_ready.1 hi
      have hlt : i < ops.size := (Array.getElem?_eq_some_iff.1 ho).1
      have hLi : toL listed i = false := by
        unfold toL
        rw [getD_eq listed (by omega)] at h0 ⊢
        exact h0
      have hget : listed.toList[i]? = some false := by
        unfold toL at hLi
        rw [getD_eq listed (by omega)] at hLi
        rw [Array.getElem?_toList, Array.getElem?_eq_getElem (by omega), hLi]
      refine wpOp_step ho fun K' hK' => ?_
      rw [show Region.wanted o (yielded ops (actX n X).tmps) = true by unfold Region.wanted; rw [hg i o ho], if_pos rfl]
      refine hstep f _ X w i o hI hc ho hLi hall K' fun X' w' hI' => hK' _ _ ?_
      refine ih (listed.setIfInBounds i true) X' w' (by simpa using hs) ?_ ?_ ?_
      · have := left_set listed.toList i hget
        rw [Array.toList_setIfInBounds]
        omega
      · rw [toL_set (by omega)]
        intro j oj hoj hj e he hb
        unfold updL at hj ⊢
        by_cases hji : j = i
        · subst hji
          rw [ho] at hoj
          injection hoj with hoj
          subst hoj
          have := hall e he hb
          unfold toL
          split
          · rfl
          · exact this
        · rw [if_neg hji] at hj
          have := hc j oj hoj hj e he hb
          split
          · rfl
          · exact this
      · rw [toL_set (by omega)]
        exact hI'
end Go.Proofs.YtojpkbonioglbaaGreatDoor
/-
  The operations of ofMail's region that draws its order, one by one.
-/
namespace Go.Proofs.YtojpkbonioglbaaGreatDoor
set_option maxRecDepth 100000
open Go.RowKit
def regOps (id : Nat) : Code → Array Oper
  | .region i ops _ => if i == id then ops else #[]
  | .seq a b => if (regOps id a).isEmpty then regOps id b else regOps id a
  | .block _ c => regOps id c
  | _ => #[]
theorem ex_nil {X : Nat → Value} {t : Nat} {p : Addr} {w : World} {o : Oper} (ht : t < 47) (hX : X t = .pointer (some p)) (hop : o.op = .nilCheck (.tmp t)) :
    (execOp (actX 47 X).eval o).run Tryz.prog w = .ok (.value (.pointer (some p))) w := by
  have he := eval_X X ht
  simp only [execOp, hop, he, hX]
  go_simp
theorem ex_fld {X : Nat → Value} {t k c : Nat} {b : Nat} {w : World} {o : Oper} (ht : t < 47) (hX : X t = .pointer (some ⟨b, 0, none⟩)) (hk : (k, c) ∈ [(0, 0), (1, 5), (2, 6), (5, 9), (6, 10), (7, 11)]) (hop : o.op = .fieldAddr 31 (.tmp t) k) :
    (execOp (actX 47 X).eval o).run Tryz.prog w = .ok (.value (.pointer (some ⟨b, c, none⟩))) w := by
  have he := eval_X X ht
  simp only [List.mem_cons, List.not_mem_nil, or_false, Prod.mk.injEq] at hk
  rcases hk with ⟨rfl, rfl⟩ | ⟨rfl, rfl⟩ | ⟨rfl, rfl⟩ | ⟨rfl, rfl⟩ | ⟨rfl, rfl⟩ | ⟨rfl, rfl⟩
  all_goals
    simp only [execOp, hop, he, hX]
    go_simp
theorem ex_has {X : Nat → Value} {t k : Nat} {b : Nat} {w : World} {o : Oper} (ht : t < 47) (hX : X t = .pointer (some ⟨b, 0, none⟩)) (hk : k ∈ [0, 1, 4]) (hop : o.op = .fieldAddr 29 (.tmp t) k) :
    (execOp (actX 47 X).eval o).run Tryz.prog w = .ok (.value (.pointer (some ⟨b, k, none⟩))) w := by
  have he := eval_X X ht
  simp only [List.mem_cons, List.not_mem_nil, or_false] at hk
  rcases hk with rfl | rfl | rfl
  all_goals
    simp only [execOp, hop, he, hX]
    go_simp
theorem ex_move {X : Nat → Value} {t : Nat} {w : World} {o : Oper} (ht : t < 47) (hop : o.op = .move (.tmp t)) :
    (execOp (actX 47 X).eval o).run Tryz.prog w = .ok (.value (X t)) w := by
  have he := eval_X X ht
  simp only [execOp, hop, he]
  go_simp
theorem ex_assign {X : Nat → Value} {t : Nat} {w : World} {o : Oper} (ht : t < 47) (hop : o.op = .assign (.tmp t)) :
    (execOp (actX 47 X).eval o).run Tryz.prog w = .ok (.value (X t)) w := by
  have he := eval_X X ht
  simp only [execOp, hop, he]
  go_simp
theorem get_X {n t : Nat} (X : Nat → Value) (ht : t < n) : (actX n X).tmps[t]?.getD undef = X t := by simp [actX, ht]
theorem ex_fn1 {X : Nat → Value} {g t : Nat} {w : World} {o : Oper} (ht : t < 47) (hop : o.op = .makeFunc (.func g) #[] #[.tmp t]) :
    (execOp (actX 47 X).eval o).run Tryz.prog w = .ok (.value (.func (.func g) #[] #[X t])) w := by
  simp only [execOp, hop]
  go_simp
  exact get_X X ht
theorem ex_fn2 {X : Nat → Value} {g t u : Nat} {w : World} {o : Oper} (ht : t < 47) (hu : u < 47) (hop : o.op = .makeFunc (.func g) #[] #[.tmp t, .tmp u]) :
    (execOp (actX 47 X).eval o).run Tryz.prog w = .ok (.value (.func (.func g) #[] #[X t, X u])) w := by
  simp only [execOp, hop]
  go_simp
  exact ⟨get_X X ht, get_X X hu⟩
end Go.Proofs.YtojpkbonioglbaaGreatDoor
/-
  What holds while ofMail's map is made, whichever operation comes up.
-/
namespace Go.Proofs.YtojpkbonioglbaaGreatDoor
set_option maxRecDepth 100000
open Go.RowKit
def depM : List (List Nat) := [
[], [], [], [2], [3], [], [5], [6], [7], [1, 4, 8], [0, 9], [], [], [12], [13], [11, 14, 9], [0, 15], [], [], [18], [19], [17, 20, 15], [0, 21], [], [0, 23], [], [], [26], [27], [], [29], [30], [31], [25, 28, 32, 21], [0, 33], [], [], [36], [37], [], [39], [40], [41], [35, 38, 42, 33], [0, 43], [], [0, 45], [], [0, 47], [0, 1, 2, 3, 4, 5, 6, 7, 8, 9, 10, 11, 12, 13, 14, 15, 16, 17, 18, 19, 20, 21, 22, 23, 24, 25, 26, 27, 28, 29, 30, 31, 32, 33, 34, 35, 36, 37, 38, 39, 40, 41, 42, 43, 44, 45, 46, 47, 48], [49, 43, 0, 1, 2, 3, 4, 5, 6, 7, 8, 9, 10, 11, 12, 13, 14, 15, 16, 17, 18, 19, 20, 21, 22, 23, 24, 25, 26, 27, 28, 29, 30, 31, 32, 33, 34, 35, 36, 37, 38, 39, 40, 41, 42, 43, 44, 45, 46, 47, 48, 49]]
def slotM (i : Nat) : Nat := ([5, 6, 7, 8, 9, 10, 11, 12, 13, 14, 110, 15, 16, 17, 18, 19, 116, 20, 21, 22, 23, 24, 122, 25, 124, 26, 27, 28, 29, 30, 31, 32, 33, 34, 134, 35, 36, 37, 38, 39, 40, 41, 42, 43, 144, 44, 146, 45, 148, 46, 2] : List Nat).getD i 200
theorem slot_inj : ∀ i, i < 51 → ∀ j, j < 51 → i ≠ j → slotM i ≠ slotM j := by decide +kernel
theorem slot_old : ∀ i, i < 51 → slotM i ≠ 1 ∧ slotM i ≠ 3 ∧ slotM i ≠ 4 := by decide +kernel
def entsM : List (Nat × Txt × Nat) := [(10, kSIZE, 14), (16, kBODY, 19), (22, kRET, 24), (24, kENV, 25), (34, kHF, 34), (44, kPR, 43), (46, kHU, 44), (48, kBY, 45)]
/-- What the map holds, by what has come up. -/
def fmap (L : Nat → Bool) (X : Nat → Value) : List (Nat × Txt × Nat) → Txt → Option Value
  | [], _ => none
  | (e, K, t) :: r, k => if k = K then (if L e then some (X t) else none) else fmap L X r k
theorem fmap_frame (L : Nat → Bool) (X : Nat → Value) (i s : Nat) (v : Value) : ∀ (l : List (Nat × Txt × Nat)), (∀ q ∈ l, q.1 ≠ i ∧ (q.2.2 = s → L q.1 = false)) → ∀ k, fmap (updL L i) (updX X s v) l k = fmap L X l k
  | [], _, _ => rfl
  | (e, K, t) :: r, h, k => by
    have h1 := h (e, K, t) (by simp)
    rw [fmap, fmap, fmap_frame L X i s v r (fun q hq => h q (List.mem_cons_of_mem _ hq)) k]
    have e1 : updL L i e = L e := updL_ne L h1.1
    rw [e1]
    cases hL : L e
    · rfl
    · have ht : t ≠ s := fun e' => by have := h1.2 e'; rw [hL] at this; cases this
      rw [upd_ne X v ht]
theorem fmap_L (L : Nat → Bool) (X : Nat → Value) (i : Nat) : ∀ (l : List (Nat × Txt × Nat)), i ∉ l.map (·.1) → ∀ k, fmap (updL L i) X l k = fmap L X l k
  | [], _, _ => rfl
  | (e, K, t) :: r, h, k => by
    rw [List.map_cons, List.mem_cons, not_or] at h
    have e1 : updL L i e = L e := updL_ne L (fun e' => h.1 e'.symm)
    rw [fmap, fmap, fmap_L L X i r h.2 k, e1]
theorem fmap_set (L : Nat → Bool) (X : Nat → Value) (i : Nat) (K : Txt) (t : Nat) : ∀ (l : List (Nat × Txt × Nat)), (i, K, t) ∈ l → (l.map (·.2.1)).Nodup → (l.map (·.1)).Nodup → ∀ k, fmap (updL L i) X l k = if k = K then some (X t) else fmap L X l k
  | [], h, _, _, _ => by simp at h
  | (e, K', t') :: r, h, hn, hm, k => by
    rw [List.map_cons, List.nodup_cons] at hn hm
    rw [fmap, fmap]
    rcases List.mem_cons.1 h with h | h
    · injection h with h1 h2
      injection h2 with h2 h3
      subst h1 h2 h3
      have hr := fmap_L L X i r hm.1
      by_cases hk : k = K
      · rw [if_pos hk, if_pos hk, updL_same, if_pos rfl]
      · rw [if_neg hk, if_neg hk, if_neg hk, hr k]
    · have hk' : K ≠ K' := fun e' => hn.1 (by rw [← e']; exact List.mem_map.2 ⟨_, h, rfl⟩)
      have hi' : e ≠ i := fun e' => hm.1 (by show e ∈ _; rw [e']; exact List.mem_map.2 ⟨_, h, rfl⟩)
      by_cases hk : k = K'
      · have e2 : updL L i e = L e := updL_ne L hi'
        have hkK : ¬ k = K := fun e' => hk' (e'.symm.trans hk)
        rw [if_pos hk, if_pos hk, if_neg hkK, e2]
      · rw [if_neg hk, if_neg hk, fmap_set L X i K t r h hn.2 hm.2 k]
theorem fmap_none (L : Nat → Bool) (X : Nat → Value) : ∀ (l : List (Nat × Txt × Nat)), (∀ q ∈ l, L q.1 = false) → ∀ k, fmap L X l k = none
  | [], _, _ => rfl
  | (e, K, t) :: r, h, k => by
    rw [fmap, fmap_none L X r (fun q hq => h q (List.mem_cons_of_mem _ hq)) k, h (e, K, t) (by simp)]
    split <;> rfl
end Go.Proofs.YtojpkbonioglbaaGreatDoor
/-
  What holds while ofMail's map is made: each operation keeps it.
-/
namespace Go.Proofs.YtojpkbonioglbaaGreatDoor
set_option maxRecDepth 100000
open Go.RowKit
/-- Every variable's box holds what it held. -/
def KC (w w' : World) : Prop := ∀ b v, w.cell? ⟨b, 0, none⟩ = some v → w'.cell? ⟨b, 0, none⟩ = some v
theorem KC.of {w w' : World} (h : Below w.heap.size w w') : KC w w' := fun b _ hv => (h.cell (p := ⟨b, 0, none⟩) (cell_lt hv)).trans hv
theorem KC.map {w w' : World} {M n : Nat} {f : Txt → Option Value} (h : MapIs w M n f) (hg : w.grownBy w' (some M)) : KC w w' := fun b v hv => by
  obtain ⟨es, cl, hm⟩ := h.isMap
  have hne : b ≠ M := fun e => by subst e; simp [World.cell?, hm] at hv
  rw [← hv]
  simp only [World.cell?, hg.block b (cell_lt hv) (fun e => hne (by injection e))]
theorem ents_ok : ∀ q ∈ entsM, 100 ≤ slotM q.1 ∧ q.1 < 51 ∧ ((depM[q.1]?).getD []).any (fun s => decide (s < 51) && slotM s == q.2.2) = true ∧ 0 ∈ (depM[q.1]?).getD [] := by decide +kernel
end Go.Proofs.YtojpkbonioglbaaGreatDoor
/-
  ofMail's region that draws its order: each operation keeps what holds; what stands behind it.
-/
namespace Go.Proofs.YtojpkbonioglbaaGreatDoor
set_option maxRecDepth 100000
open Go.RowKit
section
variable {Q : Exit → Act → World → Prop} {K : Act → World → Prop} {X : Nat → Value} {w w' : World} {o : Oper} {v : Value}
theorem val_step (hr : (execOp (actX 47 X).eval o).run Tryz.prog w = .ok (.value v) w') (hK : K ((actX 47 X).put o.dst v) w') : o.wp Tryz.prog (actX 47 X) w K Q := by
  unfold Oper.wp
  rw [hr]
  exact hK
theorem skip_step (hr : (execOp (actX 47 X).eval o).run Tryz.prog w = .ok .skip w') (hd : o.dst = none) (hK : K (actX 47 X) w') : o.wp Tryz.prog (actX 47 X) w K Q := by
  unfold Oper.wp
  rw [hr, Oper.upon_skip, hd]
  exact hK
theorem call_step {f : Nat} {args : Array Value} (hr : (execOp (actX 47 X).eval o).run Tryz.prog w = .ok (.enter f args) w) (hK : Calls Tryz.prog f args w fun e w' => ∃ u, e = .returned u ∧ K ((actX 47 X).put o.dst u) w') : o.wp Tryz.prog (actX 47 X) w K Q := by
  unfold Oper.wp
  rw [hr]
  refine hK.mono ?_
  rintro e w' ⟨u, rfl, hu⟩
  exact hu
end
section
variable {w0 : World} {mb B B3 : Nat} {Q : Exit → Act → World → Prop}
end
end Go.Proofs.YtojpkbonioglbaaGreatDoor
/-
  The walk of param's ofMail: the map of what a message's keys do.
-/
namespace Go.Proofs.YtojpkbonioglbaaGreatDoor
set_option maxRecDepth 100000
open Go.RowKit
theorem subst_act {Q : Exit → Act → World → Prop} {ops : Array Oper} {a a' : Act} {w : World} (h : a' = a) (hk : wpAny Tryz.prog .any ops Q 51 (Array.replicate 51 false) a w) : wpAny Tryz.prog .any ops Q 51 (Array.replicate 51 false) a' w := h ▸ hk
theorem fmap_full (L : Nat → Bool) (X : Nat → Value) : ∀ (l : List (Nat × Txt × Nat)), (∀ q ∈ l, L q.1 = true) → ∀ k, fmap L X l k = fmap (fun _ => true) X l k
  | [], _, _ => rfl
  | (e, K, t) :: r, h, k => by
    rw [fmap, fmap, fmap_full L X r (fun q hq => h q (List.mem_cons_of_mem _ hq)) k, h (e, K, t) (by simp)]
def mCells (m : ML) : Array Value := #[.bool m.hs, .bool m.hf, .bool m.hu, .bool m.hb, .bool m.hp, .int .i64 m.sz, .int .i64 m.fo, .int .i64 m.un, .int .i64 m.by_, .int .i64 m.pr, .string (mkS m.body), .string (mkS m.ret), .string (mkS m.env), .string (mkS m.mode)]
theorem fM_is (X : Nat → Value) (k : Txt) : (fmap (fun _ => true) X entsM k).isSome = isKM k := by
  simp only [entsM, fmap, if_true]
  unfold isKM
  by_cases h1 : k = kSIZE
  · subst h1; rfl
  by_cases h2 : k = kBODY
  · subst h2; rfl
  by_cases h3 : k = kRET
  · subst h3; rfl
  by_cases h4 : k = kENV
  · subst h4; rfl
  by_cases h5 : k = kHF
  · subst h5; rfl
  by_cases h6 : k = kPR
  · subst h6; rfl
  by_cases h7 : k = kHU
  · subst h7; rfl
  by_cases h8 : k = kBY
  · subst h8; rfl
  simp [h1, h2, h3, h4, h5, h6, h7, h8]
end Go.Proofs.YtojpkbonioglbaaGreatDoor
/-
  The walk of param's ParseMail.
-/
namespace Go.Proofs.YtojpkbonioglbaaGreatDoor
set_option maxRecDepth 100000
open Go.RowKit
theorem held_x (m : ML) (w : World) : Calls Tryz.prog 185 #[.agg #[.bool m.hs, .bool m.hf, .bool m.hu, .bool m.hb, .bool m.hp, .int .i64 m.sz, .int .i64 m.fo, .int .i64 m.un, .int .i64 m.by_, .int .i64 m.pr, .string (mkS m.body), .string (mkS m.ret), .string (mkS m.env), .string (mkS m.mode)]] w fun e w' => e = .returned (.bool (m.hf && m.hu)) ∧ Below w.heap.size w w' := by
  obtain ⟨hs, hf, hu, hb, hp, sz, fo, un, by_, pr, body, ret, env, mode⟩ := m
  cases hf <;> cases hu
  all_goals
    go_enter Tryz.func185, Tryz.ntmps185
    go_wp2_with fail
    go_ret
    exact ⟨rfl, (Below.refl _ w).alloc (Nat.le_refl _) _⟩
def MailPost (s : Txt) (w : World) (e : Ending) (w' : World) : Prop := e = .returned (.tuple #[.agg (mCells (pvM s)), .int .i64 (peM s)]) ∧ Below w.heap.size w w'
end Go.Proofs.YtojpkbonioglbaaGreatDoor
