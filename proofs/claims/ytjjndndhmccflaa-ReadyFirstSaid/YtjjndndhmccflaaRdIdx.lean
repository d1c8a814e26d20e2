/-
  The walks of place and of the search for who may be taken: the first one of the row.
-/
import Derived.Test.YtjjndndhmccflaaRdSort
namespace Go.Proofs.Ytjjndndhmccflaa
set_option maxRecDepth 100000
open Go.RowKit
/-- r: where the first one is that p says of; -1: nowhere. -/
def Idx (p : Wt → Bool) (l : List Wt) (r : Int) : Prop := (r = -1 ∧ l.find? p = none) ∨ ∃ (k : Nat) (x : Wt), r = (k : Int) ∧ l[k]? = some x ∧ l.find? p = some x
theorem idx_from (p : Wt → Bool) (d : Wt) : ∀ (l : List Wt) (i : Nat), (Lib.idxByFrom (fun _ y => p y) d l i = -1 ∧ l.find? p = none) ∨ ∃ (k : Nat) (x : Wt), Lib.idxByFrom (fun _ y => p y) d l i = ((i + k : Nat) : Int) ∧ l[k]? = some x ∧ l.find? p = some x
  | [], _ => .inl ⟨rfl, rfl⟩
  | y :: r, i => by
    rw [Lib.idxByFrom]
    by_cases h : p y = true
    · rw [if_pos h]
      exact .inr ⟨0, y, rfl, rfl, List.find?_cons_of_pos h⟩
    · rw [if_neg h, List.find?_cons_of_neg h]
      rcases idx_from p d r (i + 1) with h1 | ⟨k, x, h1, h2, h3⟩
      · exact .inl h1
      · exact .inr ⟨k + 1, x, by rw [h1]; congr 1; omega, h2, h3⟩
theorem idx_of (p : Wt → Bool) (l : List Wt) : Idx p l (Lib.idxBy (fun _ y => p y) (l.take l.length) default) := by
  rw [List.take_length]
  rcases idx_from p default l 0 with h | ⟨k, x, h1, h2, h3⟩
  · exact .inl h
  · exact .inr ⟨k, x, by rw [Lib.idxBy, h1, Nat.zero_add], h2, h3⟩
theorem idx_nil (p : Wt → Bool) : Idx p [] (-1) := .inl ⟨rfl, rfl⟩
set_option maxHeartbeats 2000000 in
theorem idxn_x (A : Option Addr) (c : Nat) (fv : Value) (w : World) : Calls Try.prog 32 #[.slice A 0 c, fv] w fun e w' => e = .returned (.int .i64 (-1)) ∧ w' = w := by
  go_enter Try.func32, Try.ntmps32
  go_wp2_with fail
  refine wp_loop_rounds 1 ?_
  rw [rounds_succ]
  go_wp2_with fail
  go_ret
  exact ⟨rfl, rfl⟩
/-- slices.IndexFunc over a queue's row. -/
theorem idx_x {O : Nat → Prop} {b : Nat} {v : Value} {fm gm : Nat} {P : List Wt} {G : List (Txt × Int)} {S : Rq} {w : World} (h : RB O b v fm gm P G S w) (g : Nat) (lb : Array Value) (p : Wt → Bool) (eg : ∀ args w, (callFunc g args).run Try.prog w = .ok (.enter g args) w)
    (hp : PredBelow Try.prog g lb (fun x => .agg (encN x).toArray) p w) :
    Calls Try.prog 32 #[v, .func (.func g) #[] lb] w fun e w' => (∃ r, e = .returned (.int .i64 r) ∧ Idx p P r) ∧ Below w.heap.size w w' := by
  rcases Nat.eq_zero_or_pos P.length with h0 | h0
  · have hP : P = [] := List.length_eq_zero_iff.1 h0
    obtain ⟨A, c, rfl⟩ := h.nil hP
    refine (idxn_x A c _ w).mono ?_
    rintro e w' ⟨rfl, rfl⟩
    exact ⟨⟨_, rfl, hP ▸ idx_nil p⟩, Below.refl _ _⟩
  · obtain ⟨k, cap, cur, hv, hg, hc⟩ := h.form h0
    have hcon := AnyQ.slices_IndexFunc Try.idxW 5 Try.isAgg70 Try.sizeOf70 encN encN_len p g lb eg k 0 P.length cap P w hp (Nat.le_refl _) (by have := h.few; omega) (ltOf hg) (fun j hj i u hi => by
      obtain ⟨x, hx⟩ : ∃ x, P[j]? = some x := ⟨_, List.getElem?_eq_getElem hj⟩
      have e : P[j]! = x := by rw [List.getElem!_eq_getElem?_getD, hx]; rfl
      rw [e, encN_of (h.okP x (List.mem_of_getElem? hx)).1] at hi
      have hi5 : i < 5 := by have := (List.getElem?_eq_some_iff.1 hi).1; rwa [encR_len] at this
      rw [Nat.zero_add, h.get hv hx hi5]
      exact hi)
    change Calls Try.prog 32 _ _ _ at hcon
    rw [hv]
    refine hcon.mono ?_
    rintro e w' ⟨rfl, hb⟩
    exact ⟨⟨_, rfl, idx_of p P⟩, hb⟩
def isId (i : Int) (x : Wt) : Bool := x.1.id == i
set_option maxHeartbeats 2000000 in
theorem pid_x (x : Wt) (i : Int) (B : Nat) (W : World) (hc : W.cell? ⟨B, 0, none⟩ = some (.int .i64 i)) :
    Calls Try.prog 34 #[.agg (encR x).toArray, .pointer (some ⟨B, 0, none⟩)] W fun e w' => e = .returned (.bool (isId i x)) ∧ Below W.heap.size W w' := by
  have hB := cellLt hc
  dsimp only at hB
  have hne : B ≠ W.heap.size := by omega
  unfold isId
  show Calls Try.prog 34 #[.agg #[.int .i64 x.1.id, .string (mkS x.1.dest), .int .i64 x.1.pri, .int .i64 x.1.at_, .int .i64 x.2], .pointer (some ⟨B, 0, none⟩)] W _
  obtain ⟨⟨xi, xd, xp, xa⟩, xn⟩ := x
  dsimp only
  go_enter Try.func34, Try.ntmps34
  go_wp2_with fail
  go_ret
  exact ⟨rfl, below_box W _⟩
set_option maxHeartbeats 4000000 in
/-- place. -/
theorem place_x {O : Nat → Prop} {b : Nat} {v : Value} {fm gm : Nat} {P : List Wt} {G : List (Txt × Int)} {S : Rq} {w : World} (h : RB O b v fm gm P G S w) (i : Int) :
    Calls Try.prog 26 #[.pointer (some ⟨b, 0, none⟩), .int .i64 i] w fun e w' => (∃ r, e = .returned (.int .i64 r) ∧ Idx (isId i) P r) ∧ Below w.heap.size w w' := by
  have c4 := h.c4
  have hb := h.blt
  have hb1 : b ≠ w.heap.size := by omega
  have h2 := h.below (below_box w (.cells #[.int .i64 i] 3))
  have cn : (w.alloc (.cells #[.int .i64 i] 3)).cell? ⟨w.heap.size, 0, none⟩ = some (.int .i64 i) := cellOf (newOf _ _) 0
  have eg : ∀ args w, (callFunc 34 args).run Try.prog w = .ok (.enter 34 args) w := enters_of Try.func34 (by kernel_rfl) rfl
  have hcon := idx_x h2 34 #[.pointer (some ⟨w.heap.size, 0, none⟩)] (fun x => isId i (nrmW x)) eg (fun W x hb => by
    refine (pid_x (nrmW x) i w.heap.size W ((hb.cell (p := ⟨w.heap.size, 0, none⟩) (by simp)).trans cn)).mono ?_
    rintro e w' ⟨rfl, hb'⟩
    exact ⟨rfl, below_next hb hb'⟩)
  have HE := Lib.hid (show ∀ r, Idx (fun x => isId i (nrmW x)) P r → Idx (isId i) P r from fun r hr => by
    have e : P.find? (fun x => isId i (nrmW x)) = P.find? (isId i) := by
      have hok := h.okP
      clear hcon h2 h hr
      induction P with
      | nil => rfl
      | cons y r ih =>
        have e1 : nrmW y = y := by unfold nrmW; rw [nrm_of (hok y (List.mem_cons_self ..)).1]
        rw [List.find?_cons, List.find?_cons, e1, ih fun x hx => hok x (List.mem_cons_of_mem _ hx)]
    unfold Idx at hr ⊢
    rw [e] at hr
    exact hr)
  have HC := Lib.hid hcon
  obtain ⟨A, c, rfl⟩ := h.slice
  clear hcon h h2 cn eg
  go_enter Try.func26, Try.ntmps26
  go_wp2_with fail
  refine HC.out.mono ?_
  rintro e w' ⟨⟨r, rfl, hr⟩, hb'⟩
  have HR := Lib.hid (And.intro hr hb')
  clear hr hb'
  go_wp2_with fail
  go_ret
  exact ⟨⟨r, rfl, HE.out r HR.out.1⟩, below_fresh (Below.refl _ w) HR.out.2⟩
set_option maxHeartbeats 4000000 in
/-- Whether one may be taken. -/
theorem may_x (x : Wt) (rb b gm : Nat) (lim : Int) (G : List (Txt × Int)) (W : World) (hd : x.1.dest.length ≤ 1000000000) (hr : W.cell? ⟨rb, 0, none⟩ = some (.pointer (some ⟨b, 0, none⟩))) (h1 : W.cell? ⟨b, 1, none⟩ = some (.int .i64 lim)) (h6 : W.cell? ⟨b, 6, none⟩ = some (.map (some gm))) (hG : MapAt W gm G) :
    Calls Try.prog 31 #[.agg (encR x).toArray, .pointer (some ⟨rb, 0, none⟩)] W fun e w' => e = .returned (.bool (decide (getG G x.1.dest < lim))) ∧ Below W.heap.size W w' := by
  have hr' := cellLt hr
  have hb' := cellLt h1
  dsimp only at hr' hb'
  have n1 : rb ≠ W.heap.size := by omega
  have n2 : b ≠ W.heap.size := by omega
  show Calls Try.prog 31 #[.agg #[.int .i64 x.1.id, .string (mkS x.1.dest), .int .i64 x.1.pri, .int .i64 x.1.at_, .int .i64 x.2], .pointer (some ⟨rb, 0, none⟩)] W _
  obtain ⟨⟨xi, xd, xp, xa⟩, xn⟩ := x
  dsimp only at hd ⊢
  have hG2 : MapAt (W.alloc (.cells #[.int .i64 xi, .string (mkS xd), .int .i64 xp, .int .i64 xa, .int .i64 xn] 70)) gm G := hG.block ((below_box W _).block gm hG.lt)
  have HL : ∀ m, (Instr.lookup 61 (.map (some gm)) (.string (mkS xd)) false).run Try.prog ((W.alloc (.cells #[.int .i64 xi, .string (mkS xd), .int .i64 xp, .int .i64 xa, .int .i64 xn] 70)).drewN m) = .ok (.int .i64 (getG G xd)) ((W.alloc (.cells #[.int .i64 xi, .string (mkS xd), .int .i64 xp, .int .i64 xa, .int .i64 xn] 70)).drewN m) := fun m =>
    MapAt.get (w := (W.alloc (.cells #[.int .i64 xi, .string (mkS xd), .int .i64 xp, .int .i64 xa, .int .i64 xn] 70)).drewN m) (hG2.block rfl) (by omega)
  clear hG2
  generalize getG G xd = q at HL ⊢
  go_enter Try.func31, Try.ntmps31
  go_wp2_with fail
  go_quiet (fail)
  go_wp2_with fail
  go_ret
  exact ⟨rfl, below_drewN (below_box W _) nq⟩
end Go.Proofs.Ytjjndndhmccflaa
