/-
  Plain mathematics: what the reference's Parse makes of a reply's texts; a row of its own.
-/
import Derived.Test.YtdcakmamdabiaaaDoorRrCode
import Derived.Test.YtdcakmamdabiaaaDoorRrRead
import Derived.Test.YtdcakmamdabiaaaDoorRpParse
namespace Go.Proofs.YtdcakmamdabiaaaDoor
set_option maxRecDepth 100000
open Go.RowKit
def rdE (c : Int) (t : Txt) : E3 := (rpFront c t).getD rpE0
def rdR (c : Int) (t : Txt) : Txt := if (rpFront c t).isSome then postC 32 t else []
/-- Do the first m texts begin as the first one does? -/
def okP (c : Int) (t0 : Txt) (ts : List Txt) (m : Nat) : Bool := (rpFront c t0).isSome && (ts.take m).all (fun t => rpFront c t == rpFront c t0)
theorem okP_no {c : Int} {t0 : Txt} {ts : List Txt} {m : Nat} (h : okP c t0 ts m = false) : okP c t0 ts (m + 1) = false := by
  unfold okP at h ⊢
  cases hs : (rpFront c t0).isSome
  · rfl
  · rw [hs, Bool.true_and] at h
    rw [Bool.true_and, List.all_eq_false] at *
    obtain ⟨x, hx, hp⟩ := h
    exact ⟨x, (List.take_subset_take_left ts (Nat.le_succ m)) hx, hp⟩
theorem okP_step {c : Int} {t0 t : Txt} {ts : List Txt} {m : Nat} (ht : ts[m]? = some t) (h : okP c t0 ts m = true) : okP c t0 ts (m + 1) = ((rpFront c t).isSome && rdE c t == rdE c t0) := by
  unfold okP at h ⊢
  rw [Bool.and_eq_true] at h
  obtain ⟨h1, h2⟩ := List.getElem?_eq_some_iff.1 ht
  rw [List.take_succ_eq_append_getElem h1, h2, List.all_append, h.1, h.2]
  obtain ⟨e, he⟩ := Option.isSome_iff_exists.1 h.1
  unfold rdE
  rw [he]
  rw [show ([t].all fun t => rpFront c t == some e) = (rpFront c t == some e) by simp]
  generalize rpFront c t = q
  cases q with
  | none => rfl
  | some x => simp
theorem part_ok {c : Int} {t0 : Txt} {ts : List Txt} (h0 : ts.head? = some t0) : rpPart c ts = if okP c t0 ts ts.length = true then (rdE c t0, ts.map (rdR c)) else (rpE0, ts) := by
  cases ts with
  | nil => cases h0
  | cons a r =>
    simp only [List.head?_cons, Option.some.injEq] at h0
    subst h0
    rw [okP, rdE, List.take_length]
    cases hf : rpFront c a with
    | none =>
      have : rpPart c (a :: r) = (rpE0, a :: r) := by rw [rpPart, hf]
      rw [this]; rfl
    | some e =>
      have : rpPart c (a :: r) = if (a :: r).all (fun t => rpFront c t == some e) then (e, (a :: r).map (postC 32)) else (rpE0, a :: r) := by rw [rpPart, hf]
      rw [this]
      simp only [Option.isSome_some, Bool.true_and, Option.getD_some]
      by_cases hall : ((a :: r).all fun t => rpFront c t == some e) = true
      · rw [if_pos hall, if_pos hall]
        have hm : (a :: r).map (postC 32) = (a :: r).map (rdR c) := List.map_congr_left fun t ht => by
          have := (List.all_eq_true.1 hall) t ht
          rw [beq_iff_eq] at this
          rw [rdR, this]
          rfl
        rw [hm]
      · rw [if_neg hall, if_neg hall]
theorem okP_0 (c : Int) (t0 : Txt) (ts : List Txt) : okP c t0 ts 0 = (rpFront c t0).isSome := by unfold okP; simp
/-- What a call of read answers. -/
theorem rread_v (c : Int) (t : Txt) (w : World) (hl : t.length ≤ 1000000) : Calls Tryd.prog 24 #[.int .i64 c, .string (mkS t)] w fun x w' => x = .returned (.tuple #[EV (rdE c t), .string (mkS (rdR c t)), .bool (rpFront c t).isSome]) ∧ Below w.heap.size w w' := rread_x c t w hl
/-- A row of texts of the call's own, above a world. -/
structure OW (W : World) (v : Value) (L : List Txt) (w : World) : Prop where
  below : Below W.heap.size W w
  row : w.ownsRow W.heap.size 9 1 v L.length (strsV L)
section
variable {W w w' : World} {v : Value} {L : List Txt}
theorem OW.next (h : OW W v L w) (hb : Below w.heap.size w w') : OW W v L w' := ⟨below_next h.below hb, own_below h.row hb⟩
theorem OW.new (w : World) : OW w (.slice none 0 0) [] w := ⟨Below.refl _ _, World.ownsRow_nil _ _ _ _⟩
theorem OW.app {v' : Value} {L' : List Txt} {o : Obj} (h : OW W v L w) (hown : w'.ownsRow W.heap.size 9 1 v' L'.length (strsV L')) (hg : (w.alloc o).grownBy w' v.ownBlock) : OW W v' L' w' :=
  ⟨strs_grown h.below.size h.below h.row hg, hown⟩
end
/-- The box of what is answered, and the texts so far. -/
structure PZ (W : World) (v : Value) (L : List Txt) (w : World) : Prop where
  res : w.heap[W.heap.size]? = some (.cells #[.int .i64 0, .int .i64 0, .int .i64 0, .int .i64 0, .slice none 0 0] 25 (0, 0))
  below : Below W.heap.size W w
  row : w.ownsRow (W.heap.size + 1) 9 1 v L.length (strsV L)
section
variable {W w w' : World} {v : Value} {L : List Txt}
theorem PZ.next (h : PZ W v L w) (hb : Below w.heap.size w w') : PZ W v L w' := ⟨(hb.block _ (ltOf h.res)).trans h.res, below_next h.below hb, own_below h.row hb⟩
theorem PZ.new (W : World) : PZ W (.slice none 0 0) [] (W.alloc (.cells #[.int .i64 0, .int .i64 0, .int .i64 0, .int .i64 0, .slice none 0 0] 25)) := ⟨newOf W _, below_box W _, World.ownsRow_nil _ _ _ _⟩
theorem PZ.app {v' : Value} {L' : List Txt} {o : Obj} (h : PZ W v L w) (hown : w'.ownsRow (W.heap.size + 1) 9 1 v' L'.length (strsV L')) (hg : (w.alloc o).grownBy w' v.ownBlock) : PZ W v' L' w' := by
  have hl := ltOf h.res
  refine ⟨?_, (h.below.alloc h.below.size o).grown hg (by have := h.below.size; simp; omega) (fun k hk => by have := (h.row.lt k hk).1; omega), hown⟩
  exact (hg.block W.heap.size (by simp; omega) (fun e => by have := (h.row.lt _ e.symm).1; omega)).trans ((Below.heap_alloc w o _ (by omega)).trans h.res)
end
end Go.Proofs.YtdcakmamdabiaaaDoor
