/-
  PtRead · PtParse, in one text.
-/
import Derived.Test.YtojpkbonioglbaaGreatDoorMaPtB
/-
  The walks of path's readAlone, readLocal and of the closure that answers none.
-/
namespace Go.Proofs.YtojpkbonioglbaaGreatDoor.P
set_option maxRecDepth 100000
open Go.RowKit
/-- What readAlone answers. -/
def alV (s : List UInt8) : Pth × List UInt8 × Bool := match aloneV s with | some (p, r) => (p, r, true) | none => (([], []), [], false)
def AlPost (s : List UInt8) (w : World) (e : Ending) (w' : World) : Prop := e = .returned (.tuple #[.agg #[.string (mkS (alV s).1.1), .string (mkS (alV s).1.2)], .string (mkS (alV s).2.1), .bool (alV s).2.2]) ∧ Below w.heap.size w w'
theorem al_null {s : List UInt8} {w w' : World} (h1 : hasC 62 s = true) (h2 : preC 62 s = []) (hb : Below w.heap.size w w') :
    AlPost s w (.returned (.tuple #[.agg #[.string { data := #[] }, .string { data := #[] }], .string (mkS (postC 62 s)), .bool true])) w' := by
  have e : alV s = (([], []), postC 62 s, true) := by rw [alV, aloneV, if_pos h1, if_pos (by rw [h2]; rfl)]
  exact ⟨by rw [e]; rfl, hb⟩
theorem al_pm {s : List UInt8} {w w' : World} (h1 : hasC 62 s = true) (h2 : preC 62 s ≠ []) (h3 : (smallL (preC 62 s) == pmL) = true) (hb : Below w.heap.size w w') :
    AlPost s w (.returned (.tuple #[.agg #[.string { data := #[112, 111, 115, 116, 109, 97, 115, 116, 101, 114] }, .string { data := #[] }], .string (mkS (postC 62 s)), .bool true])) w' := by
  have e : alV s = ((pmL, []), postC 62 s, true) := by rw [alV, aloneV, if_pos h1, if_neg (by simpa using h2), if_pos h3]
  exact ⟨by rw [e]; rfl, hb⟩
theorem al_none {s : List UInt8} {w w' : World} (h : hasC 62 s = true → preC 62 s ≠ [] ∧ (smallL (preC 62 s) == pmL) = false) (hb : Below w.heap.size w w') :
    AlPost s w (.returned (.tuple #[.agg #[.string { data := #[] }, .string { data := #[] }], .string { data := #[] }, .bool false])) w' := by
  have e : alV s = (([], []), [], false) := by
    rw [alV, aloneV]
    split
    · rename_i heq
      split at heq
      · rename_i h1
        rw [if_neg (by simpa using (h h1).1), if_neg (by rw [(h h1).2]; exact Bool.false_ne_true)] at heq
        cases heq
      · cases heq
    · rfl
  exact ⟨by rw [e]; rfl, hb⟩
/-- What readLocal answers. -/
def LocPost (s : List UInt8) (w : World) (e : Ending) (w' : World) : Prop := e = .returned (.tuple #[.string (mkS (localV s).1), .string (mkS (localV s).2.1), .bool (localV s).2.2]) ∧ Below w.heap.size w w'
theorem unqV_le (s : List UInt8) : (unqV s).1.length ≤ s.length ∧ (unqV s).2.1.length ≤ s.length := by
  have key : ∀ (l : List UInt8) (m : Bool) (acc a r : List UInt8), unqL l m acc = some (a, r) → a.length ≤ acc.length + l.length ∧ r.length ≤ l.length := by
    intro l
    induction l with
    | nil => intro m acc a r h; simp [unqL] at h
    | cons b t ih =>
      intro m acc a r h
      rw [unqL] at h
      split at h
      · split at h
        · injection h with h
          injection h with h1 h2
          subst h1; subst h2
          simp
        · split at h
          · have := ih true acc a r h; simp; omega
          · have := ih false (acc ++ [b]) a r h; simp at this; simp; omega
      · cases h
  unfold unqV
  split
  · simp
  · rename_i a r h
    have := key s false [] a r h
    simpa using this
theorem localV_le (s : List UInt8) : (localV s).1.length ≤ s.length ∧ (localV s).2.1.length ≤ s.length := by
  unfold localV
  split
  · have h := unqV_le (s.drop 1)
    have h1 : (cutP 64 (unqV (s.drop 1)).2.1).1.length ≤ (unqV (s.drop 1)).2.1.length := by unfold cutP; split <;> simp
    rw [List.length_drop] at h
    exact ⟨by show (unqV (s.drop 1)).1.length ≤ _; omega, by show (cutP 64 _).1.length ≤ _; omega⟩
  · exact ⟨pre_le 64 s, post_le 64 s⟩
theorem loc_q {s a r : List UInt8} {o : Bool} {w w' : World} (h : (s.head? == some 34) = true) (hu : unqV (s.drop 1) = (a, r, o)) (q : Bool) (hq : q = (o && (cutP 64 r).2 && a != [])) (hb : Below w.heap.size w w') :
    LocPost s w (.returned (.tuple #[.string (mkS a), .string (mkS (cutP 64 r).1), .bool q])) w' :=
  ⟨by rw [localV, if_pos h, hu, hq], hb⟩
theorem loc_a {s : List UInt8} {w w' : World} (h : (s.head? == some 34) = false) (q : Bool) (hq : q = (hasC 64 s && atoms (preC 64 s))) (hb : Below w.heap.size w w') :
    LocPost s w (.returned (.tuple #[.string (mkS (preC 64 s)), .string (mkS (postC 64 s)), .bool q])) w' :=
  ⟨by rw [localV, if_neg (by rw [h]; exact Bool.false_ne_true), hq], hb⟩
end Go.Proofs.YtojpkbonioglbaaGreatDoor.P
/-
  The walk of path's Parse.
-/
namespace Go.Proofs.YtojpkbonioglbaaGreatDoor.P
set_option maxRecDepth 100000
open Go.RowKit
/-- What Parse answers. -/
def PaPost (s : List UInt8) (w : World) (e : Ending) (w' : World) : Prop := e = .returned (.tuple #[.agg #[.string (mkS (parseV s).1.1), .string (mkS (parseV s).1.2)], .string (mkS (parseV s).2.1), .int .i64 (parseV s).2.2]) ∧ Below w.heap.size w w'
theorem pa_no {s : List UInt8} {w w' : World} {n : Int} (h : parseV s = (([], []), [], n)) (hb : Below w.heap.size w w') :
    PaPost s w (.returned (.tuple #[.agg #[.string { data := #[] }, .string { data := #[] }], .string { data := #[] }, .int .i64 n])) w' := ⟨by rw [h]; rfl, hb⟩
theorem pa_yes {s : List UInt8} {w w' : World} {p : Pth} {r : List UInt8} (h : parseV s = (p, r, 0)) (hb : Below w.heap.size w w') :
    PaPost s w (.returned (.tuple #[.agg #[.string (mkS p.1), .string (mkS p.2)], .string (mkS r), .int .i64 0])) w' := ⟨by rw [h], hb⟩
theorem parse_alone {t : List UInt8} (h : (alV t).2.2 = true) : parseV (60 :: t) = ((alV t).1, (alV t).2.1, 0) := by
  unfold alV at h ⊢
  rw [parseV, if_pos (by simp), List.drop_succ_cons, List.drop_zero]
  split
  · rename_i p r he
    rw [he]
  · rename_i he
    rw [he] at h
    cases h
theorem parse_more {t : List UInt8} (h : (alV t).2.2 = false) : parseV (60 :: t) = endV (localV t).1 (localV t).2.1 (localV t).2.2 := by
  unfold alV at h
  rw [parseV, if_pos (by simp), List.drop_succ_cons, List.drop_zero]
  split
  · rename_i p r he
    rw [he] at h
    cases h
  · rfl
/-- A path in its box, and the box of what is answered. -/
structure TB (W : World) (g : Nat) (p : Pth) (w : World) : Prop where
  res : w.heap[W.heap.size]? = some (.cells #[.string { data := #[] }, .string { data := #[] }] 27 (0, 0))
  box : w.heap[g]? = some (.cells #[.string (mkS p.1), .string (mkS p.2)] 27 (0, 0))
  below : Below W.heap.size W w
theorem TB.next {W w w' : World} {g : Nat} {p : Pth} (h : TB W g p w) (hb : Below w.heap.size w w') : TB W g p w' := ⟨(hb.block _ (ltOf h.res)).trans h.res, (hb.block _ (ltOf h.box)).trans h.box, below_next h.below hb⟩
theorem TB.drew {W w : World} {g : Nat} {p : Pth} (h : TB W g p w) : TB W g p w.drew := ⟨h.res, h.box, ⟨h.below.os, h.below.tape, h.below.output, h.below.size, h.below.block⟩⟩
/-- The cells of both. -/
def TC (W : World) (g : Nat) (p : Pth) (w : World) : Prop :=
  w.cell? ⟨g, 0, none⟩ = some (.string (mkS p.1)) ∧ w.cell? ⟨g, 1, none⟩ = some (.string (mkS p.2)) ∧ w.cell? ⟨W.heap.size, 0, none⟩ = some (.string { data := #[] }) ∧ w.cell? ⟨W.heap.size, 1, none⟩ = some (.string { data := #[] }) ∧ w.frozen? ⟨W.heap.size, 0, none⟩ = false ∧ w.frozen? ⟨W.heap.size, 1, none⟩ = false ∧ Hid (TB W g p w)
theorem TB.cells {W w : World} {g : Nat} {p : Pth} (h : TB W g p w) : TC W g p w := ⟨cellOf h.box 0, cellOf h.box 1, cellOf h.res 0, cellOf h.res 1, freeOf h.res 0, freeOf h.res 1, h⟩
theorem TB.call {W w : World} {g : Nat} {p : Pth} (h : Hid (TB W g p w)) {f : FuncId} {args : Array Value} {v : Value} (H : Calls Tryz.prog f args w fun e w' => e = .returned v ∧ Below w.heap.size w w') :
    Calls Tryz.prog f args w fun e w' => e = .returned v ∧ TC W g p w' := H.mono fun _ _ ⟨he, hb⟩ => ⟨he, (h.out.next hb).cells⟩
/-- The box of what is answered alone. -/
structure RB (W w : World) : Prop where
  res : w.heap[W.heap.size]? = some (.cells #[.string { data := #[] }, .string { data := #[] }] 27 (0, 0))
  below : Below W.heap.size W w
theorem RB.next {W w w' : World} (h : RB W w) (hb : Below w.heap.size w w') : RB W w' := ⟨(hb.block _ (ltOf h.res)).trans h.res, below_next h.below hb⟩
theorem RB.drewN {W w : World} (h : RB W w) (n : Nat) : RB W (w.drewN n) := ⟨h.res, below_drewN h.below n⟩
theorem RB.new (w : World) : RB w (w.alloc (.cells #[.string { data := #[] }, .string { data := #[] }] 27)) := ⟨newOf w _, below_box w _⟩
theorem RB.tb {W w : World} (h : RB W w) (p : Pth) : TB W w.heap.size p (w.alloc (.cells #[.string (mkS p.1), .string (mkS p.2)] 27)) :=
  ⟨(((below_box w _).block _ (ltOf h.res)).trans h.res), newOf w _, h.below.alloc h.below.size _⟩
theorem RB.set {W w : World} (h : RB W w) (u v : Value) : Below W.heap.size W ((w.setCell ⟨W.heap.size, 0, none⟩ u).setCell ⟨W.heap.size, 1, none⟩ v) :=
  (h.below.setCell (p := ⟨W.heap.size, 0, none⟩) (Nat.le_refl _) _).setCell (p := ⟨W.heap.size, 1, none⟩) (Nat.le_refl _) _
theorem TB.set {W w : World} {g : Nat} {p : Pth} (h : TB W g p w) (u v : Value) : Below W.heap.size W ((w.setCell ⟨W.heap.size, 0, none⟩ u).setCell ⟨W.heap.size, 1, none⟩ v) :=
  (h.below.setCell (p := ⟨W.heap.size, 0, none⟩) (Nat.le_refl _) _).setCell (p := ⟨W.heap.size, 1, none⟩) (Nat.le_refl _) _
theorem keep1 {W w : World} {g : Nat} {p : Pth} (h : TB W g p w) : w.cell? ⟨g, 0, none⟩ = some (.string (mkS p.1)) ∧ w.cell? ⟨g, 1, none⟩ = some (.string (mkS p.2)) := ⟨cellOf h.box 0, cellOf h.box 1⟩
theorem keep2 {w : World} {r g : Nat} {a b : Value} (hne : g ≠ r) (u v : Value) (c0 : w.cell? ⟨g, 0, none⟩ = some a) (c1 : w.cell? ⟨g, 1, none⟩ = some b) :
    ((w.setCell ⟨r, 0, none⟩ u).setCell ⟨r, 1, none⟩ v).cell? ⟨g, 0, none⟩ = some a ∧ ((w.setCell ⟨r, 0, none⟩ u).setCell ⟨r, 1, none⟩ v).cell? ⟨g, 1, none⟩ = some b := by
  have e : ((w.setCell ⟨r, 0, none⟩ u).setCell ⟨r, 1, none⟩ v).heap[g]? = w.heap[g]? := (Below.heap_setCell _ ⟨r, 1, none⟩ v g hne).trans (Below.heap_setCell w ⟨r, 0, none⟩ u g hne)
  simp only [World.cell?] at c0 c1 ⊢
  rw [e]
  exact ⟨c0, c1⟩
theorem keep3 {w : World} {g : Nat} {p : Pth} {a b : List UInt8} (h1 : p.1 = a) (h2 : p.2 = b) (h : w.cell? ⟨g, 0, none⟩ = some (.string (mkS p.1)) ∧ w.cell? ⟨g, 1, none⟩ = some (.string (mkS p.2))) : w.cell? ⟨g, 0, none⟩ = some (.string (mkS a)) ∧ w.cell? ⟨g, 1, none⟩ = some (.string (mkS b)) := by
  rw [← h1, ← h2]; exact h
end Go.Proofs.YtojpkbonioglbaaGreatDoor.P
