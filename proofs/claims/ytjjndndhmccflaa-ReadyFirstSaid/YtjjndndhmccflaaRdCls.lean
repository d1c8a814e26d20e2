/-
  A region that draws its order and only looks: over the class of the worlds in which nothing older has turned.
-/
import Derived.Test.YtjjndndhmccflaaRdAwake
namespace Go.Proofs.Ytjjndndhmccflaa
set_option maxRecDepth 100000
open Go.RowKit
theorem region_in {P : Program} {id : Nat} {Q : Exit → Act → World → Prop} {a : Act} {w : World} {l : List Oper} (hm : P.follows .mixedOrders = true) (hB : Region.lexB .any l.toArray = true) {Y : Type} (F : Y → World) (y0 : Y) (hy : F y0 = w.drew)
    (h : wpQuiet P l.toArray (fun w' => ∃ y, w' = F y) (fun a' => ∀ w', (∃ y, w' = F y) → Q .normal a' w') l a) : (Code.region id l.toArray true).wp P Q a w :=
  wp_region_quiet (C := fun w' => ∃ y, w' = F y) hm hB ⟨y0, hy.symm⟩ (by simpa using h)
theorem cls (w0 : World) : ∃ (Y : Type) (F : Y → World) (y0 : Y), F y0 = w0.drew ∧ (∀ y, Below w0.heap.size w0 (F y)) ∧ (∀ w', Below w0.heap.size w0 w' → ∃ y, w' = F y) :=
  ⟨{w' // Below w0.heap.size w0 w'}, Subtype.val, ⟨w0.drew, (Below.refl _ _).drew⟩, rfl, fun y => y.2, fun w' h => ⟨⟨w', h⟩, rfl⟩⟩
/-- A call that turns nothing older, in such a class. -/
theorem in_cls {Y : Type} {F : Y → World} {w0 : World} (h1 : ∀ y, Below w0.heap.size w0 (F y)) (h2 : ∀ w', Below w0.heap.size w0 w' → ∃ y, w' = F y) {f : FuncId} {args : Array Value} {v : Value} (H : ∀ w', Below w0.heap.size w0 w' → Calls Try.prog f args w' fun e w'' => e = .returned v ∧ Below w'.heap.size w' w'') (y : Y) :
    Calls Try.prog f args (F y) fun e w' => e = .returned v ∧ ∃ y, w' = F y :=
  (H (F y) (h1 y)).mono fun _ _ ⟨he, hb⟩ => ⟨he, h2 _ (below_next (h1 y) hb)⟩
theorem in_same {Y : Type} {F : Y → World} {w0 : World} (h1 : ∀ y, Below w0.heap.size w0 (F y)) {f : FuncId} {args : Array Value} {v : Value} (H : ∀ w', Below w0.heap.size w0 w' → Calls Try.prog f args w' fun e w'' => e = .returned v ∧ w' = w'') (y : Y) :
    Calls Try.prog f args (F y) fun e w' => e = .returned v ∧ ∃ y, w' = F y :=
  (H (F y) (h1 y)).mono fun _ _ ⟨he, hb⟩ => ⟨he, y, hb.symm⟩
end Go.Proofs.Ytjjndndhmccflaa
