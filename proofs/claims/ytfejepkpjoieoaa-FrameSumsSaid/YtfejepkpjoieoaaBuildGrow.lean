/-
  Grow of a builder that was not written yet.
-/
import Derived.Test.YtfejepkpjoieoaaBuild
namespace Go.Proofs.Ytfejepkpjoieoaa
set_option maxRecDepth 100000
open Go.RowKit
theorem bld_grow (w : World) (n : Nat) (hn : n ≤ 281474976710656) :
    Calls Try.prog 18 #[.pointer (some ⟨w.heap.size, 0, none⟩), .int .i64 n] (w.alloc (.cells #[.pointer none, .slice none 0 0] 43)) fun e w' => e = .returned (.tuple #[]) ∧ Bld w.heap.size [] w' ∧ Below w.heap.size w w' :=
  (Try.Builder_Grow_fresh w.heap.size w.heap.size n _ (Nat.le_refl _) (newOf w _) (by simp) hn).mono fun _ _ ⟨he, hb, hw⟩ => ⟨he, .inr (Lib.BuilderAtF.of hb), ((Below.refl _ w).alloc (Nat.le_refl _) _).trans hw⟩
end Go.Proofs.Ytfejepkpjoieoaa
