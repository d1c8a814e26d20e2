/-
  What a path is, as the row reads it.
-/
import Derived.Test.YtamjoleknjmpoaaOpen
import Derived.Test.YtamjoleknjmpoaaPtMath
import Derived.Lib.SmallJoins
namespace Go.Proofs.Ytamjoleknjmpoaa
open Go.ChangeShapes Go.WideShapes Go.ChangeAt Go.RowKit
theorem arg_path {H : Type} {enc : TypeId × Value → H} {W : World} {base : Nat} {v : Value} {d : DataW H} {p : List MemPlace} (hv : Value.okWide Try.prog W .any base 23 v) (h : DataW.Trod enc Try.prog W 0 (fun _ => true) true 23 v d p) :
    ∃ x : Pth, v = .agg #[.string (mkS x.1), .string (mkS x.2)] := by
  obtain ⟨v0, v1, y0, y1, n, rfl, _, _, h0, h1⟩ := Joins.open_agg2 Try.underlying23 (by kernel_rfl) (by kernel_rfl) hv h
  obtain ⟨s0, e0, _⟩ := DataW.trod_string Try.underlying9 h0
  obtain ⟨s1, e1, _⟩ := DataW.trod_string Try.underlying9 h1
  injection e0 with e0
  injection e1 with e1
  subst e0 e1
  obtain ⟨l0, rfl⟩ := mkS_of s0
  obtain ⟨l1, rfl⟩ := mkS_of s1
  exact ⟨(l0, l1), rfl⟩
end Go.Proofs.Ytamjoleknjmpoaa
