/-
  Equality of entries.
-/
import Derived.Test.YtjjndndhmccflaaRdCls
import Derived.Test.YtjjndndhmccflaaRdArg
import Derived.Laws.StructEq
namespace Go.Proofs.Ytjjndndhmccflaa
set_option maxRecDepth 100000
open Go.RowKit
def eqE (a b : Et) : Bool := a.id == b.id && (a.dest == b.dest && (a.pri == b.pri && a.at_ == b.at_))
theorem eqE_iff {a b : Et} : eqE a b = true ↔ a = b := by
  obtain ⟨a1, a2, a3, a4⟩ := a
  obtain ⟨b1, b2, b3, b4⟩ := b
  simp [eqE]
theorem eqE_no {a b : Et} : eqE a b = false ↔ a ≠ b := by
  rw [← Bool.not_eq_true, eqE_iff]
set_option maxHeartbeats 4000000 in
theorem eqEt (a b : Et) (w : World) : (Op.equalIn 10000 34 (agE a) (agE b)).run Try.prog w = .ok (eqE a b) w := by
  show (Op.equalIn 10000 34 (.agg #[.int .i64 a.id, .string (mkS a.dest), .int .i64 a.pri, .int .i64 a.at_]) (.agg #[.int .i64 b.id, .string (mkS b.dest), .int .i64 b.pri, .int .i64 b.at_])).run Try.prog w = _
  have u9 := Try.underlying9
  have a9 := Try.isAgg9
  have z9 := Try.sizeOf9
  have u3 := Try.underlying3
  have a3 := Try.isAgg3
  have z3 := Try.sizeOf3
  have hS : Try.prog.underlying 34 = some (.struct (Try.prog.fieldsOf 34)) := by kernel_rfl
  have hp : Try.prog.stoodInHeld 34 = false := by kernel_rfl
  rw [show (10000 : Nat) = 9999 + 1 from rfl, run_equalIn_agg w 9999 34 _ _ hS hp]
  have hI : ∀ (x y : Int), (Op.equalIn 9999 3 (.int .i64 x) (.int .i64 y)).run Try.prog w = .ok (x == y) w := fun x y => by go_simp
  have hT : ∀ (x y : Txt), (Op.equalIn 9999 9 (.string (mkS x)) (.string (mkS y))).run Try.prog w = .ok (x == y) w := fun x y => by
    have e := mkS_eqb x y
    go_simp
  have e := mkS_eqb a.dest b.dest
  simp only [Program.fieldsOf, Try.underlying34]
  go_simp
  unfold eqE
  cases h1 : a.id == b.id <;> cases h2 : a.dest == b.dest <;> cases h3 : a.pri == b.pri <;> cases h4 : a.at_ == b.at_ <;> simp_all
end Go.Proofs.Ytjjndndhmccflaa
