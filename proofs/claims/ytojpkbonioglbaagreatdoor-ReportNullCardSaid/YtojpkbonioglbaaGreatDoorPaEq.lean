/-
  Equality of what is said of a recipient, and of which numbers are said.
-/
import Derived.Test.YtojpkbonioglbaaGreatDoorPaRight
import Derived.Test.YtojpkbonioglbaaGreatDoorMaPure
namespace Go.Proofs.YtojpkbonioglbaaGreatDoor
set_option maxRecDepth 100000
open Go.RowKit
theorem eqHas (x1 x2 x3 x4 x5 y1 y2 y3 y4 y5 : Bool) (w : World) : (Op.equalIn 10000 29 (.agg #[.bool x1, .bool x2, .bool x3, .bool x4, .bool x5]) (.agg #[.bool y1, .bool y2, .bool y3, .bool y4, .bool y5])).run Tryz.prog w = .ok (x1 == y1 && x2 == y2 && x3 == y3 && x4 == y4 && x5 == y5) w := by
  have u4 := Tryz.underlying4
  have a4 := Tryz.isAgg4
  have z4 := Tryz.sizeOf4
  have hS2 : Tryz.prog.underlying 29 = some (.struct (Tryz.prog.fieldsOf 29)) := by kernel_rfl
  have hp2 : Tryz.prog.stoodInHeld 29 = false := by kernel_rfl
  rw [show (10000 : Nat) = 9999 + 1 from rfl, run_equalIn_agg w 9999 29 _ _ hS2 hp2]
  simp only [Program.fieldsOf, Tryz.underlying29]
  go_simp
  cases x1 <;> cases y1 <;> cases x2 <;> cases y2 <;> cases x3 <;> cases y3 <;> cases x4 <;> cases y4 <;> cases x5 <;> cases y5 <;> rfl
def eqRL (a b : RL) : Bool := a.no == b.no && a.kind == b.kind && a.oc == b.oc
theorem eqRL_iff {a b : RL} : eqRL a b = true ↔ a = b := by
  obtain ⟨a1, a2, a3⟩ := a
  obtain ⟨b1, b2, b3⟩ := b
  simp [eqRL, and_assoc]
theorem eqRcpt (a b : RL) (w : World) : (Op.equalIn 10000 47 (.agg #[.string (mkS a.no), .string (mkS a.kind), .string (mkS a.oc)]) (.agg #[.string (mkS b.no), .string (mkS b.kind), .string (mkS b.oc)])).run Tryz.prog w = .ok (eqRL a b) w := by
  have u9 := Tryz.underlying9
  have a9 := Tryz.isAgg9
  have z9 := Tryz.sizeOf9
  have hS : Tryz.prog.underlying 47 = some (.struct (Tryz.prog.fieldsOf 47)) := by kernel_rfl
  have hp : Tryz.prog.stoodInHeld 47 = false := by kernel_rfl
  have hT : ∀ (x y : Txt), (Op.equalIn 9999 9 (.string (mkS x)) (.string (mkS y))).run Tryz.prog w = .ok (x == y) w := fun x y => by
    have e := mkS_eqb x y
    go_simp
  have p9 : ∀ (cs : Array Value) (k : Nat) (v : Value), cs[k]? = some v → (part 9 cs k).run Tryz.prog w = .ok v w := fun cs k v h => by unfold part; go_simp
  rw [show (10000 : Nat) = 9999 + 1 from rfl, run_equalIn_agg w 9999 47 _ _ hS hp]
  have key := eqF_cons (P := Tryz.prog) (w := w) (d := 9999) (f := (Tryz.prog.fieldsOf 47)[0]!) (by decide) (p9 #[.string (mkS a.no), .string (mkS a.kind), .string (mkS a.oc)] 0 _ rfl) (p9 #[.string (mkS b.no), .string (mkS b.kind), .string (mkS b.oc)] 0 _ rfl) (hT _ _)
    (eqF_cons (f := (Tryz.prog.fieldsOf 47)[1]!) (by decide) (p9 _ 1 _ rfl) (p9 _ 1 _ rfl) (hT _ _) (eqF_cons (f := (Tryz.prog.fieldsOf 47)[2]!) (by decide) (p9 _ 2 _ rfl) (p9 _ 2 _ rfl) (hT _ _)
    (show (Op.eqFields 9999 #[.string (mkS a.no), .string (mkS a.kind), .string (mkS a.oc)] #[.string (mkS b.no), .string (mkS b.kind), .string (mkS b.oc)] []).run Tryz.prog w = .ok true w from rfl)))
  refine key.trans ?_
  simp [eqRL, Bool.and_assoc]
end Go.Proofs.YtojpkbonioglbaaGreatDoor
