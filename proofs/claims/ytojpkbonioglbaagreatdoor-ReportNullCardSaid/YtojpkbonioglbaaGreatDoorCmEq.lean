/-
  Equality of commands.
-/
import Derived.Test.YtojpkbonioglbaaGreatDoorMaCmA
import Derived.Test.YtojpkbonioglbaaGreatDoorPaEq
namespace Go.Proofs.YtojpkbonioglbaaGreatDoor
set_option maxRecDepth 100000
open Go.RowKit
theorem Tryz.eqPath9 (a b c d : ByteArray) (w : World) : (Op.equalIn 9999 27 (.agg #[.string a, .string b]) (.agg #[.string c, .string d])).run Tryz.prog w = .ok (a.toList == c.toList && b.toList == d.toList) w := by
  have u9 := Tryz.underlying9
  have a9 := Tryz.isAgg9
  have z9 := Tryz.sizeOf9
  have hS : Tryz.prog.underlying 27 = some (.struct (Tryz.prog.fieldsOf 27)) := by kernel_rfl
  have hp : Tryz.prog.stoodInHeld 27 = false := by kernel_rfl
  rw [show (9999 : Nat) = 9998 + 1 from rfl, run_equalIn_agg w 9998 27 _ _ hS hp]
  simp only [Program.fieldsOf, Tryz.underlying27]
  go_simp
  by_cases h1 : a.toList = c.toList <;> by_cases h2 : b.toList = d.toList <;> simp [h1, h2]
/-- Of two paths: are they one? -/
theorem eqP9 (p q : P.Pth) (w : World) : (Op.equalIn 9999 27 (.agg #[.string (mkS p.1), .string (mkS p.2)]) (.agg #[.string (mkS q.1), .string (mkS q.2)])).run Tryz.prog w = .ok (p.1 == q.1 && p.2 == q.2) w := by
  rw [Tryz.eqPath9, mkS_toList, mkS_toList, mkS_toList, mkS_toList]
set_option maxHeartbeats 4000000 in
theorem eqMail9 (a b : ML) (w : World) : (Op.equalIn 9999 31 (.agg #[.bool a.hs, .bool a.hf, .bool a.hu, .bool a.hb, .bool a.hp, .int .i64 a.sz, .int .i64 a.fo, .int .i64 a.un, .int .i64 a.by_, .int .i64 a.pr, .string (mkS a.body), .string (mkS a.ret), .string (mkS a.env), .string (mkS a.mode)]) (.agg #[.bool b.hs, .bool b.hf, .bool b.hu, .bool b.hb, .bool b.hp, .int .i64 b.sz, .int .i64 b.fo, .int .i64 b.un, .int .i64 b.by_, .int .i64 b.pr, .string (mkS b.body), .string (mkS b.ret), .string (mkS b.env), .string (mkS b.mode)])).run Tryz.prog w = .ok (eqML a b) w := by
  have u9 := Tryz.underlying9
  have a9 := Tryz.isAgg9
  have z9 := Tryz.sizeOf9
  have u3 := Tryz.underlying3
  have a3 := Tryz.isAgg3
  have z3 := Tryz.sizeOf3
  have u4 := Tryz.underlying4
  have a4 := Tryz.isAgg4
  have z4 := Tryz.sizeOf4
  have aH := Tryz.isAgg29
  have zH := Tryz.sizeOf29
  have hS : Tryz.prog.underlying 31 = some (.struct (Tryz.prog.fieldsOf 31)) := by kernel_rfl
  have hp : Tryz.prog.stoodInHeld 31 = false := by kernel_rfl
  have hS2 : Tryz.prog.underlying 29 = some (.struct (Tryz.prog.fieldsOf 29)) := by kernel_rfl
  have hp2 : Tryz.prog.stoodInHeld 29 = false := by kernel_rfl
  have hHas : ∀ (x1 x2 x3 x4 x5 y1 y2 y3 y4 y5 : Bool), (Op.equalIn 9998 29 (.agg #[.bool x1, .bool x2, .bool x3, .bool x4, .bool x5]) (.agg #[.bool y1, .bool y2, .bool y3, .bool y4, .bool y5])).run Tryz.prog w = .ok (x1 == y1 && x2 == y2 && x3 == y3 && x4 == y4 && x5 == y5) w := by
    intro x1 x2 x3 x4 x5 y1 y2 y3 y4 y5
    rw [show (9998 : Nat) = 9997 + 1 from rfl, run_equalIn_agg w 9997 29 _ _ hS2 hp2]
    simp only [Program.fieldsOf, Tryz.underlying29]
    go_simp
    cases x1 <;> cases y1 <;> cases x2 <;> cases y2 <;> cases x3 <;> cases y3 <;> cases x4 <;> cases y4 <;> cases x5 <;> cases y5 <;> rfl
  rw [show (9999 : Nat) = 9998 + 1 from rfl, run_equalIn_agg w 9998 31 _ _ hS hp]
  have hI : ∀ (x y : Int), (Op.equalIn 9998 3 (.int .i64 x) (.int .i64 y)).run Tryz.prog w = .ok (x == y) w := fun x y => by go_simp
  have hT : ∀ (x y : Txt), (Op.equalIn 9998 9 (.string (mkS x)) (.string (mkS y))).run Tryz.prog w = .ok (x == y) w := fun x y => by
    have e := mkS_eqb x y
    go_simp
  have p3 : ∀ (cs : Array Value) (k : Nat) (v : Value), cs[k]? = some v → (part 3 cs k).run Tryz.prog w = .ok v w := fun cs k v h => by unfold part; go_simp
  have p9 : ∀ (cs : Array Value) (k : Nat) (v : Value), cs[k]? = some v → (part 9 cs k).run Tryz.prog w = .ok v w := fun cs k v h => by unfold part; go_simp
  have pH : ∀ (cs : Array Value), (part 29 cs 0).run Tryz.prog w = .ok (.agg (cs.extract 0 5)) w := fun cs => by unfold part; go_simp
  have key := eqF_cons (P := Tryz.prog) (w := w) (d := 9998) (f := (Tryz.prog.fieldsOf 31)[0]!) (by decide) (pH #[.bool a.hs, .bool a.hf, .bool a.hu, .bool a.hb, .bool a.hp, .int .i64 a.sz, .int .i64 a.fo, .int .i64 a.un, .int .i64 a.by_, .int .i64 a.pr, .string (mkS a.body), .string (mkS a.ret), .string (mkS a.env), .string (mkS a.mode)]) (pH #[.bool b.hs, .bool b.hf, .bool b.hu, .bool b.hb, .bool b.hp, .int .i64 b.sz, .int .i64 b.fo, .int .i64 b.un, .int .i64 b.by_, .int .i64 b.pr, .string (mkS b.body), .string (mkS b.ret), .string (mkS b.env), .string (mkS b.mode)]) (hHas _ _ _ _ _ _ _ _ _ _)
    (eqF_cons (f := (Tryz.prog.fieldsOf 31)[1]!) (by decide) (p3 #[.bool a.hs, .bool a.hf, .bool a.hu, .bool a.hb, .bool a.hp, .int .i64 a.sz, .int .i64 a.fo, .int .i64 a.un, .int .i64 a.by_, .int .i64 a.pr, .string (mkS a.body), .string (mkS a.ret), .string (mkS a.env), .string (mkS a.mode)] 5 _ rfl) (p3 #[.bool b.hs, .bool b.hf, .bool b.hu, .bool b.hb, .bool b.hp, .int .i64 b.sz, .int .i64 b.fo, .int .i64 b.un, .int .i64 b.by_, .int .i64 b.pr, .string (mkS b.body), .string (mkS b.ret), .string (mkS b.env), .string (mkS b.mode)] 5 _ rfl) (hI _ _) (eqF_cons (f := (Tryz.prog.fieldsOf 31)[2]!) (by decide) (p3 #[.bool a.hs, .bool a.hf, .bool a.hu, .bool a.hb, .bool a.hp, .int .i64 a.sz, .int .i64 a.fo, .int .i64 a.un, .int .i64 a.by_, .int .i64 a.pr, .string (mkS a.body), .string (mkS a.ret), .string (mkS a.env), .string (mkS a.mode)] 6 _ rfl) (p3 #[.bool b.hs, .bool b.hf, .bool b.hu, .bool b.hb, .bool b.hp, .int .i64 b.sz, .int .i64 b.fo, .int .i64 b.un, .int .i64 b.by_, .int .i64 b.pr, .string (mkS b.body), .string (mkS b.ret), .string (mkS b.env), .string (mkS b.mode)] 6 _ rfl) (hI _ _)
    (eqF_cons (f := (Tryz.prog.fieldsOf 31)[3]!) (by decide) (p3 #[.bool a.hs, .bool a.hf, .bool a.hu, .bool a.hb, .bool a.hp, .int .i64 a.sz, .int .i64 a.fo, .int .i64 a.un, .int .i64 a.by_, .int .i64 a.pr, .string (mkS a.body), .string (mkS a.ret), .string (mkS a.env), .string (mkS a.mode)] 7 _ rfl) (p3 #[.bool b.hs, .bool b.hf, .bool b.hu, .bool b.hb, .bool b.hp, .int .i64 b.sz, .int .i64 b.fo, .int .i64 b.un, .int .i64 b.by_, .int .i64 b.pr, .string (mkS b.body), .string (mkS b.ret), .string (mkS b.env), .string (mkS b.mode)] 7 _ rfl) (hI _ _) (eqF_cons (f := (Tryz.prog.fieldsOf 31)[4]!) (by decide) (p3 #[.bool a.hs, .bool a.hf, .bool a.hu, .bool a.hb, .bool a.hp, .int .i64 a.sz, .int .i64 a.fo, .int .i64 a.un, .int .i64 a.by_, .int .i64 a.pr, .string (mkS a.body), .string (mkS a.ret), .string (mkS a.env), .string (mkS a.mode)] 8 _ rfl) (p3 #[.bool b.hs, .bool b.hf, .bool b.hu, .bool b.hb, .bool b.hp, .int .i64 b.sz, .int .i64 b.fo, .int .i64 b.un, .int .i64 b.by_, .int .i64 b.pr, .string (mkS b.body), .string (mkS b.ret), .string (mkS b.env), .string (mkS b.mode)] 8 _ rfl) (hI _ _)
    (eqF_cons (f := (Tryz.prog.fieldsOf 31)[5]!) (by decide) (p3 #[.bool a.hs, .bool a.hf, .bool a.hu, .bool a.hb, .bool a.hp, .int .i64 a.sz, .int .i64 a.fo, .int .i64 a.un, .int .i64 a.by_, .int .i64 a.pr, .string (mkS a.body), .string (mkS a.ret), .string (mkS a.env), .string (mkS a.mode)] 9 _ rfl) (p3 #[.bool b.hs, .bool b.hf, .bool b.hu, .bool b.hb, .bool b.hp, .int .i64 b.sz, .int .i64 b.fo, .int .i64 b.un, .int .i64 b.by_, .int .i64 b.pr, .string (mkS b.body), .string (mkS b.ret), .string (mkS b.env), .string (mkS b.mode)] 9 _ rfl) (hI _ _) (eqF_cons (f := (Tryz.prog.fieldsOf 31)[6]!) (by decide) (p9 #[.bool a.hs, .bool a.hf, .bool a.hu, .bool a.hb, .bool a.hp, .int .i64 a.sz, .int .i64 a.fo, .int .i64 a.un, .int .i64 a.by_, .int .i64 a.pr, .string (mkS a.body), .string (mkS a.ret), .string (mkS a.env), .string (mkS a.mode)] 10 _ rfl) (p9 #[.bool b.hs, .bool b.hf, .bool b.hu, .bool b.hb, .bool b.hp, .int .i64 b.sz, .int .i64 b.fo, .int .i64 b.un, .int .i64 b.by_, .int .i64 b.pr, .string (mkS b.body), .string (mkS b.ret), .string (mkS b.env), .string (mkS b.mode)] 10 _ rfl) (hT _ _)
    (eqF_cons (f := (Tryz.prog.fieldsOf 31)[7]!) (by decide) (p9 #[.bool a.hs, .bool a.hf, .bool a.hu, .bool a.hb, .bool a.hp, .int .i64 a.sz, .int .i64 a.fo, .int .i64 a.un, .int .i64 a.by_, .int .i64 a.pr, .string (mkS a.body), .string (mkS a.ret), .string (mkS a.env), .string (mkS a.mode)] 11 _ rfl) (p9 #[.bool b.hs, .bool b.hf, .bool b.hu, .bool b.hb, .bool b.hp, .int .i64 b.sz, .int .i64 b.fo, .int .i64 b.un, .int .i64 b.by_, .int .i64 b.pr, .string (mkS b.body), .string (mkS b.ret), .string (mkS b.env), .string (mkS b.mode)] 11 _ rfl) (hT _ _) (eqF_cons (f := (Tryz.prog.fieldsOf 31)[8]!) (by decide) (p9 #[.bool a.hs, .bool a.hf, .bool a.hu, .bool a.hb, .bool a.hp, .int .i64 a.sz, .int .i64 a.fo, .int .i64 a.un, .int .i64 a.by_, .int .i64 a.pr, .string (mkS a.body), .string (mkS a.ret), .string (mkS a.env), .string (mkS a.mode)] 12 _ rfl) (p9 #[.bool b.hs, .bool b.hf, .bool b.hu, .bool b.hb, .bool b.hp, .int .i64 b.sz, .int .i64 b.fo, .int .i64 b.un, .int .i64 b.by_, .int .i64 b.pr, .string (mkS b.body), .string (mkS b.ret), .string (mkS b.env), .string (mkS b.mode)] 12 _ rfl) (hT _ _)
    (eqF_cons (f := (Tryz.prog.fieldsOf 31)[9]!) (by decide) (p9 #[.bool a.hs, .bool a.hf, .bool a.hu, .bool a.hb, .bool a.hp, .int .i64 a.sz, .int .i64 a.fo, .int .i64 a.un, .int .i64 a.by_, .int .i64 a.pr, .string (mkS a.body), .string (mkS a.ret), .string (mkS a.env), .string (mkS a.mode)] 13 _ rfl) (p9 #[.bool b.hs, .bool b.hf, .bool b.hu, .bool b.hb, .bool b.hp, .int .i64 b.sz, .int .i64 b.fo, .int .i64 b.un, .int .i64 b.by_, .int .i64 b.pr, .string (mkS b.body), .string (mkS b.ret), .string (mkS b.env), .string (mkS b.mode)] 13 _ rfl) (hT _ _) (show (Op.eqFields 9998 #[.bool a.hs, .bool a.hf, .bool a.hu, .bool a.hb, .bool a.hp, .int .i64 a.sz, .int .i64 a.fo, .int .i64 a.un, .int .i64 a.by_, .int .i64 a.pr, .string (mkS a.body), .string (mkS a.ret), .string (mkS a.env), .string (mkS a.mode)] #[.bool b.hs, .bool b.hf, .bool b.hu, .bool b.hb, .bool b.hp, .int .i64 b.sz, .int .i64 b.fo, .int .i64 b.un, .int .i64 b.by_, .int .i64 b.pr, .string (mkS b.body), .string (mkS b.ret), .string (mkS b.env), .string (mkS b.mode)] []).run Tryz.prog w = .ok true w from rfl))))))))))
  refine key.trans ?_
  simp [eqML, Bool.and_assoc]
theorem eqRcpt9 (a b : RL) (w : World) : (Op.equalIn 9999 47 (.agg #[.string (mkS a.no), .string (mkS a.kind), .string (mkS a.oc)]) (.agg #[.string (mkS b.no), .string (mkS b.kind), .string (mkS b.oc)])).run Tryz.prog w = .ok (eqRL a b) w := by
  have u9 := Tryz.underlying9
  have a9 := Tryz.isAgg9
  have z9 := Tryz.sizeOf9
  have hS : Tryz.prog.underlying 47 = some (.struct (Tryz.prog.fieldsOf 47)) := by kernel_rfl
  have hp : Tryz.prog.stoodInHeld 47 = false := by kernel_rfl
  have hT : ∀ (x y : Txt), (Op.equalIn 9998 9 (.string (mkS x)) (.string (mkS y))).run Tryz.prog w = .ok (x == y) w := fun x y => by
    have e := mkS_eqb x y
    go_simp
  have p9 : ∀ (cs : Array Value) (k : Nat) (v : Value), cs[k]? = some v → (part 9 cs k).run Tryz.prog w = .ok v w := fun cs k v h => by unfold part; go_simp
  rw [show (9999 : Nat) = 9998 + 1 from rfl, run_equalIn_agg w 9998 47 _ _ hS hp]
  have key := eqF_cons (P := Tryz.prog) (w := w) (d := 9998) (f := (Tryz.prog.fieldsOf 47)[0]!) (by decide) (p9 #[.string (mkS a.no), .string (mkS a.kind), .string (mkS a.oc)] 0 _ rfl) (p9 #[.string (mkS b.no), .string (mkS b.kind), .string (mkS b.oc)] 0 _ rfl) (hT _ _)
    (eqF_cons (f := (Tryz.prog.fieldsOf 47)[1]!) (by decide) (p9 _ 1 _ rfl) (p9 _ 1 _ rfl) (hT _ _) (eqF_cons (f := (Tryz.prog.fieldsOf 47)[2]!) (by decide) (p9 _ 2 _ rfl) (p9 _ 2 _ rfl) (hT _ _)
    (show (Op.eqFields 9998 #[.string (mkS a.no), .string (mkS a.kind), .string (mkS a.oc)] #[.string (mkS b.no), .string (mkS b.kind), .string (mkS b.oc)] []).run Tryz.prog w = .ok true w from rfl)))
  refine key.trans ?_
  simp [eqRL, Bool.and_assoc]
def eqCL (a b : CL) : Bool := a.verb == b.verb && (a.arg == b.arg && ((a.p.1 == b.p.1 && a.p.2 == b.p.2) && (eqML a.m b.m && eqRL a.r b.r)))
theorem eqCL_iff {a b : CL} : eqCL a b = true ↔ a = b := by
  obtain ⟨a1, a2, ⟨a3, a4⟩, a5, a6⟩ := a
  obtain ⟨b1, b2, ⟨b3, b4⟩, b5, b6⟩ := b
  simp only [eqCL, Bool.and_eq_true, beq_iff_eq, eqML_iff, eqRL_iff, CL.mk.injEq, Prod.mk.injEq]
set_option maxHeartbeats 4000000 in
theorem eqCmd (a b : CL) (w : World) : (Op.equalIn 10000 101 (.agg (CC a)) (.agg (CC b))).run Tryz.prog w = .ok (eqCL a b) w := by
  show (Op.equalIn 10000 101 (.agg #[.string (mkS a.verb), .string (mkS a.arg), .string (mkS a.p.1), .string (mkS a.p.2), .bool a.m.hs, .bool a.m.hf, .bool a.m.hu, .bool a.m.hb, .bool a.m.hp, .int .i64 a.m.sz, .int .i64 a.m.fo, .int .i64 a.m.un, .int .i64 a.m.by_, .int .i64 a.m.pr, .string (mkS a.m.body), .string (mkS a.m.ret), .string (mkS a.m.env), .string (mkS a.m.mode), .string (mkS a.r.no), .string (mkS a.r.kind), .string (mkS a.r.oc)]) (.agg #[.string (mkS b.verb), .string (mkS b.arg), .string (mkS b.p.1), .string (mkS b.p.2), .bool b.m.hs, .bool b.m.hf, .bool b.m.hu, .bool b.m.hb, .bool b.m.hp, .int .i64 b.m.sz, .int .i64 b.m.fo, .int .i64 b.m.un, .int .i64 b.m.by_, .int .i64 b.m.pr, .string (mkS b.m.body), .string (mkS b.m.ret), .string (mkS b.m.env), .string (mkS b.m.mode), .string (mkS b.r.no), .string (mkS b.r.kind), .string (mkS b.r.oc)])).run Tryz.prog w = .ok (eqCL a b) w
  have u9 := Tryz.underlying9
  have a9 := Tryz.isAgg9
  have z9 := Tryz.sizeOf9
  have aP := Tryz.isAgg27
  have zP := Tryz.sizeOf27
  have aM := Tryz.isAgg31
  have zM := Tryz.sizeOf31
  have aR := Tryz.isAgg47
  have zR := Tryz.sizeOf47
  have hS : Tryz.prog.underlying 101 = some (.struct (Tryz.prog.fieldsOf 101)) := by kernel_rfl
  have hp : Tryz.prog.stoodInHeld 101 = false := by kernel_rfl
  have hT : ∀ (x y : Txt), (Op.equalIn 9999 9 (.string (mkS x)) (.string (mkS y))).run Tryz.prog w = .ok (x == y) w := fun x y => by
    have e := mkS_eqb x y
    go_simp
  have p9 : ∀ (cs : Array Value) (k : Nat) (v : Value), cs[k]? = some v → (part 9 cs k).run Tryz.prog w = .ok v w := fun cs k v h => by unfold part; go_simp
  have pP : ∀ (cs : Array Value), (part 27 cs 2).run Tryz.prog w = .ok (.agg (cs.extract 2 4)) w := fun cs => by unfold part; go_simp
  have pM : ∀ (cs : Array Value), (part 31 cs 4).run Tryz.prog w = .ok (.agg (cs.extract 4 18)) w := fun cs => by unfold part; go_simp
  have pR : ∀ (cs : Array Value), (part 47 cs 18).run Tryz.prog w = .ok (.agg (cs.extract 18 21)) w := fun cs => by unfold part; go_simp
  rw [show (10000 : Nat) = 9999 + 1 from rfl, run_equalIn_agg w 9999 101 _ _ hS hp]
  have key := (eqF_cons (P := Tryz.prog) (w := w) (d := 9999) (f := (Tryz.prog.fieldsOf 101)[0]!) (by decide) (p9 #[.string (mkS a.verb), .string (mkS a.arg), .string (mkS a.p.1), .string (mkS a.p.2), .bool a.m.hs, .bool a.m.hf, .bool a.m.hu, .bool a.m.hb, .bool a.m.hp, .int .i64 a.m.sz, .int .i64 a.m.fo, .int .i64 a.m.un, .int .i64 a.m.by_, .int .i64 a.m.pr, .string (mkS a.m.body), .string (mkS a.m.ret), .string (mkS a.m.env), .string (mkS a.m.mode), .string (mkS a.r.no), .string (mkS a.r.kind), .string (mkS a.r.oc)] 0 _ rfl) (p9 #[.string (mkS b.verb), .string (mkS b.arg), .string (mkS b.p.1), .string (mkS b.p.2), .bool b.m.hs, .bool b.m.hf, .bool b.m.hu, .bool b.m.hb, .bool b.m.hp, .int .i64 b.m.sz, .int .i64 b.m.fo, .int .i64 b.m.un, .int .i64 b.m.by_, .int .i64 b.m.pr, .string (mkS b.m.body), .string (mkS b.m.ret), .string (mkS b.m.env), .string (mkS b.m.mode), .string (mkS b.r.no), .string (mkS b.r.kind), .string (mkS b.r.oc)] 0 _ rfl) (hT _ _) (eqF_cons (P := Tryz.prog) (w := w) (d := 9999) (f := (Tryz.prog.fieldsOf 101)[1]!) (by decide) (p9 #[.string (mkS a.verb), .string (mkS a.arg), .string (mkS a.p.1), .string (mkS a.p.2), .bool a.m.hs, .bool a.m.hf, .bool a.m.hu, .bool a.m.hb, .bool a.m.hp, .int .i64 a.m.sz, .int .i64 a.m.fo, .int .i64 a.m.un, .int .i64 a.m.by_, .int .i64 a.m.pr, .string (mkS a.m.body), .string (mkS a.m.ret), .string (mkS a.m.env), .string (mkS a.m.mode), .string (mkS a.r.no), .string (mkS a.r.kind), .string (mkS a.r.oc)] 1 _ rfl) (p9 #[.string (mkS b.verb), .string (mkS b.arg), .string (mkS b.p.1), .string (mkS b.p.2), .bool b.m.hs, .bool b.m.hf, .bool b.m.hu, .bool b.m.hb, .bool b.m.hp, .int .i64 b.m.sz, .int .i64 b.m.fo, .int .i64 b.m.un, .int .i64 b.m.by_, .int .i64 b.m.pr, .string (mkS b.m.body), .string (mkS b.m.ret), .string (mkS b.m.env), .string (mkS b.m.mode), .string (mkS b.r.no), .string (mkS b.r.kind), .string (mkS b.r.oc)] 1 _ rfl) (hT _ _) (eqF_cons (P := Tryz.prog) (w := w) (d := 9999) (f := (Tryz.prog.fieldsOf 101)[2]!) (by decide) (pP #[.string (mkS a.verb), .string (mkS a.arg), .string (mkS a.p.1), .string (mkS a.p.2), .bool a.m.hs, .bool a.m.hf, .bool a.m.hu, .bool a.m.hb, .bool a.m.hp, .int .i64 a.m.sz, .int .i64 a.m.fo, .int .i64 a.m.un, .int .i64 a.m.by_, .int .i64 a.m.pr, .string (mkS a.m.body), .string (mkS a.m.ret), .string (mkS a.m.env), .string (mkS a.m.mode), .string (mkS a.r.no), .string (mkS a.r.kind), .string (mkS a.r.oc)]) (pP #[.string (mkS b.verb), .string (mkS b.arg), .string (mkS b.p.1), .string (mkS b.p.2), .bool b.m.hs, .bool b.m.hf, .bool b.m.hu, .bool b.m.hb, .bool b.m.hp, .int .i64 b.m.sz, .int .i64 b.m.fo, .int .i64 b.m.un, .int .i64 b.m.by_, .int .i64 b.m.pr, .string (mkS b.m.body), .string (mkS b.m.ret), .string (mkS b.m.env), .string (mkS b.m.mode), .string (mkS b.r.no), .string (mkS b.r.kind), .string (mkS b.r.oc)]) (eqP9 a.p b.p w) (eqF_cons (P := Tryz.prog) (w := w) (d := 9999) (f := (Tryz.prog.fieldsOf 101)[3]!) (by decide) (pM #[.string (mkS a.verb), .string (mkS a.arg), .string (mkS a.p.1), .string (mkS a.p.2), .bool a.m.hs, .bool a.m.hf, .bool a.m.hu, .bool a.m.hb, .bool a.m.hp, .int .i64 a.m.sz, .int .i64 a.m.fo, .int .i64 a.m.un, .int .i64 a.m.by_, .int .i64 a.m.pr, .string (mkS a.m.body), .string (mkS a.m.ret), .string (mkS a.m.env), .string (mkS a.m.mode), .string (mkS a.r.no), .string (mkS a.r.kind), .string (mkS a.r.oc)]) (pM #[.string (mkS b.verb), .string (mkS b.arg), .string (mkS b.p.1), .string (mkS b.p.2), .bool b.m.hs, .bool b.m.hf, .bool b.m.hu, .bool b.m.hb, .bool b.m.hp, .int .i64 b.m.sz, .int .i64 b.m.fo, .int .i64 b.m.un, .int .i64 b.m.by_, .int .i64 b.m.pr, .string (mkS b.m.body), .string (mkS b.m.ret), .string (mkS b.m.env), .string (mkS b.m.mode), .string (mkS b.r.no), .string (mkS b.r.kind), .string (mkS b.r.oc)]) (eqMail9 a.m b.m w) (eqF_cons (P := Tryz.prog) (w := w) (d := 9999) (f := (Tryz.prog.fieldsOf 101)[4]!) (by decide) (pR #[.string (mkS a.verb), .string (mkS a.arg), .string (mkS a.p.1), .string (mkS a.p.2), .bool a.m.hs, .bool a.m.hf, .bool a.m.hu, .bool a.m.hb, .bool a.m.hp, .int .i64 a.m.sz, .int .i64 a.m.fo, .int .i64 a.m.un, .int .i64 a.m.by_, .int .i64 a.m.pr, .string (mkS a.m.body), .string (mkS a.m.ret), .string (mkS a.m.env), .string (mkS a.m.mode), .string (mkS a.r.no), .string (mkS a.r.kind), .string (mkS a.r.oc)]) (pR #[.string (mkS b.verb), .string (mkS b.arg), .string (mkS b.p.1), .string (mkS b.p.2), .bool b.m.hs, .bool b.m.hf, .bool b.m.hu, .bool b.m.hb, .bool b.m.hp, .int .i64 b.m.sz, .int .i64 b.m.fo, .int .i64 b.m.un, .int .i64 b.m.by_, .int .i64 b.m.pr, .string (mkS b.m.body), .string (mkS b.m.ret), .string (mkS b.m.env), .string (mkS b.m.mode), .string (mkS b.r.no), .string (mkS b.r.kind), .string (mkS b.r.oc)]) (eqRcpt9 a.r b.r w) (show (Op.eqFields 9999 #[.string (mkS a.verb), .string (mkS a.arg), .string (mkS a.p.1), .string (mkS a.p.2), .bool a.m.hs, .bool a.m.hf, .bool a.m.hu, .bool a.m.hb, .bool a.m.hp, .int .i64 a.m.sz, .int .i64 a.m.fo, .int .i64 a.m.un, .int .i64 a.m.by_, .int .i64 a.m.pr, .string (mkS a.m.body), .string (mkS a.m.ret), .string (mkS a.m.env), .string (mkS a.m.mode), .string (mkS a.r.no), .string (mkS a.r.kind), .string (mkS a.r.oc)] #[.string (mkS b.verb), .string (mkS b.arg), .string (mkS b.p.1), .string (mkS b.p.2), .bool b.m.hs, .bool b.m.hf, .bool b.m.hu, .bool b.m.hb, .bool b.m.hp, .int .i64 b.m.sz, .int .i64 b.m.fo, .int .i64 b.m.un, .int .i64 b.m.by_, .int .i64 b.m.pr, .string (mkS b.m.body), .string (mkS b.m.ret), .string (mkS b.m.env), .string (mkS b.m.mode), .string (mkS b.r.no), .string (mkS b.r.kind), .string (mkS b.r.oc)] []).run Tryz.prog w = .ok true w from rfl))))))
  refine key.trans ?_
  simp [eqCL]
end Go.Proofs.YtojpkbonioglbaaGreatDoor
