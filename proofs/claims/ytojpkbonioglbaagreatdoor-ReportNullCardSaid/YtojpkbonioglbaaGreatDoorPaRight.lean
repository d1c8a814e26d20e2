/-
  The walks of param's unsaid, ranged and RightMail.
-/
import Derived.Test.YtojpkbonioglbaaGreatDoorPaNamed
namespace Go.Proofs.YtojpkbonioglbaaGreatDoor
set_option maxRecDepth 100000
open Go.RowKit
/-- A message in its box, block g; nothing that lay ahead has turned. -/
structure MBox (W : World) (g : Nat) (m : ML) (w : World) : Prop where
  box : w.heap[g]? = some (.cells #[.bool m.hs, .bool m.hf, .bool m.hu, .bool m.hb, .bool m.hp, .int .i64 m.sz, .int .i64 m.fo, .int .i64 m.un, .int .i64 m.by_, .int .i64 m.pr, .string (mkS m.body), .string (mkS m.ret), .string (mkS m.env), .string (mkS m.mode)] 31 (0, 0))
  below : Below W.heap.size W w
theorem MBox.next {W w w' : World} {g : Nat} {m : ML} (h : MBox W g m w) (hb : Below w.heap.size w w') : MBox W g m w' := ⟨(hb.block _ (ltOf h.box)).trans h.box, below_next h.below hb⟩
theorem MBox.drewN {W w : World} {g : Nat} {m : ML} (h : MBox W g m w) (n : Nat) : MBox W g m (w.drewN n) := ⟨h.box, below_drewN h.below n⟩
theorem MBox.drew {W w : World} {g : Nat} {m : ML} (h : MBox W g m w) : MBox W g m w.drew := ⟨h.box, ⟨h.below.os, h.below.tape, h.below.output, h.below.size, h.below.block⟩⟩
theorem MBox.c0 {W w : World} {g : Nat} {m : ML} (h : MBox W g m w) : w.cell? ⟨g, 0, none⟩ = some (.bool m.hs) := cellOf h.box 0
theorem MBox.c1 {W w : World} {g : Nat} {m : ML} (h : MBox W g m w) : w.cell? ⟨g, 1, none⟩ = some (.bool m.hf) := cellOf h.box 1
theorem MBox.c2 {W w : World} {g : Nat} {m : ML} (h : MBox W g m w) : w.cell? ⟨g, 2, none⟩ = some (.bool m.hu) := cellOf h.box 2
theorem MBox.c3 {W w : World} {g : Nat} {m : ML} (h : MBox W g m w) : w.cell? ⟨g, 3, none⟩ = some (.bool m.hb) := cellOf h.box 3
theorem MBox.c4 {W w : World} {g : Nat} {m : ML} (h : MBox W g m w) : w.cell? ⟨g, 4, none⟩ = some (.bool m.hp) := cellOf h.box 4
theorem MBox.c5 {W w : World} {g : Nat} {m : ML} (h : MBox W g m w) : w.cell? ⟨g, 5, none⟩ = some (.int .i64 m.sz) := cellOf h.box 5
theorem MBox.c6 {W w : World} {g : Nat} {m : ML} (h : MBox W g m w) : w.cell? ⟨g, 6, none⟩ = some (.int .i64 m.fo) := cellOf h.box 6
theorem MBox.c7 {W w : World} {g : Nat} {m : ML} (h : MBox W g m w) : w.cell? ⟨g, 7, none⟩ = some (.int .i64 m.un) := cellOf h.box 7
theorem MBox.c8 {W w : World} {g : Nat} {m : ML} (h : MBox W g m w) : w.cell? ⟨g, 8, none⟩ = some (.int .i64 m.by_) := cellOf h.box 8
theorem MBox.c9 {W w : World} {g : Nat} {m : ML} (h : MBox W g m w) : w.cell? ⟨g, 9, none⟩ = some (.int .i64 m.pr) := cellOf h.box 9
theorem MBox.c10 {W w : World} {g : Nat} {m : ML} (h : MBox W g m w) : w.cell? ⟨g, 10, none⟩ = some (.string (mkS m.body)) := cellOf h.box 10
theorem MBox.c11 {W w : World} {g : Nat} {m : ML} (h : MBox W g m w) : w.cell? ⟨g, 11, none⟩ = some (.string (mkS m.ret)) := cellOf h.box 11
theorem MBox.c12 {W w : World} {g : Nat} {m : ML} (h : MBox W g m w) : w.cell? ⟨g, 12, none⟩ = some (.string (mkS m.env)) := cellOf h.box 12
theorem MBox.c13 {W w : World} {g : Nat} {m : ML} (h : MBox W g m w) : w.cell? ⟨g, 13, none⟩ = some (.string (mkS m.mode)) := cellOf h.box 13
theorem MBox.ten {W w : World} {g : Nat} {m : ML} (h : MBox W g m w) : w.cell? ⟨g, 0, none⟩ = some (.bool m.hs) ∧ w.cell? ⟨g, 5, none⟩ = some (.int .i64 m.sz) ∧ w.cell? ⟨g, 1, none⟩ = some (.bool m.hf) ∧ w.cell? ⟨g, 6, none⟩ = some (.int .i64 m.fo) ∧ w.cell? ⟨g, 2, none⟩ = some (.bool m.hu) ∧ w.cell? ⟨g, 7, none⟩ = some (.int .i64 m.un) ∧ w.cell? ⟨g, 3, none⟩ = some (.bool m.hb) ∧ w.cell? ⟨g, 8, none⟩ = some (.int .i64 m.by_) ∧ w.cell? ⟨g, 4, none⟩ = some (.bool m.hp) ∧ w.cell? ⟨g, 9, none⟩ = some (.int .i64 m.pr) := ⟨h.c0, h.c5, h.c1, h.c6, h.c2, h.c7, h.c3, h.c8, h.c4, h.c9⟩
theorem eqF_cons {P : Program} {w : World} {d : Nat} {xs ys : Array Value} {f : Field} {fs : List Field} {a b : Value} {r r' : Bool} (hn : f.name ≠ "_") (ha : (part f.type xs f.offset).run P w = .ok a w) (hb : (part f.type ys f.offset).run P w = .ok b w)
    (hr : (Op.equalIn d f.type a b).run P w = .ok r w) (ht : (Op.eqFields d xs ys fs).run P w = .ok r' w) : (Op.eqFields d xs ys (f :: fs)).run P w = .ok (r && r') w := by
  unfold Op.eqFields
  rw [if_pos hn]
  generalize part f.type xs f.offset = p1 at ha ⊢
  generalize part f.type ys f.offset = p2 at hb ⊢
  cases r
  · go_simp
  · go_simp
set_option maxHeartbeats 4000000 in
theorem eqMail (a b : ML) (w : World) : (Op.equalIn 10000 31 (.agg #[.bool a.hs, .bool a.hf, .bool a.hu, .bool a.hb, .bool a.hp, .int .i64 a.sz, .int .i64 a.fo, .int .i64 a.un, .int .i64 a.by_, .int .i64 a.pr, .string (mkS a.body), .string (mkS a.ret), .string (mkS a.env), .string (mkS a.mode)]) (.agg #[.bool b.hs, .bool b.hf, .bool b.hu, .bool b.hb, .bool b.hp, .int .i64 b.sz, .int .i64 b.fo, .int .i64 b.un, .int .i64 b.by_, .int .i64 b.pr, .string (mkS b.body), .string (mkS b.ret), .string (mkS b.env), .string (mkS b.mode)])).run Tryz.prog w = .ok (eqML a b) w := by
  have u9 := Tryz.underlying9
  have a9 := Tryz.isAgg9
  have z9 := Tryz.sizeOf9
  have u3 := Tryz.underlying3
  have a3 := Tryz.isAgg3
  have z3 := Tryz.sizeOf3
  have u4 := Tryz.underlying4
  have a4 := Tryz.isAgg4
  have z4 := Tryz.sizeOf4
  have aH := Tryz.isAgg29
  have zH := Tryz.sizeOf29
  have hS : Tryz.prog.underlying 31 = some (.struct (Tryz.prog.fieldsOf 31)) := by kernel_rfl
  have hp : Tryz.prog.stoodInHeld 31 = false := by kernel_rfl
  have hS2 : Tryz.prog.underlying 29 = some (.struct (Tryz.prog.fieldsOf 29)) := by kernel_rfl
  have hp2 : Tryz.prog.stoodInHeld 29 = false := by kernel_rfl
  have hHas : ∀ (x1 x2 x3 x4 x5 y1 y2 y3 y4 y5 : Bool), (Op.equalIn 9999 29 (.agg #[.bool x1, .bool x2, .bool x3, .bool x4, .bool x5]) (.agg #[.bool y1, .bool y2, .bool y3, .bool y4, .bool y5])).run Tryz.prog w = .ok (x1 == y1 && x2 == y2 && x3 == y3 && x4 == y4 && x5 == y5) w := by
    intro x1 x2 x3 x4 x5 y1 y2 y3 y4 y5
    rw [show (9999 : Nat) = 9998 + 1 from rfl, run_equalIn_agg w 9998 29 _ _ hS2 hp2]
    simp only [Program.fieldsOf, Tryz.underlying29]
    go_simp
    cases x1 <;> cases y1 <;> cases x2 <;> cases y2 <;> cases x3 <;> cases y3 <;> cases x4 <;> cases y4 <;> cases x5 <;> cases y5 <;> rfl
  rw [show (10000 : Nat) = 9999 + 1 from rfl, run_equalIn_agg w 9999 31 _ _ hS hp]
  have hI : ∀ (x y : Int), (Op.equalIn 9999 3 (.int .i64 x) (.int .i64 y)).run Tryz.prog w = .ok (x == y) w := fun x y => by go_simp
  have hT : ∀ (x y : Txt), (Op.equalIn 9999 9 (.string (mkS x)) (.string (mkS y))).run Tryz.prog w = .ok (x == y) w := fun x y => by
    have e := mkS_eqb x y
    go_simp
  have p3 : ∀ (cs : Array Value) (k : Nat) (v : Value), cs[k]? = some v → (part 3 cs k).run Tryz.prog w = .ok v w := fun cs k v h => by unfold part; go_simp
  have p9 : ∀ (cs : Array Value) (k : Nat) (v : Value), cs[k]? = some v → (part 9 cs k).run Tryz.prog w = .ok v w := fun cs k v h => by unfold part; go_simp
  have pH : ∀ (cs : Array Value), (part 29 cs 0).run Tryz.prog w = .ok (.agg (cs.extract 0 5)) w := fun cs => by unfold part; go_simp
  have key := eqF_cons (P := Tryz.prog) (w := w) (d := 9999) (f := (Tryz.prog.fieldsOf 31)[0]!) (by decide) (pH #[.bool a.hs, .bool a.hf, .bool a.hu, .bool a.hb, .bool a.hp, .int .i64 a.sz, .int .i64 a.fo, .int .i64 a.un, .int .i64 a.by_, .int .i64 a.pr, .string (mkS a.body), .string (mkS a.ret), .string (mkS a.env), .string (mkS a.mode)]) (pH #[.bool b.hs, .bool b.hf, .bool b.hu, .bool b.hb, .bool b.hp, .int .i64 b.sz, .int .i64 b.fo, .int .i64 b.un, .int .i64 b.by_, .int .i64 b.pr, .string (mkS b.body), .string (mkS b.ret), .string (mkS b.env), .string (mkS b.mode)]) (hHas _ _ _ _ _ _ _ _ _ _)
    (eqF_cons (f := (Tryz.prog.fieldsOf 31)[1]!) (by decide) (p3 #[.bool a.hs, .bool a.hf, .bool a.hu, .bool a.hb, .bool a.hp, .int .i64 a.sz, .int .i64 a.fo, .int .i64 a.un, .int .i64 a.by_, .int .i64 a.pr, .string (mkS a.body), .string (mkS a.ret), .string (mkS a.env), .string (mkS a.mode)] 5 _ rfl) (p3 #[.bool b.hs, .bool b.hf, .bool b.hu, .bool b.hb, .bool b.hp, .int .i64 b.sz, .int .i64 b.fo, .int .i64 b.un, .int .i64 b.by_, .int .i64 b.pr, .string (mkS b.body), .string (mkS b.ret), .string (mkS b.env), .string (mkS b.mode)] 5 _ rfl) (hI _ _) (eqF_cons (f := (Tryz.prog.fieldsOf 31)[2]!) (by decide) (p3 #[.bool a.hs, .bool a.hf, .bool a.hu, .bool a.hb, .bool a.hp, .int .i64 a.sz, .int .i64 a.fo, .int .i64 a.un, .int .i64 a.by_, .int .i64 a.pr, .string (mkS a.body), .string (mkS a.ret), .string (mkS a.env), .string (mkS a.mode)] 6 _ rfl) (p3 #[.bool b.hs, .bool b.hf, .bool b.hu, .bool b.hb, .bool b.hp, .int .i64 b.sz, .int .i64 b.fo, .int .i64 b.un, .int .i64 b.by_, .int .i64 b.pr, .string (mkS b.body), .string (mkS b.ret), .string (mkS b.env), .string (mkS b.mode)] 6 _ rfl) (hI _ _)
    (eqF_cons (f := (Tryz.prog.fieldsOf 31)[3]!) (by decide) (p3 #[.bool a.hs, .bool a.hf, .bool a.hu, .bool a.hb, .bool a.hp, .int .i64 a.sz, .int .i64 a.fo, .int .i64 a.un, .int .i64 a.by_, .int .i64 a.pr, .string (mkS a.body), .string (mkS a.ret), .string (mkS a.env), .string (mkS a.mode)] 7 _ rfl) (p3 #[.bool b.hs, .bool b.hf, .bool b.hu, .bool b.hb, .bool b.hp, .int .i64 b.sz, .int .i64 b.fo, .int .i64 b.un, .int .i64 b.by_, .int .i64 b.pr, .string (mkS b.body), .string (mkS b.ret), .string (mkS b.env), .string (mkS b.mode)] 7 _ rfl) (hI _ _) (eqF_cons (f := (Tryz.prog.fieldsOf 31)[4]!) (by decide) (p3 #[.bool a.hs, .bool a.hf, .bool a.hu, .bool a.hb, .bool a.hp, .int .i64 a.sz, .int .i64 a.fo, .int .i64 a.un, .int .i64 a.by_, .int .i64 a.pr, .string (mkS a.body), .string (mkS a.ret), .string (mkS a.env), .string (mkS a.mode)] 8 _ rfl) (p3 #[.bool b.hs, .bool b.hf, .bool b.hu, .bool b.hb, .bool b.hp, .int .i64 b.sz, .int .i64 b.fo, .int .i64 b.un, .int .i64 b.by_, .int .i64 b.pr, .string (mkS b.body), .string (mkS b.ret), .string (mkS b.env), .string (mkS b.mode)] 8 _ rfl) (hI _ _)
    (eqF_cons (f := (Tryz.prog.fieldsOf 31)[5]!) (by decide) (p3 #[.bool a.hs, .bool a.hf, .bool a.hu, .bool a.hb, .bool a.hp, .int .i64 a.sz, .int .i64 a.fo, .int .i64 a.un, .int .i64 a.by_, .int .i64 a.pr, .string (mkS a.body), .string (mkS a.ret), .string (mkS a.env), .string (mkS a.mode)] 9 _ rfl) (p3 #[.bool b.hs, .bool b.hf, .bool b.hu, .bool b.hb, .bool b.hp, .int .i64 b.sz, .int .i64 b.fo, .int .i64 b.un, .int .i64 b.by_, .int .i64 b.pr, .string (mkS b.body), .string (mkS b.ret), .string (mkS b.env), .string (mkS b.mode)] 9 _ rfl) (hI _ _) (eqF_cons (f := (Tryz.prog.fieldsOf 31)[6]!) (by decide) (p9 #[.bool a.hs, .bool a.hf, .bool a.hu, .bool a.hb, .bool a.hp, .int .i64 a.sz, .int .i64 a.fo, .int .i64 a.un, .int .i64 a.by_, .int .i64 a.pr, .string (mkS a.body), .string (mkS a.ret), .string (mkS a.env), .string (mkS a.mode)] 10 _ rfl) (p9 #[.bool b.hs, .bool b.hf, .bool b.hu, .bool b.hb, .bool b.hp, .int .i64 b.sz, .int .i64 b.fo, .int .i64 b.un, .int .i64 b.by_, .int .i64 b.pr, .string (mkS b.body), .string (mkS b.ret), .string (mkS b.env), .string (mkS b.mode)] 10 _ rfl) (hT _ _)
    (eqF_cons (f := (Tryz.prog.fieldsOf 31)[7]!) (by decide) (p9 #[.bool a.hs, .bool a.hf, .bool a.hu, .bool a.hb, .bool a.hp, .int .i64 a.sz, .int .i64 a.fo, .int .i64 a.un, .int .i64 a.by_, .int .i64 a.pr, .string (mkS a.body), .string (mkS a.ret), .string (mkS a.env), .string (mkS a.mode)] 11 _ rfl) (p9 #[.bool b.hs, .bool b.hf, .bool b.hu, .bool b.hb, .bool b.hp, .int .i64 b.sz, .int .i64 b.fo, .int .i64 b.un, .int .i64 b.by_, .int .i64 b.pr, .string (mkS b.body), .string (mkS b.ret), .string (mkS b.env), .string (mkS b.mode)] 11 _ rfl) (hT _ _) (eqF_cons (f := (Tryz.prog.fieldsOf 31)[8]!) (by decide) (p9 #[.bool a.hs, .bool a.hf, .bool a.hu, .bool a.hb, .bool a.hp, .int .i64 a.sz, .int .i64 a.fo, .int .i64 a.un, .int .i64 a.by_, .int .i64 a.pr, .string (mkS a.body), .string (mkS a.ret), .string (mkS a.env), .string (mkS a.mode)] 12 _ rfl) (p9 #[.bool b.hs, .bool b.hf, .bool b.hu, .bool b.hb, .bool b.hp, .int .i64 b.sz, .int .i64 b.fo, .int .i64 b.un, .int .i64 b.by_, .int .i64 b.pr, .string (mkS b.body), .string (mkS b.ret), .string (mkS b.env), .string (mkS b.mode)] 12 _ rfl) (hT _ _)
    (eqF_cons (f := (Tryz.prog.fieldsOf 31)[9]!) (by decide) (p9 #[.bool a.hs, .bool a.hf, .bool a.hu, .bool a.hb, .bool a.hp, .int .i64 a.sz, .int .i64 a.fo, .int .i64 a.un, .int .i64 a.by_, .int .i64 a.pr, .string (mkS a.body), .string (mkS a.ret), .string (mkS a.env), .string (mkS a.mode)] 13 _ rfl) (p9 #[.bool b.hs, .bool b.hf, .bool b.hu, .bool b.hb, .bool b.hp, .int .i64 b.sz, .int .i64 b.fo, .int .i64 b.un, .int .i64 b.by_, .int .i64 b.pr, .string (mkS b.body), .string (mkS b.ret), .string (mkS b.env), .string (mkS b.mode)] 13 _ rfl) (hT _ _) (show (Op.eqFields 9999 #[.bool a.hs, .bool a.hf, .bool a.hu, .bool a.hb, .bool a.hp, .int .i64 a.sz, .int .i64 a.fo, .int .i64 a.un, .int .i64 a.by_, .int .i64 a.pr, .string (mkS a.body), .string (mkS a.ret), .string (mkS a.env), .string (mkS a.mode)] #[.bool b.hs, .bool b.hf, .bool b.hu, .bool b.hb, .bool b.hp, .int .i64 b.sz, .int .i64 b.fo, .int .i64 b.un, .int .i64 b.by_, .int .i64 b.pr, .string (mkS b.body), .string (mkS b.ret), .string (mkS b.env), .string (mkS b.mode)] []).run Tryz.prog w = .ok true w from rfl))))))))))
  refine key.trans ?_
  simp [eqML, Bool.and_assoc]
end Go.Proofs.YtojpkbonioglbaaGreatDoor
