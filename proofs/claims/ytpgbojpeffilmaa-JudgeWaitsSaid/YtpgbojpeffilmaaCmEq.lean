/-
  Equality of commands.
-/
import Derived.Test.YtpgbojpeffilmaaProg
import Derived.Test.YtpgbojpeffilmaaCmMath
import Derived.Test.YtpgbojpeffilmaaMaBuild
import Derived.Test.YtpgbojpeffilmaaMaPure
import Derived.Test.YtpgbojpeffilmaaPaEq
import Derived.Test.YtpgbojpeffilmaaPaNamed
import Derived.Test.YtpgbojpeffilmaaPaRight
import Derived.Test.YtpgbojpeffilmaaPtMath
import Derived.Test.YtpgbojpeffilmaaRows
import Derived.Lib.Bytealg
import Derived.Lib.ItoaNum
import Derived.Lib.Atoi
import Derived.Lib.Join
import Derived.Lib.Strings
import Derived.Lib.TrimByte
import Derived.WalkKit
import Derived.WalkSpells
import Derived.WalkLawsBesides
import Derived.Deep.QuietTactic
import Derived.BigQuiet
import Derived.StillTailTactics
import Derived.Lib.Hide
import Derived.Maps.AppendAt
import Derived.Deep.AppendLies
import Derived.Deep.RegionWith
import Derived.Deep.RegionHeld3
import Derived.Deep.DeepFit
import Derived.Deep.LoopGhost
import Derived.IntWalk
import Derived.Lib.IndexBytes
import Derived.Laws.BytesString
import Derived.Shelf.Strings.Search1
import Derived.Shelf.Strings.Search2
import Derived.Shelf.Strings.Search3
import Derived.Shelf.LaysM
import Derived.Shelf.Strings.Shaped
import Derived.Shelf.Strings.BuilderK
import Derived.Lib.FrozenHead2
import Derived.Deep.MidRow
import Derived.Laws.ResultCell
import Derived.Lib.ConvBytes
import Derived.Laws.StructEq
import Derived.RangeFuncNested
import Derived.RangeFuncBound
import Derived.RangeFuncCalls
import Derived.RangeFuncLeaves
import Derived.RangeFuncBox
import Derived.RangeFuncWrites
import Derived.Shelf.Abstract
import Derived.Shelf.RegionOpen
import Derived.OwnWalkIn
import Derived.TacticsInMore
import Derived.LoopNIn
import Derived.LoopIn
import Derived.Lib.LaidTab
import Derived.Lib.AppendIntMem
import Derived.LoopN
import Derived.Maps.OwnIn
import Derived.Laws.EntriesVeiled
namespace Go.Proofs.Ytpgbojpeffilmaa
set_option maxRecDepth 100000
open Go.RowKit
theorem Try.eqPath9 (a b c d : ByteArray) (w : World) : (Op.equalIn 9999 30 (.agg #[.string a, .string b]) (.agg #[.string c, .string d])).run Try.prog w = .ok (a.toList == c.toList && b.toList == d.toList) w := by
  have u9 := Try.underlying9
  have a9 := Try.isAgg9
  have z9 := Try.sizeOf9
  have hS : Try.prog.underlying 30 = some (.struct (Try.prog.fieldsOf 30)) := by kernel_rfl
  have hp : Try.prog.stoodInHeld 30 = false := by kernel_rfl
  rw [show (9999 : Nat) = 9998 + 1 from rfl, run_equalIn_agg w 9998 30 _ _ hS hp]
  simp only [Program.fieldsOf, Try.underlying30]
  go_simp
  by_cases h1 : a.toList = c.toList <;> by_cases h2 : b.toList = d.toList <;> simp [h1, h2]
/-- Of two paths: are they one? -/
theorem eqP9 (p q : P.Pth) (w : World) : (Op.equalIn 9999 30 (.agg #[.string (mkS p.1), .string (mkS p.2)]) (.agg #[.string (mkS q.1), .string (mkS q.2)])).run Try.prog w = .ok (p.1 == q.1 && p.2 == q.2) w := by
  rw [Try.eqPath9, mkS_toList, mkS_toList, mkS_toList, mkS_toList]
set_option maxHeartbeats 4000000 in
theorem eqMail9 (a b : ML) (w : World) : (Op.equalIn 9999 34 (.agg #[.bool a.hs, .bool a.hf, .bool a.hu, .bool a.hb, .bool a.hp, .int .i64 a.sz, .int .i64 a.fo, .int .i64 a.un, .int .i64 a.by_, .int .i64 a.pr, .string (mkS a.body), .string (mkS a.ret), .string (mkS a.env), .string (mkS a.mode)]) (.agg #[.bool b.hs, .bool b.hf, .bool b.hu, .bool b.hb, .bool b.hp, .int .i64 b.sz, .int .i64 b.fo, .int .i64 b.un, .int .i64 b.by_, .int .i64 b.pr, .string (mkS b.body), .string (mkS b.ret), .string (mkS b.env), .string (mkS b.mode)])).run Try.prog w = .ok (eqML a b) w := by
  have u9 := Try.underlying9
  have a9 := Try.isAgg9
  have z9 := Try.sizeOf9
  have u3 := Try.underlying3
  have a3 := Try.isAgg3
  have z3 := Try.sizeOf3
  have u4 := Try.underlying4
  have a4 := Try.isAgg4
  have z4 := Try.sizeOf4
  have aH := Try.isAgg32
  have zH := Try.sizeOf32
  have hS : Try.prog.underlying 34 = some (.struct (Try.prog.fieldsOf 34)) := by kernel_rfl
  have hp : Try.prog.stoodInHeld 34 = false := by kernel_rfl
  have hS2 : Try.prog.underlying 32 = some (.struct (Try.prog.fieldsOf 32)) := by kernel_rfl
  have hp2 : Try.prog.stoodInHeld 32 = false := by kernel_rfl
  have hHas : ∀ (x1 x2 x3 x4 x5 y1 y2 y3 y4 y5 : Bool), (Op.equalIn 9998 32 (.agg #[.bool x1, .bool x2, .bool x3, .bool x4, .bool x5]) (.agg #[.bool y1, .bool y2, .bool y3, .bool y4, .bool y5])).run Try.prog w = .ok (x1 == y1 && x2 == y2 && x3 == y3 && x4 == y4 && x5 == y5) w := by
    intro x1 x2 x3 x4 x5 y1 y2 y3 y4 y5
    rw [show (9998 : Nat) = 9997 + 1 from rfl, run_equalIn_agg w 9997 32 _ _ hS2 hp2]
    simp only [Program.fieldsOf, Try.underlying32]
    go_simp
    cases x1 <;> cases y1 <;> cases x2 <;> cases y2 <;> cases x3 <;> cases y3 <;> cases x4 <;> cases y4 <;> cases x5 <;> cases y5 <;> rfl
  rw [show (9999 : Nat) = 9998 + 1 from rfl, run_equalIn_agg w 9998 34 _ _ hS hp]
  have hI : ∀ (x y : Int), (Op.equalIn 9998 3 (.int .i64 x) (.int .i64 y)).run Try.prog w = .ok (x == y) w := fun x y => by go_simp
  have hT : ∀ (x y : Txt), (Op.equalIn 9998 9 (.string (mkS x)) (.string (mkS y))).run Try.prog w = .ok (x == y) w := fun x y => by
    have e := mkS_eqb x y
    go_simp
  have p3 : ∀ (cs : Array Value) (k : Nat) (v : Value), cs[k]? = some v → (part 3 cs k).run Try.prog w = .ok v w := fun cs k v h => by unfold part; go_simp
  have p9 : ∀ (cs : Array Value) (k : Nat) (v : Value), cs[k]? = some v → (part 9 cs k).run Try.prog w = .ok v w := fun cs k v h => by unfold part; go_simp
  have pH : ∀ (cs : Array Value), (part 32 cs 0).run Try.prog w = .ok (.agg (cs.extract 0 5)) w := fun cs => by unfold part; go_simp
  have key := eqF_cons (P := Try.prog) (w := w) (d := 9998) (f := (Try.prog.fieldsOf 34)[0]!) (by decide) (pH #[.bool a.hs, .bool a.hf, .bool a.hu, .bool a.hb, .bool a.hp, .int .i64 a.sz, .int .i64 a.fo, .int .i64 a.un, .int .i64 a.by_, .int .i64 a.pr, .string (mkS a.body), .string (mkS a.ret), .string (mkS a.env), .string (mkS a.mode)]) (pH #[.bool b.hs, .bool b.hf, .bool b.hu, .bool b.hb, .bool b.hp, .int .i64 b.sz, .int .i64 b.fo, .int .i64 b.un, .int .i64 b.by_, .int .i64 b.pr, .string (mkS b.body), .string (mkS b.ret), .string (mkS b.env), .string (mkS b.mode)]) (hHas _ _ _ _ _ _ _ _ _ _)
    (eqF_cons (f := (Try.prog.fieldsOf 34)[1]!) (by decide) (p3 #[.bool a.hs, .bool a.hf, .bool a.hu, .bool a.hb, .bool a.hp, .int .i64 a.sz, .int .i64 a.fo, .int .i64 a.un, .int .i64 a.by_, .int .i64 a.pr, .string (mkS a.body), .string (mkS a.ret), .string (mkS a.env), .string (mkS a.mode)] 5 _ rfl) (p3 #[.bool b.hs, .bool b.hf, .bool b.hu, .bool b.hb, .bool b.hp, .int .i64 b.sz, .int .i64 b.fo, .int .i64 b.un, .int .i64 b.by_, .int .i64 b.pr, .string (mkS b.body), .string (mkS b.ret), .string (mkS b.env), .string (mkS b.mode)] 5 _ rfl) (hI _ _) (eqF_cons (f := (Try.prog.fieldsOf 34)[2]!) (by decide) (p3 #[.bool a.hs, .bool a.hf, .bool a.hu, .bool a.hb, .bool a.hp, .int .i64 a.sz, .int .i64 a.fo, .int .i64 a.un, .int .i64 a.by_, .int .i64 a.pr, .string (mkS a.body), .string (mkS a.ret), .string (mkS a.env), .string (mkS a.mode)] 6 _ rfl) (p3 #[.bool b.hs, .bool b.hf, .bool b.hu, .bool b.hb, .bool b.hp, .int .i64 b.sz, .int .i64 b.fo, .int .i64 b.un, .int .i64 b.by_, .int .i64 b.pr, .string (mkS b.body), .string (mkS b.ret), .string (mkS b.env), .string (mkS b.mode)] 6 _ rfl) (hI _ _)
    (eqF_cons (f := (Try.prog.fieldsOf 34)[3]!) (by decide) (p3 #[.bool a.hs, .bool a.hf, .bool a.hu, .bool a.hb, .bool a.hp, .int .i64 a.sz, .int .i64 a.fo, .int .i64 a.un, .int .i64 a.by_, .int .i64 a.pr, .string (mkS a.body), .string (mkS a.ret), .string (mkS a.env), .string (mkS a.mode)] 7 _ rfl) (p3 #[.bool b.hs, .bool b.hf, .bool b.hu, .bool b.hb, .bool b.hp, .int .i64 b.sz, .int .i64 b.fo, .int .i64 b.un, .int .i64 b.by_, .int .i64 b.pr, .string (mkS b.body), .string (mkS b.ret), .string (mkS b.env), .string (mkS b.mode)] 7 _ rfl) (hI _ _) (eqF_cons (f := (Try.prog.fieldsOf 34)[4]!) (by decide) (p3 #[.bool a.hs, .bool a.hf, .bool a.hu, .bool a.hb, .bool a.hp, .int .i64 a.sz, .int .i64 a.fo, .int .i64 a.un, .int .i64 a.by_, .int .i64 a.pr, .string (mkS a.body), .string (mkS a.ret), .string (mkS a.env), .string (mkS a.mode)] 8 _ rfl) (p3 #[.bool b.hs, .bool b.hf, .bool b.hu, .bool b.hb, .bool b.hp, .int .i64 b.sz, .int .i64 b.fo, .int .i64 b.un, .int .i64 b.by_, .int .i64 b.pr, .string (mkS b.body), .string (mkS b.ret), .string (mkS b.env), .string (mkS b.mode)] 8 _ rfl) (hI _ _)
    (eqF_cons (f := (Try.prog.fieldsOf 34)[5]!) (by decide) (p3 #[.bool a.hs, .bool a.hf, .bool a.hu, .bool a.hb, .bool a.hp, .int .i64 a.sz, .int .i64 a.fo, .int .i64 a.un, .int .i64 a.by_, .int .i64 a.pr, .string (mkS a.body), .string (mkS a.ret), .string (mkS a.env), .string (mkS a.mode)] 9 _ rfl) (p3 #[.bool b.hs, .bool b.hf, .bool b.hu, .bool b.hb, .bool b.hp, .int .i64 b.sz, .int .i64 b.fo, .int .i64 b.un, .int .i64 b.by_, .int .i64 b.pr, .string (mkS b.body), .string (mkS b.ret), .string (mkS b.env), .string (mkS b.mode)] 9 _ rfl) (hI _ _) (eqF_cons (f := (Try.prog.fieldsOf 34)[6]!) (by decide) (p9 #[.bool a.hs, .bool a.hf, .bool a.hu, .bool a.hb, .bool a.hp, .int .i64 a.sz, .int .i64 a.fo, .int .i64 a.un, .int .i64 a.by_, .int .i64 a.pr, .string (mkS a.body), .string (mkS a.ret), .string (mkS a.env), .string (mkS a.mode)] 10 _ rfl) (p9 #[.bool b.hs, .bool b.hf, .bool b.hu, .bool b.hb, .bool b.hp, .int .i64 b.sz, .int .i64 b.fo, .int .i64 b.un, .int .i64 b.by_, .int .i64 b.pr, .string (mkS b.body), .string (mkS b.ret), .string (mkS b.env), .string (mkS b.mode)] 10 _ rfl) (hT _ _)
    (eqF_cons (f := (Try.prog.fieldsOf 34)[7]!) (by decide) (p9 #[.bool a.hs, .bool a.hf, .bool a.hu, .bool a.hb, .bool a.hp, .int .i64 a.sz, .int .i64 a.fo, .int .i64 a.un, .int .i64 a.by_, .int .i64 a.pr, .string (mkS a.body), .string (mkS a.ret), .string (mkS a.env), .string (mkS a.mode)] 11 _ rfl) (p9 #[.bool b.hs, .bool b.hf, .bool b.hu, .bool b.hb, .bool b.hp, .int .i64 b.sz, .int .i64 b.fo, .int .i64 b.un, .int .i64 b.by_, .int .i64 b.pr, .string (mkS b.body), .string (mkS b.ret), .string (mkS b.env), .string (mkS b.mode)] 11 _ rfl) (hT _ _) (eqF_cons (f := (Try.prog.fieldsOf 34)[8]!) (by decide) (p9 #[.bool a.hs, .bool a.hf, .bool a.hu, .bool a.hb, .bool a.hp, .int .i64 a.sz, .int .i64 a.fo, .int .i64 a.un, .int .i64 a.by_, .int .i64 a.pr, .string (mkS a.body), .string (mkS a.ret), .string (mkS a.env), .string (mkS a.mode)] 12 _ rfl) (p9 #[.bool b.hs, .bool b.hf, .bool b.hu, .bool b.hb, .bool b.hp, .int .i64 b.sz, .int .i64 b.fo, .int .i64 b.un, .int .i64 b.by_, .int .i64 b.pr, .string (mkS b.body), .string (mkS b.ret), .string (mkS b.env), .string (mkS b.mode)] 12 _ rfl) (hT _ _)
    (eqF_cons (f := (Try.prog.fieldsOf 34)[9]!) (by decide) (p9 #[.bool a.hs, .bool a.hf, .bool a.hu, .bool a.hb, .bool a.hp, .int .i64 a.sz, .int .i64 a.fo, .int .i64 a.un, .int .i64 a.by_, .int .i64 a.pr, .string (mkS a.body), .string (mkS a.ret), .string (mkS a.env), .string (mkS a.mode)] 13 _ rfl) (p9 #[.bool b.hs, .bool b.hf, .bool b.hu, .bool b.hb, .bool b.hp, .int .i64 b.sz, .int .i64 b.fo, .int .i64 b.un, .int .i64 b.by_, .int .i64 b.pr, .string (mkS b.body), .string (mkS b.ret), .string (mkS b.env), .string (mkS b.mode)] 13 _ rfl) (hT _ _) (show (Op.eqFields 9998 #[.bool a.hs, .bool a.hf, .bool a.hu, .bool a.hb, .bool a.hp, .int .i64 a.sz, .int .i64 a.fo, .int .i64 a.un, .int .i64 a.by_, .int .i64 a.pr, .string (mkS a.body), .string (mkS a.ret), .string (mkS a.env), .string (mkS a.mode)] #[.bool b.hs, .bool b.hf, .bool b.hu, .bool b.hb, .bool b.hp, .int .i64 b.sz, .int .i64 b.fo, .int .i64 b.un, .int .i64 b.by_, .int .i64 b.pr, .string (mkS b.body), .string (mkS b.ret), .string (mkS b.env), .string (mkS b.mode)] []).run Try.prog w = .ok true w from rfl))))))))))
  refine key.trans ?_
  simp [eqML, Bool.and_assoc]
theorem eqRcpt9 (a b : RL) (w : World) : (Op.equalIn 9999 36 (.agg #[.string (mkS a.no), .string (mkS a.kind), .string (mkS a.oc)]) (.agg #[.string (mkS b.no), .string (mkS b.kind), .string (mkS b.oc)])).run Try.prog w = .ok (eqRL a b) w := by
  have u9 := Try.underlying9
  have a9 := Try.isAgg9
  have z9 := Try.sizeOf9
  have hS : Try.prog.underlying 36 = some (.struct (Try.prog.fieldsOf 36)) := by kernel_rfl
  have hp : Try.prog.stoodInHeld 36 = false := by kernel_rfl
  have hT : ∀ (x y : Txt), (Op.equalIn 9998 9 (.string (mkS x)) (.string (mkS y))).run Try.prog w = .ok (x == y) w := fun x y => by
    have e := mkS_eqb x y
    go_simp
  have p9 : ∀ (cs : Array Value) (k : Nat) (v : Value), cs[k]? = some v → (part 9 cs k).run Try.prog w = .ok v w := fun cs k v h => by unfold part; go_simp
  rw [show (9999 : Nat) = 9998 + 1 from rfl, run_equalIn_agg w 9998 36 _ _ hS hp]
  have key := eqF_cons (P := Try.prog) (w := w) (d := 9998) (f := (Try.prog.fieldsOf 36)[0]!) (by decide) (p9 #[.string (mkS a.no), .string (mkS a.kind), .string (mkS a.oc)] 0 _ rfl) (p9 #[.string (mkS b.no), .string (mkS b.kind), .string (mkS b.oc)] 0 _ rfl) (hT _ _)
    (eqF_cons (f := (Try.prog.fieldsOf 36)[1]!) (by decide) (p9 _ 1 _ rfl) (p9 _ 1 _ rfl) (hT _ _) (eqF_cons (f := (Try.prog.fieldsOf 36)[2]!) (by decide) (p9 _ 2 _ rfl) (p9 _ 2 _ rfl) (hT _ _)
    (show (Op.eqFields 9998 #[.string (mkS a.no), .string (mkS a.kind), .string (mkS a.oc)] #[.string (mkS b.no), .string (mkS b.kind), .string (mkS b.oc)] []).run Try.prog w = .ok true w from rfl)))
  refine key.trans ?_
  simp [eqRL, Bool.and_assoc]
def eqCL (a b : CL) : Bool := a.verb == b.verb && (a.arg == b.arg && ((a.p.1 == b.p.1 && a.p.2 == b.p.2) && (eqML a.m b.m && eqRL a.r b.r)))
theorem eqCL_iff {a b : CL} : eqCL a b = true ↔ a = b := by
  obtain ⟨a1, a2, ⟨a3, a4⟩, a5, a6⟩ := a
  obtain ⟨b1, b2, ⟨b3, b4⟩, b5, b6⟩ := b
  simp only [eqCL, Bool.and_eq_true, beq_iff_eq, eqML_iff, eqRL_iff, CL.mk.injEq, Prod.mk.injEq]
end Go.Proofs.Ytpgbojpeffilmaa
