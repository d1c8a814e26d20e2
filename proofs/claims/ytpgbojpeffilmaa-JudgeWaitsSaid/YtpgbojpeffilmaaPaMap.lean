/-
  A map with texts as keys: what it holds, told by a function; the laws at its operations.
-/
import Derived.Test.YtpgbojpeffilmaaProg
import Derived.Test.YtpgbojpeffilmaaMaBuild
import Derived.Test.YtpgbojpeffilmaaMaPure
import Derived.Test.YtpgbojpeffilmaaRows
import Derived.Lib.Bytealg
import Derived.Lib.ItoaNum
import Derived.Lib.Atoi
import Derived.Lib.Join
import Derived.WalkKit
import Derived.WalkSpells
import Derived.WalkLawsBesides
import Derived.Deep.QuietTactic
import Derived.BigQuiet
import Derived.StillTailTactics
import Derived.Lib.Hide
import Derived.Maps.AppendAt
import Derived.Deep.AppendLies
import Derived.Deep.RegionWith
import Derived.Deep.RegionHeld3
import Derived.Deep.DeepFit
import Derived.Deep.LoopGhost
import Derived.IntWalk
import Derived.Lib.Strings
import Derived.Lib.IndexBytes
import Derived.Laws.BytesString
import Derived.Shelf.Strings.Search1
import Derived.Shelf.Strings.Search2
import Derived.Shelf.Strings.Search3
import Derived.Shelf.LaysM
import Derived.Shelf.Strings.Shaped
import Derived.Shelf.Strings.BuilderK
import Derived.Lib.FrozenHead2
import Derived.Deep.MidRow
import Derived.Laws.ResultCell
import Derived.Lib.ConvBytes
import Derived.Laws.StructEq
import Derived.RangeFuncNested
import Derived.RangeFuncBound
import Derived.RangeFuncCalls
import Derived.RangeFuncLeaves
import Derived.RangeFuncBox
import Derived.RangeFuncWrites
import Derived.Shelf.Abstract
import Derived.Shelf.RegionOpen
import Derived.OwnWalkIn
import Derived.TacticsInMore
import Derived.LoopNIn
import Derived.LoopIn
import Derived.Lib.LaidTab
import Derived.Lib.AppendIntMem
import Derived.LoopN
import Derived.Maps.OwnIn
namespace Go.Proofs.Ytpgbojpeffilmaa
set_option maxRecDepth 100000
open Go.RowKit Go.Maps Go.ChangeMaps
def valR (v : Value) : Option (DataW Value × List MemPlace) := some (.held v, [])
/-- BLOCK b IS A MAP OF n ENTRIES AT MOST THAT HOLDS WHAT f SAYS. -/
def MapIs (w : World) (b n : Nat) (f : Txt → Option Value) : Prop :=
  ∃ D : DataW Value, w.ownsMap Try.prog 9 valR b n D ∧ ∀ k : Txt, Maps.has D (.string k) = (f k).isSome ∧ ∀ z, D.atKey (.string k) z = match f k with | some v => .held v | none => z
def updF (f : Txt → Option Value) (k : Txt) (v : Value) : Txt → Option Value := fun k' => if k' = k then some v else f k'
theorem lawS : Keyed Try.prog 9 := string_keyed Try.underlying9
theorem keyS {k : Txt} (hk : k.length ≤ 1000000000) : keyOf Try.prog 9 (.string (mkS k)) = some (.string k) := by
  have := Go.WideMaps.keyOf_string_mk Try.underlying9 (s := mkS k) (by rw [mkS_size]; unfold maxLen; omega)
  rwa [mkS_data] at this
theorem MapIs.made (w : World) : MapIs (w.alloc (.map #[] 0)) w.heap.size 0 fun _ => none := ⟨_, World.ownsMap_made w _ _ _, fun _ => ⟨rfl, fun _ => rfl⟩⟩
theorem MapIs.kept {w w' : World} {b n : Nat} {f : Txt → Option Value} {row : Option Nat} (h : MapIs w b n f) (hg : w.grownBy w' row) (hne : some b ≠ row) : MapIs w' b n f := by
  obtain ⟨D, h1, h2⟩ := h
  exact ⟨D, h1.kept hg hne, h2⟩
theorem MapIs.lt {w : World} {b n : Nat} {f : Txt → Option Value} (h : MapIs w b n f) : b < w.heap.size := by
  obtain ⟨D, h1, _⟩ := h
  exact h1.lt
theorem MapIs.block {w w' : World} {b n : Nat} {f : Txt → Option Value} (h : MapIs w b n f) (hb : w'.heap[b]? = w.heap[b]?) : MapIs w' b n f := by
  obtain ⟨D, ⟨es, clock, h0, r⟩, h2⟩ := h
  exact ⟨D, ⟨es, clock, hb.trans h0, r⟩, h2⟩
theorem MapIs.congr {w : World} {b n : Nat} {f g : Txt → Option Value} (h : MapIs w b n f) (e : ∀ k, f k = g k) : MapIs w b n g := (funext e : f = g) ▸ h
theorem MapIs.isMap {w : World} {b n : Nat} {f : Txt → Option Value} (h : MapIs w b n f) : ∃ es clock, w.heap[b]? = some (.map es clock) := by
  obtain ⟨D, ⟨es, clock, h0, r⟩, h2⟩ := h
  exact ⟨es, clock, h0⟩
theorem MapIs.put {w : World} {b n : Nat} {f : Txt → Option Value} (h : MapIs w b n f) {t e : TypeId} (ht : Try.prog.underlying t = some (.map 9 e)) (hn : n ≤ 1000000000000) {k : Txt} (hk : k.length ≤ 1000000000) (v : Value) :
    ∃ w', (Instr.mapUpdate t (.map (some b)) (.string (mkS k)) v).run Try.prog w = .ok () w' ∧ MapIs w' b (n + 1) (updF f k v) ∧ w.grownBy w' (some b) := by
  obtain ⟨D, h1, h2⟩ := h
  obtain ⟨w', e1, e2, e3⟩ := h1.update lawS ht (by unfold maxLen; omega) (keyS hk) (show valR v = some (.held v, []) from rfl)
  refine ⟨w', e1, ⟨_, e2, fun k' => ?_⟩, e3⟩
  have hI := h1.isMap
  by_cases he : k' = k
  · subst he
    have hkl : WideAt.IsKeyLit (.string k') := by simp [WideAt.IsKeyLit]
    rw [updF, if_pos rfl]
    exact ⟨has_put_same hI hkl _, fun z => atKey_put_same hI hkl _ z⟩
  · have hne : (Lit.string k') ≠ .string k := fun e => he (by injection e)
    rw [updF, if_neg he, has_put_other hne]
    refine ⟨(h2 k').1, fun z => ?_⟩
    rw [atKey_put_other hne]
    exact (h2 k').2 z
theorem MapIs.look {w : World} {b n : Nat} {f : Txt → Option Value} (h : MapIs w b n f) {t e : TypeId} (ht : Try.prog.underlying t = some (.map 9 e)) {z : Value} (hz : (zeroValue e).run Try.prog w = .ok z w) {k : Txt} (hk : k.length ≤ 1000000000) :
    (Instr.lookup t (.map (some b)) (.string (mkS k)) false).run Try.prog w = .ok ((f k).getD z) w := by
  obtain ⟨D, h1, h2⟩ := h
  obtain ⟨v, ps, e1, e2⟩ := h1.lookup lawS ht hz (show valR z = some (.held z, []) from rfl) (keyS hk)
  rw [e1]
  rw [(h2 k).2] at e2
  cases hf : f k <;> rw [hf] at e2 <;> simp only [valR, Option.some.injEq, Prod.mk.injEq, DataW.held.injEq] at e2
  · rw [e2.1]; rfl
  · rw [e2.1]; rfl
theorem MapIs.look_ok {w : World} {b n : Nat} {f : Txt → Option Value} (h : MapIs w b n f) {t e : TypeId} (ht : Try.prog.underlying t = some (.map 9 e)) {z : Value} (hz : (zeroValue e).run Try.prog w = .ok z w) {k : Txt} (hk : k.length ≤ 1000000000) :
    (Instr.lookup t (.map (some b)) (.string (mkS k)) true).run Try.prog w = .ok (.tuple #[(f k).getD z, .bool (f k).isSome]) w := by
  obtain ⟨D, h1, h2⟩ := h
  obtain ⟨v, ps, e1, e2⟩ := h1.look_ok lawS ht hz (show valR z = some (.held z, []) from rfl) (keyS hk)
  rw [e1, (h2 k).1]
  rw [(h2 k).2] at e2
  cases hf : f k <;> rw [hf] at e2 <;> simp only [valR, Option.some.injEq, Prod.mk.injEq, DataW.held.injEq] at e2
  · rw [e2.1]; rfl
  · rw [e2.1]; rfl

section
variable (w : World) {ops : Array Oper} {rest : List Oper} {o : Oper} {a : Act} {Q : Exit → Act → World → Prop}
theorem wpList_insert_map (hg : o.guard = none) (m x v : Operand) (t e : TypeId) (hop : o.op = Op.insert t m x v) (ht : Try.prog.underlying t = some (.map 9 e)) (b n : Nat) (f : Txt → Option Value)
    (hm : a.eval m = .map (some b)) (hown : MapIs w b n f) (hn : n ≤ 1000000000000) (k : Txt) (val : Value) (hx : a.eval x = .string (mkS k)) (hk : k.length ≤ 1000000000) (hv : a.eval v = val)
    (hK : ∀ w', MapIs w' b (n + 1) (updF f k val) → w.grownBy w' (some b) → wpList Try.prog ops Q rest (a.put o.dst undef) w') :
    wpList Try.prog ops Q (o :: rest) a w := by
  refine wpList_plain hg fun K' hK' => ?_
  obtain ⟨w', hrun, r1, r2⟩ := hown.put ht hn hk val
  unfold Oper.wp
  simp [execOp, hop, hm, hx, hv, hrun, Result.andThen]
  exact hK' _ _ (hK w' r1 r2)
variable {F : Fence} {nF : Nat}
theorem wpListIn_update_map (hg : o.guard = none) (m x v : Operand) (t e : TypeId) (hop : o.op = Op.mapUpdate t m x v) (ht : Try.prog.underlying t = some (.map 9 e)) (b n : Nat) (f : Txt → Option Value)
    (hm : a.eval m = .map (some b)) (hown : MapIs w b n f) (hn : n ≤ 1000000000000) (k : Txt) (val : Value) (hx : a.eval x = .string (mkS k)) (hk : k.length ≤ 1000000000) (hv : a.eval v = val)
    (hK : ∀ w', MapIs w' b (n + 1) (updF f k val) → w.grownBy w' (some b) → wpListIn F nF Try.prog ops Q rest (a.put o.dst undef) w') :
    wpListIn F nF Try.prog ops Q (o :: rest) a w := by
  refine wpListIn_plain hg fun K' hK' => ?_
  obtain ⟨w', hrun, r1, r2⟩ := hown.put ht hn hk val
  unfold Oper.wpIn
  refine ⟨by simp [Oper.about, hop], ?_⟩
  rw [Oper.semAt_plain F _ _ (by rw [hop]; intro c hc'; cases hc')]
  simp [execOp, hop, hm, hx, hv, hrun, Result.andThen]
  exact hK' _ _ (hK w' r1 r2)
end
end Go.Proofs.Ytpgbojpeffilmaa
