/-
  CmPrA · CmPrT, in one text.
-/
import Derived.Test.YtpgbojpeffilmaaProg
import Derived.Test.YtpgbojpeffilmaaCmEq
import Derived.Test.YtpgbojpeffilmaaCmMath
import Derived.Test.YtpgbojpeffilmaaMaBuild
import Derived.Test.YtpgbojpeffilmaaMaPure
import Derived.Test.YtpgbojpeffilmaaPtMath
import Derived.Test.YtpgbojpeffilmaaRows
import Derived.Lib.Bytealg
import Derived.Lib.ItoaNum
import Derived.Lib.Atoi
import Derived.Lib.Join
import Derived.Lib.Strings
import Derived.Lib.TrimByte
import Derived.WalkKit
import Derived.WalkSpells
import Derived.WalkLawsBesides
import Derived.Deep.QuietTactic
import Derived.BigQuiet
import Derived.StillTailTactics
import Derived.Lib.Hide
import Derived.Maps.AppendAt
import Derived.Deep.AppendLies
import Derived.Deep.RegionWith
import Derived.Deep.RegionHeld3
import Derived.Deep.DeepFit
import Derived.Deep.LoopGhost
import Derived.IntWalk
import Derived.Lib.IndexBytes
import Derived.Laws.BytesString
import Derived.Shelf.Strings.Search1
import Derived.Shelf.Strings.Search2
import Derived.Shelf.Strings.Search3
import Derived.Shelf.LaysM
import Derived.Shelf.Strings.Shaped
import Derived.Shelf.Strings.BuilderK
import Derived.Lib.FrozenHead2
import Derived.Deep.MidRow
import Derived.Laws.ResultCell
import Derived.Lib.ConvBytes
import Derived.Laws.StructEq
import Derived.RangeFuncNested
import Derived.RangeFuncBound
import Derived.RangeFuncCalls
import Derived.RangeFuncLeaves
import Derived.RangeFuncBox
import Derived.RangeFuncWrites
import Derived.Shelf.Abstract
import Derived.Shelf.RegionOpen
import Derived.OwnWalkIn
import Derived.TacticsInMore
import Derived.LoopNIn
import Derived.LoopIn
import Derived.Lib.LaidTab
import Derived.Lib.AppendIntMem
import Derived.LoopN
import Derived.Maps.OwnIn
import Derived.Laws.EntriesVeiled
import Derived.Lib.SmallJoins
/-
  What stands behind a verb, printed: the walks of command's print functions that need no path.
-/
namespace Go.Proofs.Ytpgbojpeffilmaa
set_option maxRecDepth 100000
open Go.RowKit Go.Shelf
/-- A load of many cells in a region that draws its order. -/
theorem wpQuiet_load_blk {P : Program} {ops : Array Oper} {C : World → Prop} {Q : Act → Prop} {a : Act} {o : Oper} {rest : List Oper} (hw : Region.wanted o (yielded ops a.tmps) = true) (ty : TypeId) (x : Operand) (ho : o.op = .load ty x) (b off : Nat) (vs : Array Value) (hx : a.eval x = .pointer (some ⟨b, off, none⟩))
    (hC : ∀ w, C w → (loadVar ty ⟨b, off, none⟩).run P w = .ok (.agg vs) w) (h : wpQuiet P ops C Q rest (a.put o.dst (.agg vs))) : wpQuiet P ops C Q (o :: rest) a :=
  BigFrame.wpQuiet_want hw fun _ hK => ⟨_, fun w hw' => by
    unfold Oper.quietAt execOp
    simp only [ho, hx, Instr.loadAt, Instr.sureAddr, Sem.run_bind, Sem.run_pure, Result.andThen_ok, hC w hw']
    exact ⟨rfl, rfl⟩, hK _ h⟩
/-- Are the texts short enough? -/
structure Fit (c : CL) : Prop where
  verb : c.verb.length ≤ 1000000000
  arg : c.arg.length ≤ 1000000000
  p1 : c.p.1.length ≤ 1000000000
  p2 : c.p.2.length ≤ 1000000000
  kind : c.r.kind.length ≤ 1000000000
noncomputable def bW (k : Nat) (c : CL) : Txt := if bE k c = 0 then bV k c else []
theorem says_no {k : Nat} {c : CL} {w w' : World} {n : Int} (h : bE k c = n) (hn : n ≠ 0) (hb : Below w.heap.size w w') : Ending.returned (.tuple #[.string { data := #[] }, .int .i64 n]) = .returned (.tuple #[.string (mkS (bW k c)), .int .i64 (bE k c)]) ∧ Below w.heap.size w w' := by
  rw [bW, h, if_neg hn]; exact ⟨rfl, hb⟩
theorem says_yes {k : Nat} {c : CL} {w w' : World} {s : ByteArray} (h : bE k c = 0) (hs : s = mkS (bV k c)) (hb : Below w.heap.size w w') : Ending.returned (.tuple #[.string s, .int .i64 0]) = .returned (.tuple #[.string (mkS (bW k c)), .int .i64 (bE k c)]) ∧ Below w.heap.size w w' := by
  rw [bW, h, if_pos rfl, hs]; exact ⟨rfl, hb⟩
theorem bE4 (c : CL) : bE 4 c = if eqCL c (headC c.verb) = true then 0 else 2 := by
  unfold bE is4; rw [if_neg (by decide), if_neg (by decide), if_neg (by decide), if_pos rfl]
  by_cases h : c = headC c.verb
  · rw [if_pos h, if_pos (eqCL_iff.2 h)]
  · rw [if_neg h, if_neg (fun h' => h (eqCL_iff.1 h'))]
theorem bE5 (c : CL) : bE 5 c = if (eqCL c { headC c.verb with arg := c.arg } && txtB c.arg) = true then 0 else 2 := by
  unfold bE is5; rw [if_neg (by decide), if_neg (by decide), if_neg (by decide), if_neg (by decide), if_pos rfl]
  by_cases h : c = { headC c.verb with arg := c.arg } ∧ txtB c.arg = true
  · rw [if_pos h, if_pos (by rw [Bool.and_eq_true]; exact ⟨eqCL_iff.2 h.1, h.2⟩)]
  · rw [if_neg h, if_neg (fun h' => h (by rw [Bool.and_eq_true] at h'; exact ⟨eqCL_iff.1 h'.1, h'.2⟩))]
theorem bE6 (c : CL) : bE 6 c = if c.arg = [] then 2 else bE 5 c := by
  rw [bE5]
  unfold bE is5; rw [if_neg (by decide), if_neg (by decide), if_neg (by decide), if_neg (by decide), if_neg (by decide)]
  by_cases ha : c.arg = []
  · rw [if_pos ha, if_pos ha]
  · rw [if_neg ha, if_neg ha]
    by_cases h : c = { headC c.verb with arg := c.arg } ∧ txtB c.arg = true
    · rw [if_pos h, if_pos (by rw [Bool.and_eq_true]; exact ⟨eqCL_iff.2 h.1, h.2⟩)]
    · rw [if_neg h, if_neg (fun h' => h (by rw [Bool.and_eq_true] at h'; exact ⟨eqCL_iff.1 h'.1, h'.2⟩))]
theorem bE1 (c : CL) : bE 1 c = if (eqCL c { headC c.verb with arg := P.domainV c.arg } && P.domainE c.arg == 0) = true then 0 else 2 := by
  unfold bE; rw [if_pos rfl]
  by_cases h : c = { headC c.verb with arg := P.domainV c.arg } ∧ P.domainE c.arg = 0
  · rw [if_pos h, if_pos (by rw [Bool.and_eq_true, beq_iff_eq]; exact ⟨eqCL_iff.2 h.1, h.2⟩)]
  · rw [if_neg h, if_neg (fun h' => h (by rw [Bool.and_eq_true, beq_iff_eq] at h'; exact ⟨eqCL_iff.1 h'.1, h'.2⟩))]
theorem bE2 (c : CL) : bE 2 c = if (eqCL c { headC c.verb with p := c.p, m := c.m } && !hostlB c.p) = true then (if P.rightE c.p = 0 then rightM c.m else P.rightE c.p) else 2 := by
  unfold bE is2; rw [if_neg (by decide), if_pos rfl]
  by_cases h : c = { headC c.verb with p := c.p, m := c.m } ∧ hostlB c.p = false
  · rw [if_pos h]
    refine (if_pos ?_).symm
    rw [Bool.and_eq_true, h.2]
    exact ⟨eqCL_iff.2 h.1, rfl⟩
  · rw [if_neg h]
    refine (if_neg fun h' => h ?_).symm
    rw [Bool.and_eq_true] at h'
    exact ⟨eqCL_iff.1 h'.1, by simpa using h'.2⟩
theorem bE3 (c : CL) : bE 3 c = if (eqCL c { headC c.verb with p := c.p, r := c.r } && !P.nullB c.p) = true then (if P.rightE c.p = 0 then rightR c.r else P.rightE c.p) else 2 := by
  unfold bE is3; rw [if_neg (by decide), if_neg (by decide), if_pos rfl]
  by_cases h : c = { headC c.verb with p := c.p, r := c.r } ∧ P.nullB c.p = false
  · rw [if_pos h]
    refine (if_pos ?_).symm
    rw [Bool.and_eq_true, h.2]
    exact ⟨eqCL_iff.2 h.1, rfl⟩
  · rw [if_neg h]
    refine (if_neg fun h' => h ?_).symm
    rw [Bool.and_eq_true] at h'
    exact ⟨eqCL_iff.1 h'.1, by simpa using h'.2⟩
theorem domV_le (l : Txt) : (P.domainV l).length ≤ l.length := by
  unfold P.domainV
  split
  · simp [P.smallL]
  · exact Nat.zero_le _
end Go.Proofs.Ytpgbojpeffilmaa
/-
  The walks of command's printText and printSomeText.
-/
namespace Go.Proofs.Ytpgbojpeffilmaa
set_option maxRecDepth 100000
open Go.RowKit Go.Shelf
end Go.Proofs.Ytpgbojpeffilmaa
