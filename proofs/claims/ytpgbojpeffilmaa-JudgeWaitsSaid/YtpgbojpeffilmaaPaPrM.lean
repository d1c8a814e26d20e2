/-
  The walk of param's PrintMail.
-/
import Derived.Test.YtpgbojpeffilmaaProg
import Derived.Test.YtpgbojpeffilmaaMaPure
import Derived.Test.YtpgbojpeffilmaaRows
import Derived.Lib.Bytealg
import Derived.Lib.ItoaNum
import Derived.Lib.Atoi
import Derived.Lib.Join
import Derived.WalkKit
import Derived.WalkSpells
import Derived.WalkLawsBesides
import Derived.Deep.QuietTactic
import Derived.BigQuiet
import Derived.StillTailTactics
import Derived.Lib.Hide
import Derived.Maps.AppendAt
import Derived.Deep.AppendLies
import Derived.Deep.RegionWith
import Derived.Deep.RegionHeld3
import Derived.Deep.DeepFit
import Derived.Deep.LoopGhost
import Derived.IntWalk
import Derived.Lib.Strings
import Derived.Lib.IndexBytes
import Derived.Laws.BytesString
import Derived.Shelf.Strings.Search1
import Derived.Shelf.Strings.Search2
import Derived.Shelf.Strings.Search3
import Derived.Shelf.LaysM
import Derived.Shelf.Strings.Shaped
import Derived.Shelf.Strings.BuilderK
import Derived.Lib.FrozenHead2
import Derived.Deep.MidRow
import Derived.Laws.ResultCell
import Derived.Lib.ConvBytes
import Derived.Laws.StructEq
import Derived.RangeFuncNested
import Derived.RangeFuncBound
import Derived.RangeFuncCalls
import Derived.RangeFuncLeaves
import Derived.RangeFuncBox
import Derived.RangeFuncWrites
import Derived.Shelf.Abstract
import Derived.Shelf.RegionOpen
import Derived.OwnWalkIn
import Derived.TacticsInMore
import Derived.LoopNIn
import Derived.LoopIn
import Derived.Lib.LaidTab
import Derived.Lib.AppendIntMem
import Derived.LoopN
import Derived.Maps.OwnIn
import Derived.Laws.EntriesVeiled
import Derived.Lib.SmallJoins
namespace Go.Proofs.Ytpgbojpeffilmaa
set_option maxRecDepth 100000
open Go.RowKit Go.Shelf
theorem itoa_len {n : Int} (h1 : -999999999 ≤ n) (h2 : n ≤ 999999999) : (Lib.itoa n).length ≤ 20 := by
  by_cases h : n < 0
  · rw [Lib.itoa, if_pos h]
    have := (dd_all 8 n.natAbs (by omega)).2.1
    simp
    omega
  · rw [Lib.itoa, if_neg h]
    have := (dd_all 8 n.toNat (by omega)).2.1
    omega
theorem printS_le (t : Int) : (printS t).length ≤ 20 := by
  cases h : timB t
  · unfold printS
    rw [h]
    simp
  · exact Nat.le_of_eq (back_x h).2.2.2
/-- What a message that may be told holds. -/
structure Fits (m : ML) : Prop where
  sz : -999999999 ≤ m.sz ∧ m.sz ≤ 999999999
  fo : -999999999 ≤ m.fo ∧ m.fo ≤ 999999999
  by_ : -999999999 ≤ m.by_ ∧ m.by_ ≤ 999999999
  pr : -999999999 ≤ m.pr ∧ m.pr ≤ 999999999
  body : m.body.length ≤ 100
  ret : m.ret.length ≤ 100
  env : m.env.length ≤ 100
  mode : m.mode.length ≤ 100
theorem in_num {b : Bool} {n x y : Int} (hx : -999999999 ≤ x) (hy : y ≤ 999999999) (h : inB b n x y = true) (h0 : (b || n == 0) = true) : -999999999 ≤ n ∧ n ≤ 999999999 := by
  cases b
  · have : n = 0 := by simpa using h0
    omega
  · unfold inB at h
    simp at h
    omega
theorem fits {m : ML} (h : rightM m = 0) : Fits m := by
  obtain ⟨⟨hn, hu, hr, he⟩, _⟩ := rightM_iff.1 h
  unfold rangB at hr
  unfold unB at hu
  unfold namedB isBody isRet isMode at hn
  simp only [Bool.and_eq_true] at hr hu
  have hlv : -999999999 ≤ leastV m.mode := by unfold leastV; split <;> omega
  refine ⟨in_num (by omega) (by omega) hr.1.1.1.1 hu.1.1.1.1, in_num (by omega) (by omega) hr.1.1.1.2 hu.1.1.1.2, in_num hlv (by omega) hr.1.2 hu.1.2, in_num (by omega) (by omega) hr.2 hu.2, ?_, ?_, he, ?_⟩
  all_goals
    simp only [Bool.and_eq_true, Bool.or_eq_true, beq_iff_eq] at hn
  · rcases hn.1.1 with h0 | h0 | h0 <;> rw [h0] <;> decide
  · rcases hn.1.2 with h0 | h0 | h0 <;> rw [h0] <;> decide
  · rcases hn.2 with h0 | h0
    · rcases h0.2 with ((h1 | h1) | h1) | h1 <;> rw [h1] <;> decide
    · rw [h0.2]; decide
end Go.Proofs.Ytpgbojpeffilmaa
