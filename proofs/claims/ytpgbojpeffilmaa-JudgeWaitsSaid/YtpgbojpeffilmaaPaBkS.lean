/-
  What may be told is printed, and read it is the same; are the texts short?
-/
import Derived.Test.YtpgbojpeffilmaaProg
import Derived.Test.YtpgbojpeffilmaaMaPure
import Derived.Test.YtpgbojpeffilmaaPaOrd
import Derived.Test.YtpgbojpeffilmaaPaPrM
import Derived.Test.YtpgbojpeffilmaaPaPrR
import Derived.Test.YtpgbojpeffilmaaRows
import Derived.Lib.Bytealg
import Derived.Lib.ItoaNum
import Derived.Lib.Atoi
import Derived.Lib.Join
import Derived.WalkKit
import Derived.WalkSpells
import Derived.WalkLawsBesides
import Derived.Deep.QuietTactic
import Derived.BigQuiet
import Derived.StillTailTactics
import Derived.Lib.Hide
import Derived.Maps.AppendAt
import Derived.Deep.AppendLies
import Derived.Deep.RegionWith
import Derived.Deep.RegionHeld3
import Derived.Deep.DeepFit
import Derived.Deep.LoopGhost
import Derived.IntWalk
import Derived.Lib.Strings
import Derived.Lib.IndexBytes
import Derived.Laws.BytesString
import Derived.Shelf.Strings.Search1
import Derived.Shelf.Strings.Search2
import Derived.Shelf.Strings.Search3
import Derived.Shelf.LaysM
import Derived.Shelf.Strings.Shaped
import Derived.Shelf.Strings.BuilderK
import Derived.Lib.FrozenHead2
import Derived.Deep.MidRow
import Derived.Laws.ResultCell
import Derived.Lib.ConvBytes
import Derived.Laws.StructEq
import Derived.RangeFuncNested
import Derived.RangeFuncBound
import Derived.RangeFuncCalls
import Derived.RangeFuncLeaves
import Derived.RangeFuncBox
import Derived.RangeFuncWrites
import Derived.Shelf.Abstract
import Derived.Shelf.RegionOpen
import Derived.OwnWalkIn
import Derived.TacticsInMore
import Derived.LoopNIn
import Derived.LoopIn
import Derived.Lib.LaidTab
import Derived.Lib.AppendIntMem
import Derived.LoopN
import Derived.Maps.OwnIn
import Derived.Laws.EntriesVeiled
import Derived.Lib.SmallJoins
namespace Go.Proofs.Ytpgbojpeffilmaa
set_option maxRecDepth 100000
open Go.RowKit Go.Shelf
theorem wordsL_le : ∀ ws : List Wd, (wordsL ws).length ≤ ws.length
  | [] => Nat.le_refl _
  | (b, k, v) :: r => by
    have ih := wordsL_le r
    rw [wordsL]
    split <;> simp <;> omega
theorem join_le {ws : List Wd} {n : Nat} (h : ∀ t ∈ ws, t.2.1.length + 1 + t.2.2.length ≤ n) : (joinC 32 (wordsL ws)).length ≤ ws.length + ws.length * n := by
  have h1 := joinC_len 32 (wordsL ws)
  have h2 := wordsL_le ws
  have h3 := lens_le (wordsL ws) n fun x hx => by
    obtain ⟨t, ht, _, rfl⟩ := wordsL_mem hx
    have := h t ht
    simp only [List.length_append, List.length_cons, List.length_nil]
    omega
  have h4 := Nat.mul_le_mul_right n h2
  omega
theorem printM_len {m : ML} (h : rightM m = 0) : (printM m).length ≤ 1000000 := by
  have hF := fits h
  have hl1 := itoa_len hF.sz.1 hF.sz.2
  have hl2 := itoa_len hF.fo.1 hF.fo.2
  have hl3 := itoa_len hF.by_.1 hF.by_.2
  have hl4 := itoa_len hF.pr.1 hF.pr.2
  have hl5 : (X.encX m.env).length ≤ 300 := by have := (X.encX_len m.env).2; have := hF.env; omega
  have hl6 := printS_le m.un
  have hl7 := hF.body
  have hl8 := hF.ret
  have hl9 := hF.mode
  rw [printM, if_pos h]
  have := join_le (ws := wdM m) (n := 1000) (by
    unfold wdM
    simp only [List.mem_cons, List.not_mem_nil, or_false, forall_eq_or_imp, forall_eq]
    simp [kSIZE, kBODY, kRET, kENV, kHF, kHU, kBY, kPR]
    omega)
  have h8 : (wdM m).length = 8 := rfl
  rw [h8] at this
  omega
theorem printR_len {r : RL} (h : rightR r = 0) : (printR r).length ≤ 1000000 := by
  obtain ⟨hl1, hl2⟩ := rightR_len h
  have hl3 := namesV_len r.no
  have hl4 := (X.encX_len r.oc).2
  rw [printR, if_pos h]
  have := join_le (ws := wdR r) (n := 2000) (by
    unfold wdR
    simp only [List.mem_cons, List.not_mem_nil, or_false, forall_eq_or_imp, forall_eq]
    simp [kNO, kOR]
    omega)
  have h8 : (wdR r).length = 2 := rfl
  rw [h8] at this
  omega
/-- Are the texts short? -/
def smallB (m : ML) (r : RL) : Bool := decide (m.body.length + m.ret.length + m.env.length + m.mode.length ≤ 2000) && decide (r.no.length + r.kind.length + r.oc.length ≤ 2000)
def ShortM (m : ML) : Prop := m.body.length ≤ 281474976710656 ∧ m.ret.length ≤ 281474976710656 ∧ m.env.length ≤ 281474976710656 ∧ m.mode.length ≤ 281474976710656
def ShortR (r : RL) : Prop := r.no.length ≤ 281474976710656 ∧ r.kind.length ≤ 281474976710656 ∧ r.oc.length ≤ 281474976710656
end Go.Proofs.Ytpgbojpeffilmaa
