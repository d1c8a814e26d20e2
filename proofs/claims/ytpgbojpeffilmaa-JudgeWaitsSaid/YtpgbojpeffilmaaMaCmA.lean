/-
  CmSmall · CmPath · CmRead · CmBox, in one text.
-/
import Derived.Test.YtpgbojpeffilmaaProg
import Derived.Test.YtpgbojpeffilmaaCmMath
import Derived.Test.YtpgbojpeffilmaaMaBuild
import Derived.Test.YtpgbojpeffilmaaMaPt
import Derived.Test.YtpgbojpeffilmaaMaPure
import Derived.Test.YtpgbojpeffilmaaPaDoes
import Derived.Test.YtpgbojpeffilmaaPaMap
import Derived.Test.YtpgbojpeffilmaaPaSmall
import Derived.Test.YtpgbojpeffilmaaPtMath
import Derived.Test.YtpgbojpeffilmaaRows
import Derived.Lib.Bytealg
import Derived.Lib.ItoaNum
import Derived.Lib.Atoi
import Derived.Lib.Join
import Derived.Lib.Strings
import Derived.Lib.TrimByte
import Derived.WalkKit
import Derived.WalkSpells
import Derived.WalkLawsBesides
import Derived.Deep.QuietTactic
import Derived.BigQuiet
import Derived.StillTailTactics
import Derived.Lib.Hide
import Derived.Maps.AppendAt
import Derived.Deep.AppendLies
import Derived.Deep.RegionWith
import Derived.Deep.RegionHeld3
import Derived.Deep.DeepFit
import Derived.Deep.LoopGhost
import Derived.IntWalk
import Derived.Lib.IndexBytes
import Derived.Laws.BytesString
import Derived.Shelf.Strings.Search1
import Derived.Shelf.Strings.Search2
import Derived.Shelf.Strings.Search3
import Derived.Shelf.LaysM
import Derived.Shelf.Strings.Shaped
import Derived.Shelf.Strings.BuilderK
import Derived.Lib.FrozenHead2
import Derived.Deep.MidRow
import Derived.Laws.ResultCell
import Derived.Lib.ConvBytes
import Derived.Laws.StructEq
import Derived.RangeFuncNested
import Derived.RangeFuncBound
import Derived.RangeFuncCalls
import Derived.RangeFuncLeaves
import Derived.RangeFuncBox
import Derived.RangeFuncWrites
import Derived.Shelf.Abstract
import Derived.Shelf.RegionOpen
import Derived.OwnWalkIn
import Derived.TacticsInMore
import Derived.LoopNIn
import Derived.LoopIn
import Derived.Lib.LaidTab
import Derived.Lib.AppendIntMem
import Derived.LoopN
import Derived.Maps.OwnIn
import Derived.Laws.EntriesVeiled
/-
  The walks of command's small functions: capitals, Verb, hostless, isText, readPath's closure, the two maps.
-/
namespace Go.Proofs.Ytpgbojpeffilmaa
set_option maxRecDepth 100000
open Go.RowKit Go.Shelf
theorem up_of {x : UInt8} (h1 : 97 ≤ x.toNat) (h2 : x.toNat ≤ 122) : smlB x = true := by simp [smlB, h1, h2]
theorem not_put {W w : World} {l : List UInt8} {j : Nat} {x : UInt8} (hX : l[j]? = some x) (h : smlB x = false) (hI : SI W w l (upUp l j)) : SI W w l (upUp l (j + 1)) := by
  rw [(upUp_succ hX).2, up_not h]
  have : (upUp l j).set j x = upUp l j := by
    apply List.ext_getElem?
    intro i
    rw [List.getElem?_set]
    split
    · rename_i e; subst e
      split
      · exact (upUp_succ hX).1.symm
      · rename_i h; rw [upUp_length] at h
        exact absurd (List.getElem?_eq_some_iff.1 hX).1 h
    · rfl
  rw [this]; exact hI
/- The maps. -/
def mapF (N : Nat → Nat) (v : Txt) : Option Value := if kindV v = 0 then none else some (.func (.func (N (kindV v))) #[] #[])
def verbsV : List Txt := [vHELO, vEHLO, vMAIL, vRCPT, vDATA, vRSET, vQUIT, vNOOP, vVRFY, vHELP]
theorem map_all (g : Txt → Option Value) (N : Nat → Nat) (h1 : ∀ v, v ∉ verbsV → g v = none) (h2 : ∀ v ∈ verbsV, g v = some (.func (.func (N (kindV v))) #[] #[])) (v : Txt) : g v = mapF N v := by
  unfold mapF
  by_cases hv : v ∈ verbsV
  · rw [h2 v hv, if_neg]
    unfold verbsV at hv
    simp only [List.mem_cons, List.not_mem_nil, or_false] at hv
    rcases hv with rfl | rfl | rfl | rfl | rfl | rfl | rfl | rfl | rfl | rfl <;> decide
  · rw [h1 v hv, if_pos]
    exact Classical.byContradiction fun hk => hv (kind_cases hk)
theorem upd_no {f : Txt → Option Value} {k v : Txt} {x : Value} (h : v ≠ k) : updF f k x v = f v := if_neg h
theorem upd_yes {f : Txt → Option Value} {k : Txt} {x : Value} : updF f k x k = some x := if_pos rfl
end Go.Proofs.Ytpgbojpeffilmaa
/-
  The walk of command's readPath.
-/
namespace Go.Proofs.Ytpgbojpeffilmaa
set_option maxRecDepth 100000
open Go.RowKit Go.Shelf
/-- The box of the path that is answered. -/
structure QB (W : World) (p : P.Pth) (w : World) : Prop where
  res : w.heap[W.heap.size]? = some (.cells #[.string (mkS p.1), .string (mkS p.2)] 30 (0, 0))
  below : Below W.heap.size W w
theorem QB.next {W w w' : World} {p : P.Pth} (h : QB W p w) (hb : Below w.heap.size w w') : QB W p w' := ⟨(hb.block _ (ltOf h.res)).trans h.res, below_next h.below hb⟩
theorem QB.new (w : World) : QB w ([], []) (w.alloc (.cells #[.string { data := #[] }, .string { data := #[] }] 30)) := ⟨newOf w _, P.below_box w _⟩
theorem QB.set {W w : World} {p : P.Pth} (h : QB W p w) (q : P.Pth) : QB W q ((w.setCell ⟨W.heap.size, 0, none⟩ (.string (mkS q.1))).setCell ⟨W.heap.size, 1, none⟩ (.string (mkS q.2))) :=
  ⟨setOf (setOf h.res 0 _) 1 _, (h.below.setCell (p := ⟨W.heap.size, 0, none⟩) (Nat.le_refl _) _).setCell (p := ⟨W.heap.size, 1, none⟩) (Nat.le_refl _) _⟩
def RpPost (b hd : Txt) (w : World) (e : Ending) (w' : World) : Prop :=
  e = .returned (.tuple #[.agg #[.string (mkS (rpV b hd).1.1), .string (mkS (rpV b hd).1.2)], .string (mkS (rpV b hd).2.1), .int .i64 (rpV b hd).2.2]) ∧ Below w.heap.size w w'
theorem rp_no {b hd : Txt} {w w' : World} {n : Int} (h : rpV b hd = (([], []), [], n)) (hb : Below w.heap.size w w') :
    RpPost b hd w (.returned (.tuple #[.agg #[.string { data := #[] }, .string { data := #[] }], .string { data := #[] }, .int .i64 n])) w' := by unfold RpPost; rw [h]; exact ⟨rfl, hb⟩
theorem rp_yes {b hd : Txt} {w w' : World} {p : P.Pth} {r : Txt} (h : rpV b hd = (p, r, 0)) (hb : Below w.heap.size w w') :
    RpPost b hd w (.returned (.tuple #[.agg #[.string (mkS p.1), .string (mkS p.2)], .string (mkS r), .int .i64 0])) w' := by unfold RpPost; rw [h]; exact ⟨rfl, hb⟩
end Go.Proofs.Ytpgbojpeffilmaa
/-
  The walks of command's read functions: what each verb's function tells block mb of what stands behind the verb.
-/
namespace Go.Proofs.Ytpgbojpeffilmaa
set_option maxRecDepth 100000
open Go.RowKit Go.Shelf
/-- A command's cells. -/
def CC (c : CL) : Array Value := #[.string (mkS c.verb), .string (mkS c.arg), .string (mkS c.p.1), .string (mkS c.p.2), .bool c.m.hs, .bool c.m.hf, .bool c.m.hu, .bool c.m.hb, .bool c.m.hp, .int .i64 c.m.sz, .int .i64 c.m.fo, .int .i64 c.m.un, .int .i64 c.m.by_, .int .i64 c.m.pr, .string (mkS c.m.body), .string (mkS c.m.ret), .string (mkS c.m.env), .string (mkS c.m.mode), .string (mkS c.r.no), .string (mkS c.r.kind), .string (mkS c.r.oc)]
theorem Told.next {mb : Nat} {cs : Array Value} {t : TypeId} {w w1 w' : World} (h : Told mb cs t w w1) (hb : Below w1.heap.size w1 w') : Told mb cs t w w' := ⟨h.1.next (.of hb), (hb.block mb (ltOf h.2)).trans h.2⟩
theorem told_new {mb : Nat} {cs : Array Value} {t : TypeId} {w : World} (h : w.heap[mb]? = some (.cells cs t (0, 0))) : Told mb cs t w w := ⟨Apart.refl _ _ _, h⟩
theorem cutP_le (l : Txt) : (cutP 32 l).1.length ≤ l.length := by
  unfold cutP
  split
  · simp
  · exact Nat.le_refl _
theorem rp_len (b hd : Txt) : (rpV b hd).2.1.length ≤ b.length := by
  unfold rpV
  split
  · split
    · rename_i h0
      split
      · obtain ⟨_, k, hk, _⟩ := P.parse_right (s := b.drop hd.length) (x := (P.parseV (b.drop hd.length)).1) (rest := (P.parseV (b.drop hd.length)).2.1) (Prod.ext rfl (Prod.ext rfl h0))
        have h1 := cutP_le (P.parseV (b.drop hd.length)).2.1
        have h2 := congrArg List.length hk
        rw [List.length_append, List.length_drop] at h2
        show (cutP 32 (P.parseV (b.drop hd.length)).2.1).1.length ≤ b.length
        omega
      · exact Nat.zero_le _
    · exact Nat.zero_le _
  · exact Nat.zero_le _
/-- A path in a box of its own, beside block mb. -/
structure TQ (mb : Nat) (cs : Array Value) (t : TypeId) (w : World) (g : Nat) (p : P.Pth) (w' : World) : Prop where
  told : Told mb cs t w w'
  box : w'.heap[g]? = some (.cells #[.string (mkS p.1), .string (mkS p.2)] 30 (0, 0))
  ne : g ≠ mb
theorem TQ.next {mb : Nat} {cs : Array Value} {t : TypeId} {w w1 w' : World} {g : Nat} {p : P.Pth} (h : TQ mb cs t w g p w1) (hb : Below w1.heap.size w1 w') : TQ mb cs t w g p w' := ⟨h.told.next hb, (hb.block _ (ltOf h.box)).trans h.box, h.ne⟩
theorem TQ.new {mb : Nat} {cs : Array Value} {t : TypeId} {w w1 : World} (h : Told mb cs t w w1) (p : P.Pth) : TQ mb cs t w w1.heap.size p (w1.alloc (.cells #[.string (mkS p.1), .string (mkS p.2)] 30)) :=
  ⟨h.next (P.below_box w1 _), newOf w1 _, by have := ltOf h.2; omega⟩
end Go.Proofs.Ytpgbojpeffilmaa
/-
  What command's Parse and Print stand on: a command in its box beside the box of what is answered.
-/
namespace Go.Proofs.Ytpgbojpeffilmaa
set_option maxRecDepth 100000
open Go.RowKit Go.Shelf
theorem one_CC (c : CL) : (CC c).all (·.oneCell') = true := by kernel_rfl
theorem whole_CC (c d : CL) : CC d = ((CC c).toList.take 0 ++ (CC d).toList ++ (CC c).toList.drop (0 + (CC d).size)).toArray := by kernel_rfl
theorem vb_le (l : Txt) : (vbV l).length ≤ l.length := by
  have := pre_le 32 l
  simpa [vbV, upL] using this
/-- What Parse answers. -/
def CpPost (s : Txt) (w : World) (e : Ending) (w' : World) : Prop := e = .returned (.tuple #[.agg (CC (cpV s)), .int .i64 (cpE s)]) ∧ Below w.heap.size w w'
end Go.Proofs.Ytpgbojpeffilmaa
