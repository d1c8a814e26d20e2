/-
  Rows of texts of the call's own, and strings.Join walked.
-/
import Derived.Test.YtpgbojpeffilmaaProg
import Derived.Test.YtpgbojpeffilmaaMaBuild
import Derived.Test.YtpgbojpeffilmaaMaPure
import Derived.Test.YtpgbojpeffilmaaRows
import Derived.WalkKit
import Derived.WalkSpells
import Derived.WalkLawsBesides
import Derived.Deep.QuietTactic
import Derived.BigQuiet
import Derived.StillTailTactics
import Derived.Lib.Hide
import Derived.Maps.AppendAt
import Derived.Deep.AppendLies
import Derived.Deep.RegionWith
import Derived.Deep.RegionHeld3
import Derived.Deep.DeepFit
import Derived.Deep.LoopGhost
import Derived.IntWalk
import Derived.Lib.Strings
import Derived.Lib.IndexBytes
import Derived.Laws.BytesString
import Derived.Shelf.Strings.Search1
import Derived.Shelf.Strings.Search2
import Derived.Shelf.Strings.Search3
import Derived.Shelf.LaysM
import Derived.Shelf.Strings.Shaped
import Derived.Shelf.Strings.BuilderK
import Derived.Lib.FrozenHead2
import Derived.Deep.MidRow
import Derived.Laws.ResultCell
import Derived.Lib.Bytealg
import Derived.Lib.ItoaNum
import Derived.Lib.Atoi
import Derived.Lib.Join
import Derived.Lib.SmallJoins
namespace Go.Proofs.Ytpgbojpeffilmaa
set_option maxRecDepth 100000
open Go.RowKit Go.Shelf
/-- Texts as the model's cells. -/
def strsV (l : List Txt) : List Value := l.map fun s => .string (mkS s)
theorem strsV_length (l : List Txt) : (strsV l).length = l.length := by simp [strsV]
theorem strsV_append (l m : List Txt) : strsV (l ++ m) = strsV l ++ strsV m := by simp [strsV]
theorem Try.infoT : (Try.prog.info? 9).map (fun i => (i.zero, i.size, i.bytes)) = some (some (.string { data := #[] }), 1, 16) := by kernel_rfl
theorem news_one (w : World) (x : Txt) : ∀ j u, (strsV [x])[j]? = some u → (w.alloc (.cells #[.string (mkS x)] 9)).cell? ((⟨w.heap.size, 0, none⟩ : Addr).add j) = some u := by
  intro j u hj
  match j with
  | 0 => simp [strsV] at hj; subst hj; exact World.cell?_alloc_at _ _ _ _ rfl
  | j + 1 => simp [strsV] at hj
/-- append of one text of a new block onto a row of texts of the call's own. -/
theorem app_strs {w : World} {ops : Array Oper} {rest : List Oper} {o : Oper} {a : Act} {Q : Exit → Act → World → Prop} (hgd : o.guard = none) (s x : Operand)
    (ho : o.op = .call { callee := .builtin .append, args := #[s, x], argTypes := #[40, 40] }) (base : Nat) (v : Value) (l : List Txt) (hs : a.eval s = v) (hown : w.ownsRow base 9 1 v l.length (strsV l))
    (ad : Addr) (m c : Nat) (news : List Txt) (hx : a.eval x = .slice (some ad) m c) (hl : news.length = m) (hnews : ∀ j u, (strsV news)[j]? = some u → w.cell? (ad.add j) = some u) (h9 : l.length + m ≤ 100000000) (hbase : base ≤ w.heap.size)
    (h : ∀ v' w', w'.ownsRow base 9 1 v' (l ++ news).length (strsV (l ++ news)) → w.grownBy w' v.ownBlock → wpList Try.prog ops Q rest (a.put o.dst v') w') :
    wpList Try.prog ops Q (o :: rest) a w := by
  obtain ⟨i0, hi, hz0, hz1, hz2⟩ := info_parts Try.infoT
  refine wpList_append_own_at (w := w) hgd s x 40 ho base 9 i0 (.string { data := #[] }) 1 16 Try.underlying40 hi hz0 hz1 hz2 rfl (by decide) v l.length (strsV l) hs hown ad m c (strsV news) hx (by rw [strsV_length]; omega) hnews ?_ (by unfold maxLen; omega) (by omega) hbase ?_
  · intro u hu
    obtain ⟨b, _, rfl⟩ := List.mem_map.1 hu
    rfl
  · intro v' w' h1 h2 _ _
    refine h v' w' ?_ h2
    rw [List.length_append, hl, strsV_append]
    exact h1
/-- The same at a step of a region that draws its order. -/
theorem step_strs {w : World} {ops : Array Oper} {o : Oper} {a : Act} {K : Act → World → Prop} {Q : Exit → Act → World → Prop} {E : Prop} (hgd : o.guard = none) (s x : Operand)
    (ho : o.op = .call { callee := .builtin .append, args := #[s, x], argTypes := #[40, 40] }) (base : Nat) (v : Value) (l : List Txt) (hs : a.eval s = v) (hown : w.ownsRow base 9 1 v l.length (strsV l))
    (ad : Addr) (m c : Nat) (news : List Txt) (hx : a.eval x = .slice (some ad) m c) (hl : news.length = m) (hnews : ∀ j u, (strsV news)[j]? = some u → w.cell? (ad.add j) = some u) (hm : 0 < m) (h9 : l.length + m ≤ 100000000) (hbase : base ≤ w.heap.size)
    (h : ∀ v' w', w'.ownsRow base 9 1 v' (l ++ news).length (strsV (l ++ news)) → w.grownBy w' v.ownBlock → K (a.put o.dst v') w') :
    if Region.wanted o (yielded ops a.tmps) = true then Oper.wp Try.prog o a w K Q else E := by
  obtain ⟨i0, hi, hz0, hz1, hz2⟩ := info_parts Try.infoT
  refine step_append_lies w hgd s x 40 ho base 9 i0 (.string { data := #[] }) 1 16 Try.underlying40 hi hz0 hz1 hz2 rfl (by decide) v l.length (strsV l) hs hown ad m c (strsV news) hx (by rw [strsV_length]; omega) hnews ?_ hm (by unfold maxLen; omega) (by omega) hbase _ rfl ?_
  · intro u hu
    obtain ⟨b, _, rfl⟩ := List.mem_map.1 hu
    rfl
  · intro g cap w' h1 h2 _ _
    refine h _ w' ?_ h2
    rw [List.length_append, hl, strsV_append]
    exact h1
theorem strs_grown {B : Nat} {w0 w w' : World} {v : Value} {l : List Txt} (hB : B ≤ w.heap.size) (hb : Below B w0 w) (hown : w.ownsRow B 9 1 v l.length (strsV l)) {o : Obj} (hg : (w.alloc o).grownBy w' v.ownBlock) : Below B w0 w' :=
  (hb.alloc hB o).grown hg (by simp; omega) (fun k hk => (hown.lt k hk).1)
theorem strs_nil (w : World) (B : Nat) : w.ownsRow B 9 1 (.slice none 0 0) ([] : List Txt).length (strsV []) := ⟨rfl, .inl ⟨rfl, rfl⟩⟩
end Go.Proofs.Ytpgbojpeffilmaa
