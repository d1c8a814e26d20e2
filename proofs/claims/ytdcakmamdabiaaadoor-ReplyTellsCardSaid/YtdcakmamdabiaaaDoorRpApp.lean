/-
  append of texts onto a new row, and onto that once more.
-/
import Derived.Test.YtdcakmamdabiaaaDoorRpAwake
namespace Go.Proofs.YtdcakmamdabiaaaDoor
set_option maxRecDepth 100000
open Go.RowKit
theorem app_new {w : World} {ops : Array Oper} {rest : List Oper} {o : Oper} {a : Act} {Q : Exit → Act → World → Prop} (hgd : o.guard = none) (s x : Operand)
    (ho : o.op = .call { callee := .builtin .append, args := #[s, x], argTypes := #[22, 22] }) (b : Nat) (hs : a.eval s = .slice (some ⟨b, 0, none⟩) 0 0) (hb0 : b = w.heap.size) (u : Value) (news : List Txt) (hx : a.eval x = u) (hu : TxtsAt w u news) (h9 : news.length ≤ 1000)
    (h : ∀ v' w', w'.ownsRow w.heap.size 9 1 v' news.length (strsV news) → Below w.heap.size w w' → wpList Tryd.prog ops Q rest (a.put o.dst v') w') : wpList Tryd.prog ops Q (o :: rest) a (w.alloc (.cells #[] 9)) := by
  subst hb0
  refine app_txts hgd s x ho w.heap.size (.slice (some ⟨w.heap.size, 0, none⟩) 0 0) [] hs (World.ownsRow_lit w #[] 0 (Nat.le_refl _) (Nat.zero_le _) rfl) u news hx (hu.below (below_box w _)) (by simp; omega) (by simp) ?_
  intro v' w' h1 h2 _
  refine h v' w' (by simpa using h1) ?_
  exact ((Below.refl _ w).alloc (Nat.le_refl _) _).grown h2 (by simp) (fun k hk => by simp [Value.ownBlock] at hk; omega)
theorem app_more {w0 w : World} {B : Nat} {ops : Array Oper} {rest : List Oper} {o : Oper} {a : Act} {Q : Exit → Act → World → Prop} (hgd : o.guard = none) (s x : Operand)
    (ho : o.op = .call { callee := .builtin .append, args := #[s, x], argTypes := #[22, 22] }) (v : Value) (l : List Txt) (hs : a.eval s = v) (hown : w.ownsRow B 9 1 v l.length (strsV l)) (hB : B ≤ w.heap.size) (hb : Below B w0 w) (u : Value) (news : List Txt) (hx : a.eval x = u) (hu : TxtsAt w u news) (h9 : l.length + news.length ≤ 1000)
    (h : ∀ v' w', w'.ownsRow B 9 1 v' (l ++ news).length (strsV (l ++ news)) → Below B w0 w' → wpList Tryd.prog ops Q rest (a.put o.dst v') w') : wpList Tryd.prog ops Q (o :: rest) a w := by
  refine app_txts hgd s x ho B v l hs hown u news hx hu (by omega) hB ?_
  intro v' w' h1 h2 _
  exact h v' w' h1 (hb.grown h2 hB (fun k hk => (hown.lt k hk).1))
end Go.Proofs.YtdcakmamdabiaaaDoor
