/-
  'x = append(x, c.Feed(p)...)', again and again: what holds of the cutter and of the lines.
-/
import Derived.Test.YtkkpfencnjnddaaLawBack
namespace Go.Proofs.Ytkkpfencnjnddaa
open Go.RowKit

/-- append of lines that the call owns, none too, onto lines that it owns. -/
theorem app_lines {w : World} {ops : Array Oper} {rest : List Oper} {o : Oper} {a : Act} {Q : Exit → Act → World → Prop} (hgd : o.guard = none) (s x : Operand)
    (ho : o.op = .call { callee := .builtin .append, args := #[s, x], argTypes := #[29, 29] }) (base base' : Nat) (v u : Value) (L M : List (List UInt8 × Int)) (hs : a.eval s = v) (hx : a.eval x = u)
    (hown : w.ownsRow base 49 2 v L.length (lnsV L)) (hsrc : w.ownsRow base' 49 2 u M.length (lnsV M)) (h9 : L.length + M.length ≤ 1000000000) (hbase : base ≤ w.heap.size)
    (h : ∀ v' w', w'.ownsRow base 49 2 v' (L ++ M).length (lnsV (L ++ M)) → w.grownBy w' v.ownBlock → wpList Try.prog ops Q rest (a.put o.dst v') w') :
    wpList Try.prog ops Q (o :: rest) a w := by
  obtain ⟨i0, hi, hz0, hz1, hz2⟩ := info_parts Try.info49
  obtain ⟨A, c, rfl⟩ := own_slice hsrc
  have hone : ∀ u ∈ lnsV M, u.oneCell' = true := by
    intro u hu
    obtain ⟨l, _, hl⟩ := List.mem_flatMap.1 hu
    simp at hl
    rcases hl with rfl | rfl <;> rfl
  have hfin : ∀ v' w', w'.ownsRow base 49 2 v' (L.length + M.length) (lnsV L ++ lnsV M) → w.grownBy w' v.ownBlock → wpList Try.prog ops Q rest (a.put o.dst v') w' := fun v' w' h1 h2 => h v' w' (by rw [List.length_append, lnsV_append]; exact h1) h2
  cases A with
  | some ad =>
    refine wpList_append_own_at w hgd s x 29 ho base 49 i0 (.agg #[.string ⟨#[]⟩, .int .i64 0]) 2 24 Try.underlying29 hi hz0 hz1 hz2 rfl (by decide) v L.length (lnsV L) hs hown ad M.length c (lnsV M) hx (lnsV_length M) ?_ hone (by unfold maxLen; omega) (by omega) hbase fun v' w' h1 h2 _ _ => hfin v' w' h1 h2
    rcases hsrc.2 with ⟨e, _⟩ | ⟨g, cap, cur, e, _⟩
    · cases e
    · injection e with e _ _
      injection e with e
      subst e
      exact hsrc.cells rfl
  | none =>
    have hm : M.length = 0 ∧ c = 0 := by
      rcases hsrc.2 with ⟨e, h0⟩ | ⟨g, cap, cur, e, _⟩
      · injection e with _ _ e3; exact ⟨h0, e3⟩
      · injection e with e _ _; cases e
    obtain ⟨hm, rfl⟩ := hm
    have hM : M = [] := List.eq_nil_of_length_eq_zero hm
    subst hM
    refine wpList_plain hgd fun K hK' => ?_
    have hrun := run_append_owned_none (P := Try.prog) w base 29 o.type 49 i0 2 Try.underlying29 hi v L.length (lnsV L) hown
    unfold Oper.wp
    simp [execOp, ho, resolve, invoke, builtin, hs, hx, hrun, Result.andThen]
    exact hK' _ _ (hfin v w (by simpa [lnsV] using hown) (World.grownBy.refl _ _))

/-- The cutter was new in W0; fed these bytes it gave the lines that lie in xv; nothing else that lay in W0 has turned. -/
structure FA (W0 : World) (B g most : Nat) (bs : List UInt8) (xv : Value) (w : World) : Prop where
  cut : ∃ v, Cut B w g v most (feed most st0 bs).1.kept (feed most st0 bs).1.pend (feed most st0 bs).1.last (feed most st0 bs).1.lines ∧ Only g none v.ownBlock W0 w
  row : w.ownsRow W0.heap.size 49 2 xv (feed most st0 bs).2.length (lnsV (feed most st0 bs).2)
  hg : g < W0.heap.size
  hB : B ≤ W0.heap.size

/-- Behind Feed: the lines of one more text lie in o. -/
structure FO (W0 : World) (B g most : Nat) (bs more : List UInt8) (xv o : Value) (w : World) : Prop where
  cut : ∃ v, Cut B w g v most (feed most st0 (bs ++ more)).1.kept (feed most st0 (bs ++ more)).1.pend (feed most st0 (bs ++ more)).1.last (feed most st0 (bs ++ more)).1.lines ∧ Only g none v.ownBlock W0 w
  row : w.ownsRow W0.heap.size 49 2 xv (feed most st0 bs).2.length (lnsV (feed most st0 bs).2)
  out : ∃ b, w.ownsRow b 49 2 o (feed most (feed most st0 bs).1 more).2.length (lnsV (feed most (feed most st0 bs).1 more).2)
  hg : g < W0.heap.size
  hB : B ≤ W0.heap.size

theorem FA.size {W0 : World} {B g most : Nat} {bs : List UInt8} {xv : Value} {w : World} (h : FA W0 B g most bs xv w) : W0.heap.size ≤ w.heap.size := by
  obtain ⟨v, _, ho⟩ := h.cut; exact ho.size
theorem FO.size {W0 : World} {B g most : Nat} {bs more : List UInt8} {xv o : Value} {w : World} (h : FO W0 B g most bs more xv o w) : W0.heap.size ≤ w.heap.size := by
  obtain ⟨v, _, ho⟩ := h.cut; exact ho.size
theorem fa_new {B most : Nat} {g : Nat} {W0 : World} (hc : Cut B W0 g (.slice none 0 0) most [] 0 0 0) (hB : B ≤ W0.heap.size) : FA W0 B g most [] (.slice none 0 0) W0 :=
  ⟨⟨_, hc, Only.refl _ _ _⟩, ⟨rfl, .inl ⟨rfl, rfl⟩⟩, lt5 hc.blk, hB⟩

theorem FA.feed {W0 : World} {B g most : Nat} {bs : List UInt8} {xv : Value} {w W : World} (h : FA W0 B g most bs xv w) (hb : Below w.heap.size w W) (A : Option Addr) (n c : Nat) (ps : List ByteArray) (hst : Strs W A n ps) (hav : ∀ ad, A = some ad → 0 < n → w.heap.size ≤ ad.block ∨ ad.block < W0.heap.size ∧ ad.block ≠ g)
    (h2 : 2 ≤ most) (h6 : most ≤ 65536) (hl : bs.length + (joinB ps).length ≤ 100000000) (hn : n ≤ 100000000) :
    Calls Try.prog 11 #[.pointer (some ⟨g, 0, none⟩), .slice A n c] W fun e w' => ∃ o, e = .returned o ∧ FO W0 B g most bs (joinB ps) xv o w' := by
  obtain ⟨v, hc, ho⟩ := h.cut
  have hfb := feed_count most bs st0
  have hs0 : st0.pend = 0 ∧ st0.lines = 0 := ⟨rfl, rfl⟩
  have hsz := ho.size
  have hcW := hc.below hb
  refine (feed_x B g most n c (Ytkkpfencnjnddaa.feed most st0 bs).1 v A ps W hcW ((inv0 most).feed bs) h2 h6 (Nat.le_trans h.hB (Nat.le_trans hsz hb.size)) (by omega) (by omega) hst ?_ (by omega)).mono ?_
  · intro ad hA h0
    have hvk : ∀ k, v.ownBlock = some k → W0.heap.size ≤ k ∧ k < w.heap.size := fun k hk => by
      refine ⟨?_, (hc.own.lt k hk).2⟩
      rcases ho.row with e | ⟨m, e, hm⟩
      · rw [e] at hk; cases hk
      · rw [e] at hk; injection hk with hk; omega
    have hgl := h.hg
    rcases hav ad hA h0 with h1 | ⟨h1, h3⟩
    · exact ⟨by omega, fun e => by have := hvk _ e; omega⟩
    · exact ⟨h3, fun e => by have := hvk _ e; omega⟩
  · rintro e w' ⟨v', o, rfl, hc', hr', ho'⟩
    have e1 := feed_append most bs (joinB ps) st0
    refine ⟨o, rfl, ⟨⟨v', by rw [e1]; exact hc', ?_⟩, ?_, ⟨_, hr'⟩, h.hg, h.hB⟩⟩
    · have hW : Only g none v.ownBlock W0 W := ho.below hb
      exact hW.trans ho'
    · refine own_of (own_below h.row hb) fun k hk => ?_
      have hlt := (own_below h.row hb).lt k hk
      have hgl := h.hg
      exact ho'.block k hlt.2 (by omega) fun e => rows_ne (own_below h.row hb) hcW.own (by decide) k hk e.symm

theorem FO.append {W0 : World} {B g most : Nat} {bs more : List UInt8} {xv o xv' : Value} {w w' : World} (h : FO W0 B g most bs more xv o w) (hr : w'.ownsRow W0.heap.size 49 2 xv' ((feed most st0 bs).2 ++ (feed most (feed most st0 bs).1 more).2).length (lnsV ((feed most st0 bs).2 ++ (feed most (feed most st0 bs).1 more).2))) (hg : w.grownBy w' xv.ownBlock) :
    FA W0 B g most (bs ++ more) xv' w' := by
  obtain ⟨v, hc, ho⟩ := h.cut
  refine ⟨⟨v, ⟨heap_grown hc.blk hg (fun e => row_ne h.row hc.blk (by decide) e.symm), own_of hc.own fun k hk => ?_, hc.ge⟩, ?_⟩, by rw [feed_append]; exact hr, h.hg, h.hB⟩
  · exact hg.block k (hc.own.lt k hk).2 fun e => rows_ne hc.own h.row (by decide) k hk e.symm
  · refine ⟨hg.os.trans ho.os, hg.tape.trans ho.tape, hg.output.trans ho.output, Nat.le_trans ho.size hg.size, fun k hk h1 h2 => ?_, ho.row⟩
    refine (hg.block k (Nat.lt_of_lt_of_le hk ho.size) fun e => ?_).trans (ho.block k hk h1 h2)
    have := (h.row.lt k e.symm).1
    omega
theorem FA.keeps {W0 : World} {B g most : Nat} {bs : List UInt8} {xv : Value} {w : World} (h : FA W0 B g most bs xv w) : ∀ k, k < W0.heap.size → k ≠ g → w.heap[k]? = W0.heap[k]? := by
  obtain ⟨v, _, ho⟩ := h.cut
  exact fun k hk hg => ho.block k hk hg (fun e => by cases e)
theorem FA.toBelow {W0 : World} {B g most : Nat} {bs : List UInt8} {xv : Value} {w : World} (h : FA W0 B g most bs xv w) (hg : B ≤ g) : Below B W0 w := by
  obtain ⟨v, _, ho⟩ := h.cut
  exact ho.toBelow h.hB hg (fun k e => by cases e)
theorem Cut.aside {B g g' most pend lines : Nat} {kept : List UInt8} {last : UInt8} {v : Value} {r' : Option Nat} {cs : Array Value} {w w' : World} (h : Cut B w g v most kept pend last lines) (hg' : w.heap[g']? = some (.cells cs 53 (0, 0))) (hne : g ≠ g') (ho : Only g' none r' w w') : Cut B w' g v most kept pend last lines :=
  ⟨(ho.block g (lt5 h.blk) hne (fun e => by cases e)).trans h.blk, own_of h.own fun k hk => ho.block k (h.own.lt k hk).2 (fun e => row_ne h.own hg' (by decide) (by rw [hk, e])) (fun e => by cases e), h.ge⟩
theorem own_aside {w w' : World} {B g' n size : Nat} {e : TypeId} {v : Value} {xs : List Value} {r' : Option Nat} {cs : Array Value} (h : w.ownsRow B e size v n xs) (he : e ≠ 53) (hg' : w.heap[g']? = some (.cells cs 53 (0, 0))) (ho : Only g' none r' w w') : w'.ownsRow B e size v n xs :=
  own_of h fun k hk => ho.block k (h.lt k hk).2 (fun e' => row_ne h hg' he (by rw [hk, e'])) (fun e' => by cases e')
end Go.Proofs.Ytkkpfencnjnddaa
