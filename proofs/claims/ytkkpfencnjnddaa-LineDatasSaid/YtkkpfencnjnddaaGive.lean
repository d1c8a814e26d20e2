/-
  The walk of Feed's closure: a line is given.
-/
import Derived.Test.YtkkpfencnjnddaaWhole
namespace Go.Proofs.Ytkkpfencnjnddaa
open Go.RowKit
theorem Try.info49 : (Try.prog.info? 49).map (fun i => (i.zero, i.size, i.bytes)) = some (some (.agg #[.string ⟨#[]⟩, .int .i64 0]), 2, 24) := by kernel_rfl

/-- Lines as the model's cells: a text and a number each. -/
def lnsV (L : List (List UInt8 × Int)) : List Value := L.flatMap fun l => [.string ⟨l.1.toArray⟩, .int .i64 l.2]
theorem lnsV_append (L M : List (List UInt8 × Int)) : lnsV (L ++ M) = lnsV L ++ lnsV M := by simp [lnsV]
theorem lnsV_length (L : List (List UInt8 × Int)) : (lnsV L).length = L.length * 2 := by
  induction L with
  | nil => rfl
  | cons l L ih => simp [lnsV] at ih ⊢; omega

/-- What holds while Feed runs: the cutter; the lines that came; nothing older has turned but the cutter's own. -/
structure FS (W0 : World) (B g cb bb most : Nat) (r0 : Option Nat) (v : Value) (kept : List UInt8) (pend : Nat) (last : UInt8) (lines : Nat) (cv : Value) (L : List (List UInt8 × Int)) (w : World) : Prop where
  cut : Cut B w g v most kept pend last lines
  came : w.heap[cb]? = some (.cells #[cv] 29 (0, 0))
  box : w.heap[bb]? = some (.cells #[.pointer (some ⟨g, 0, none⟩)] 25 (0, 0))
  row : w.ownsRow W0.heap.size 49 2 cv L.length (lnsV L)
  only : Only g r0 v.ownBlock W0 w
  hcb : W0.heap.size ≤ cb
  hbb : W0.heap.size ≤ bb
  hg : g < W0.heap.size

theorem own_of {w w' : World} {B : Nat} {e : TypeId} {size n : Nat} {v : Value} {xs : List Value} (h : w.ownsRow B e size v n xs) (hk : ∀ k, v.ownBlock = some k → w'.heap[k]? = w.heap[k]?) : w'.ownsRow B e size v n xs := by
  refine ⟨h.1, ?_⟩
  rcases h.2 with h0 | ⟨k, cap, cur, hv, hB, hh, h1, h2, h3, h4⟩
  · exact .inl h0
  · exact .inr ⟨k, cap, cur, hv, hB, (hk k (by rw [hv]; rfl)).trans hh, h1, h2, h3, h4⟩
/-- Two rows of unlike elements do not share a block. -/
theorem rows_ne {w : World} {B B' : Nat} {e e' : TypeId} {size size' n n' : Nat} {v v' : Value} {xs xs' : List Value} (h : w.ownsRow B e size v n xs) (h' : w.ownsRow B' e' size' v' n' xs') (hne : e ≠ e') (k : Nat) (hk : v.ownBlock = some k) : v'.ownBlock ≠ some k := by
  rcases h.2 with ⟨rfl, _⟩ | ⟨g, cap, cur, rfl, _, hg, _⟩
  · simp [Value.ownBlock] at hk
  · have : g = k := by simpa [Value.ownBlock] using hk
    subst this
    exact row_ne h' hg (Ne.symm hne)

/-- The lines' row has turned, and new blocks were laid. -/
structure GMid (W0 : World) (B g cb bb most : Nat) (r0 : Option Nat) (v : Value) (kept : List UInt8) (pend : Nat) (last : UInt8) (lines : Nat) (cv : Value) (w1 : World) : Prop where
  cut : Cut B w1 g v most kept pend last lines
  came : w1.heap[cb]? = some (.cells #[cv] 29 (0, 0))
  box : w1.heap[bb]? = some (.cells #[.pointer (some ⟨g, 0, none⟩)] 25 (0, 0))
  only : Only g r0 v.ownBlock W0 w1

theorem gmid {W0 : World} {B g cb bb most pend lines : Nat} {r0 : Option Nat} {kept : List UInt8} {last : UInt8} {v cv : Value} {L : List (List UInt8 × Int)} {w W w1 : World} (h : FS W0 B g cb bb most r0 v kept pend last lines cv L w) (hb : Below w.heap.size w W) (hg : W.grownBy w1 cv.ownBlock) :
    GMid W0 B g cb bb most r0 v kept pend last lines cv w1 := by
  have hh : ∀ k o, w.heap[k]? = some o → cv.ownBlock ≠ some k → w1.heap[k]? = some o := fun k o hk hne => by
    have hW := (hb.block k (lt5 hk)).trans hk
    exact (hg.block k (lt5 hW) (fun e => hne e.symm)).trans hW
  refine ⟨⟨hh _ _ h.cut.blk (row_ne h.row h.cut.blk (by decide)), own_of h.cut.own fun k hk => ?_, h.cut.ge⟩, hh _ _ h.came (row_ne h.row h.came (by decide)), hh _ _ h.box (row_ne h.row h.box (by decide)), ?_⟩
  · have hne := rows_ne h.cut.own h.row (by decide) k hk
    rcases h.cut.own.2 with ⟨e, _⟩ | ⟨k', cap, cur, e, _, hk', _⟩
    · rw [e] at hk; simp [Value.ownBlock] at hk
    · rw [e] at hk
      have : k' = k := by simpa [Value.ownBlock] using hk
      subst this
      rw [hk', hh _ _ hk' hne]
  · refine ⟨hg.os.trans (hb.os.trans h.only.os), hg.tape.trans (hb.tape.trans h.only.tape), hg.output.trans (hb.output.trans h.only.output), Nat.le_trans h.only.size (Nat.le_trans hb.size hg.size), fun k hk h1 h2 => ?_, h.only.row⟩
    have hkw : k < w.heap.size := Nat.lt_of_lt_of_le hk h.only.size
    refine (hg.block k (Nat.lt_of_lt_of_le hkw hb.size) ?_).trans ((hb.block k hkw).trans (h.only.block k hk h1 h2))
    intro e
    have := (h.row.lt k e.symm).1
    omega

theorem give_end {W0 : World} {B g cb bb most pend lines : Nat} {r0 : Option Nat} {kept : List UInt8} {last : UInt8} {v cv v1 : Value} {L : List (List UInt8 × Int)} {w w1 : World} (h : FS W0 B g cb bb most r0 v kept pend last lines cv L w) (m : GMid W0 B g cb bb most r0 v kept pend last lines cv w1) (t : List UInt8) (x : Int)
    (ho : w1.ownsRow W0.heap.size 49 2 v1 (L.length + 1) (lnsV L ++ [.string ⟨t.toArray⟩, .int .i64 x])) :
    FS W0 B g cb bb most r0 v kept pend last (lines + 1) v1 (L ++ [(t, x)]) ((w1.setCell ⟨cb, 0, none⟩ v1).setCell ⟨g, 4, none⟩ (.int .i64 ((lines : Int) + 1))) := by
  have n1 : cb ≠ g := by have := h.hcb; have := h.hg; omega
  have n2 : bb ≠ g := by have := h.hbb; have := h.hg; omega
  have n3 : cb ≠ bb := fun e => by have h1 := m.came; have h2 := m.box; rw [e, h2] at h1; simp at h1
  have k1 : v.ownBlock ≠ some cb := row_ne m.cut.own m.came (by decide)
  have k2 : v.ownBlock ≠ some g := row_ne m.cut.own m.cut.blk (by decide)
  have k3 : v1.ownBlock ≠ some cb := row_ne ho m.came (by decide)
  have k4 : v1.ownBlock ≠ some g := row_ne ho m.cut.blk (by decide)
  refine ⟨⟨?_, ownsRow_setCell_other (ownsRow_setCell_other m.cut.own k1 _) k2 _, m.cut.ge⟩, ?_, ?_, ?_, ?_, h.hcb, h.hbb, h.hg⟩
  · exact set5 ((Below.heap_setCell _ ⟨cb, 0, none⟩ _ _ (Ne.symm n1)).trans m.cut.blk) 4 _
  · exact (Below.heap_setCell _ ⟨g, 4, none⟩ _ _ n1).trans (set5 m.came 0 _)
  · exact (Below.heap_setCell _ ⟨g, 4, none⟩ _ _ n2).trans ((Below.heap_setCell _ ⟨cb, 0, none⟩ _ _ (Ne.symm n3)).trans m.box)
  · have e1 : (L ++ [(t, x)]).length = L.length + 1 := by simp
    rw [e1, lnsV_append]
    exact ownsRow_setCell_other (ownsRow_setCell_other ho k3 _) k4 _
  · exact (m.only.setNew (p := ⟨cb, 0, none⟩) h.hcb _).setG 4 _

set_option maxHeartbeats 1000000 in
theorem give_x (W0 : World) (B g cb bb most pend lines : Nat) (r0 : Option Nat) (kept : List UInt8) (last : UInt8) (v cv : Value) (L : List (List UInt8 × Int)) (w : World) (t : List UInt8) (x : Int) (h : FS W0 B g cb bb most r0 v kept pend last lines cv L w) (hL : L.length ≤ 1000000000) (hln : lines ≤ 1000000000000) :
    Calls Try.prog 23 #[.agg #[.string ⟨t.toArray⟩, .int .i64 x], .pointer (some ⟨cb, 0, none⟩), .pointer (some ⟨bb, 0, none⟩)] w fun e w' => e = .returned (.tuple #[]) ∧ ∃ cv', FS W0 B g cb bb most r0 v kept pend last (lines + 1) cv' (L ++ [(t, x)]) w' := by
  obtain ⟨i0, hi, hz0, hz1, hz2⟩ := info_parts Try.info49
  have c0 : w.cell? ⟨cb, 0, none⟩ = some cv := cell5 h.came 0
  have c1 : w.cell? ⟨bb, 0, none⟩ = some (.pointer (some ⟨g, 0, none⟩)) := cell5 h.box 0
  have hlc := lt5 h.came
  have hlb := lt5 h.box
  have hlg := lt5 h.cut.blk
  have H := Lib.hid h
  have HS := Lib.hid h.only.size
  clear h
  go_enter Try.func23, Try.ntmps23
  go_wp2_with (first
      | (at_builtin
         refine wpList_append_own_at _ rfl (.tmp 4) (.tmp 6) _ rfl W0.heap.size 49 i0 (.agg #[.string ⟨#[]⟩, .int .i64 0]) 2 24 Try.underlying29 hi hz0 hz1 hz2 rfl (by decide) cv L.length (lnsV L) rfl
           ((H.out.row.alloc _).alloc _) ⟨w.heap.size + 1, 0, none⟩ 1 1 [.string ⟨t.toArray⟩, .int .i64 x] rfl rfl ?c1 ?c2 ?c3 ?c4 ?c5 ?_))
  case c1 =>
    intro j u hu
    match j with
    | 0 => simp at hu; subst hu; exact World.cell?_alloc_at _ _ _ _ (by simp)
    | 1 => simp at hu; subst hu; exact World.cell?_alloc_at _ _ _ _ (by simp)
    | j + 2 => simp at hu
  case c2 =>
    intro u hu
    simp at hu
    rcases hu with rfl | rfl <;> rfl
  case c3 => unfold maxLen; omega
  case c4 => omega
  case c5 => have := HS.out; simp; omega
  intro v1 w1 hown1 hg1 _ _
  obtain ⟨k1, cap1, rfl, _, _⟩ := hown1.form (by omega)
  have HO1 := Lib.hid hown1
  have hm := gmid H.out (((Below.refl _ _).alloc (Nat.le_refl _) _).alloc (by simp) _) hg1
  have d0 : w1.cell? ⟨cb, 0, none⟩ = some cv := cell5 hm.came 0
  have d1 : w1.cell? ⟨bb, 0, none⟩ = some (.pointer (some ⟨g, 0, none⟩)) := cell5 hm.box 0
  have d2 : w1.cell? ⟨g, 4, none⟩ = some (.int .i64 (lines : Int)) := cell5 hm.cut.blk 4
  have e0 := free5 hm.came 0
  have e1 := free5 hm.cut.blk 4
  have nbc : bb ≠ cb := fun e => by have h1 := hm.came; have h2 := hm.box; rw [← e, h2] at h1; simp at h1
  have ngc : g ≠ cb := by have := H.out.hcb; have := H.out.hg; omega
  have HM := Lib.hid hm
  clear hown1 hg1 hm c0 c1
  go_wp2_with fail
  go_end0
  exact ⟨rfl, _, give_end H.out HM.out t x HO1.out⟩
end Go.Proofs.Ytkkpfencnjnddaa
