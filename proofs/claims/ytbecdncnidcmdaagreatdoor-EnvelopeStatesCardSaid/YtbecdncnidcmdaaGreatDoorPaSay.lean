/-
  What PrintMail says of a message: the closure walked.
-/
import Derived.Test.YtbecdncnidcmdaaGreatDoorPaRight
import Derived.Test.YtbecdncnidcmdaaGreatDoorPaJoin
import Derived.Test.YtbecdncnidcmdaaGreatDoorPaNames
namespace Go.Proofs.YtbecdncnidcmdaaGreatDoor
set_option maxRecDepth 100000
open Go.RowKit Go.Shelf
/-- A message in its box, block g; a row of texts of the call's own behind the cell, block c, that tells it. -/
structure MS (W : World) (g c : Nat) (m : ML) (u v : Value) (L : List Txt) (w : World) : Prop where
  mb : MBox W g m w
  cell : w.heap[c]? = some (.cells #[u] 51 (0, 0))
  row : w.ownsRow (c + 1) 9 1 v L.length (strsV L)
  gW : W.heap.size ≤ g
  gc : g < c
section
variable {W w w' : World} {g c : Nat} {m : ML} {u v : Value} {L : List Txt}
theorem MS.size (h : MS W g c m u v L w) : c + 1 ≤ w.heap.size := ltOf h.cell
theorem MS.next (h : MS W g c m u v L w) (hb : Below w.heap.size w w') : MS W g c m u v L w' := ⟨h.mb.next hb, (hb.block _ (ltOf h.cell)).trans h.cell, own_below h.row hb, h.gW, h.gc⟩
theorem MS.app {v' : Value} {L' : List Txt} {o : Obj} (h : MS W g c m u v L w) (hown : w'.ownsRow (c + 1) 9 1 v' L'.length (strsV L')) (hg : (w.alloc o).grownBy w' v.ownBlock) : MS W g c m u v' L' w' := by
  have hl := h.size
  have hgc := h.gc
  have hne : ∀ k, k ≤ c → some k ≠ v.ownBlock := fun k hk e => by have := (h.row.lt k e.symm).1; omega
  refine ⟨⟨?_, ?_⟩, ?_, hown, h.gW, hgc⟩
  · exact (hg.block g (by simp; omega) (hne g (by omega))).trans ((Below.heap_alloc w o g (by omega)).trans h.mb.box)
  · exact (h.mb.below.alloc h.mb.below.size o).grown hg (by have := h.mb.below.size; simp; omega) (fun k hk => by have := (h.row.lt k hk).1; have := h.gW; omega)
  · exact (hg.block c (by simp; omega) (hne c (by omega))).trans ((Below.heap_alloc w o c (by omega)).trans h.cell)
theorem MS.set (h : MS W g c m u v L w) (x : Value) : MS W g c m x v L (w.setCell ⟨c, 0, none⟩ x) := by
  have hgc := h.gc
  refine ⟨⟨(Below.heap_setCell w ⟨c, 0, none⟩ x g (by show g ≠ c; omega)).trans h.mb.box, h.mb.below.setCell (p := ⟨c, 0, none⟩) (by show W.heap.size ≤ c; have := h.gW; omega) x⟩, ?_, ?_, h.gW, hgc⟩
  · have := setOf h.cell 0 x
    exact this
  · refine ⟨h.row.1, ?_⟩
    rcases h.row.2 with h0 | ⟨k, cap, cur, hv, hB, hk, h1⟩
    · exact .inl h0
    · exact .inr ⟨k, cap, cur, hv, hB, (Below.heap_setCell w ⟨c, 0, none⟩ x k (by show k ≠ c; omega)).trans hk, h1⟩
theorem MS.drew (h : MS W g c m u v L w) : MS W g c m u v L w.drew := ⟨h.mb.drew, h.cell, h.row, h.gW, h.gc⟩
theorem MS.cc (h : MS W g c m u v L w) : w.cell? ⟨c, 0, none⟩ = some u := cellOf h.cell 0
theorem MS.cf (h : MS W g c m u v L w) : w.frozen? ⟨c, 0, none⟩ = false := freeOf h.cell 0
end
/-- One more word, if it is said. -/
def sayL (b : Bool) (k s : Txt) (L : List Txt) : List Txt := if b then L ++ [k ++ [61] ++ s] else L
theorem sayL_len (b : Bool) (k s : Txt) (L : List Txt) : (sayL b k s L).length ≤ L.length + 1 ∧ Lib.lens (sayL b k s L) ≤ Lib.lens L + (k.length + 1 + s.length) := by
  unfold sayL
  cases b
  · exact ⟨by simp, by simp⟩
  · refine ⟨by simp, ?_⟩
    simp [Lib.lens]
    omega
theorem wordsL_fold : ∀ (ws : List Wd) (L : List Txt), ws.foldl (fun L t => sayL t.1 t.2.1 t.2.2 L) L = L ++ wordsL ws
  | [], L => by simp [wordsL]
  | (b, k, s) :: r, L => by
    rw [List.foldl_cons, wordsL_fold r, sayL, wordsL]
    cases b <;> simp
set_option maxHeartbeats 4000000 in
theorem say_x {W : World} {g c : Nat} {m : ML} {v : Value} {L : List Txt} {w : World} (h : MS W g c m v v L w) (b : Bool) (k s : Txt) (hk : k.length ≤ 1000) (hs : s.length ≤ 1000000) (hL : L.length ≤ 1000) :
    Calls Tryz.prog 263 #[.bool b, .string (mkS k), .string (mkS s), .pointer (some ⟨c, 0, none⟩)] w fun e w' => e = .returned (.tuple #[]) ∧ ∃ v', MS W g c m v' v' (sayL b k s L) w' := by
  have H := Lib.hid h
  clear h
  cases b
  · go_enter Tryz.func263, Tryz.ntmps263
    go_wp2_with fail
    go_end0
    exact ⟨rfl, _, H.out⟩
  · have c0 := H.out.cc
    obtain ⟨A, cp, rfl⟩ := strs_slice H.out.row
    have hcat : mkS k ++ { data := #[61] } ++ mkS s = mkS (k ++ [61] ++ s) := by rw [show ({ data := #[61] } : ByteArray) = mkS [61] from rfl, mkS_cat, mkS_cat]
    have hz1 : (mkS k).size ≤ 1000 := by rw [mkS_size]; omega
    have hz2 : (mkS s).size ≤ 1000000 := by rw [mkS_size]; omega
    have hy1 : ¬ 9223372036854775807 < (mkS k).size + 1 := by omega
    have hy2 : ¬ 9223372036854775807 < (mkS k).size + 1 + (mkS s).size := by omega
    have HL := Lib.hid (show sayL true k s L = L ++ [k ++ [61] ++ s] from rfl)
    generalize k ++ [61] ++ s = x at hcat HL
    go_enter Tryz.func263, Tryz.ntmps263
    go_wp2_with (at_builtin; refine app_strs rfl (.tmp 8) (.tmp 13) rfl (c + 1) (.slice A L.length cp) L rfl (H.out.row.alloc _) ⟨w.heap.size, 0, none⟩ 1 1 [x] rfl rfl (news_one w x) (by omega) (by have := H.out.size; simp; omega) ?_; intro v1 w3 hown hg; have H3 := Lib.hid (MS.app (L' := L ++ [x]) H.out hown hg); clear hown hg c0; have c0 := H3.out.cc; have f0 := H3.out.cf; obtain ⟨A1, cp1, hv1⟩ := strs_slice H3.out.row; subst hv1)
    go_end0
    exact ⟨rfl, .slice A1 (L.length + 1) cp1, by rw [HL.out]; have h3 := H3.out; rw [show (L ++ [x]).length = L.length + 1 by simp] at h3; exact h3.set _⟩
end Go.Proofs.YtbecdncnidcmdaaGreatDoor
