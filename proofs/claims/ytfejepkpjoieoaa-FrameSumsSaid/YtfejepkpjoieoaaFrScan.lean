/-
  The walks of Scan's closure and of Scan.
-/
import Derived.Test.YtfejepkpjoieoaaFrFirst
namespace Go.Proofs.Ytfejepkpjoieoaa
set_option maxRecDepth 100000
open Go.RowKit
/-- Scan's two boxes: the bytes, and how far they are read; nothing older has turned. -/
structure SB (W : World) (l : Txt) (a : Nat) (w : World) : Prop where
  text : w.heap[W.heap.size]? = some (.cells #[.string (mkS l)] 9 (0, 0))
  at_ : w.heap[W.heap.size + 1]? = some (.cells #[.int .i64 (a : Int)] 3 (0, 0))
  below : Below W.heap.size W w
/-- What stands behind the boxes stays. -/
structure Beh (W w w' : World) : Prop where
  size : w.heap.size ≤ w'.heap.size
  block : ∀ k, W.heap.size + 2 ≤ k → k < w.heap.size → w'.heap[k]? = w.heap[k]?
theorem Beh.below {W w w' : World} (h : Below w.heap.size w w') : Beh W w w' := ⟨h.size, fun k _ hk => h.block k hk⟩
theorem Beh.trans {W a b c : World} (h : Beh W a b) (g : Beh W b c) : Beh W a c := ⟨Nat.le_trans h.size g.size, fun k h1 h2 => (g.block k h1 (Nat.lt_of_lt_of_le h2 h.size)).trans (h.block k h1 h2)⟩
theorem Beh.row {W w w' : World} (h : Beh W w w') {v : Value} {l : List Txt} (o : w.ownsRow (W.heap.size + 2) 9 1 v l.length (strsV l)) : w'.ownsRow (W.heap.size + 2) 9 1 v l.length (strsV l) :=
  own_of o fun k hk => h.block k (o.lt k hk).1 (o.lt k hk).2
theorem SB.next {W w w' : World} {l : Txt} {a : Nat} (h : SB W l a w) (hb : Below w.heap.size w w') : SB W l a w' :=
  ⟨(hb.block _ (ltOf h.text)).trans h.text, (hb.block _ (ltOf h.at_)).trans h.at_, below_next h.below hb⟩
theorem SB.drew {W w : World} {l : Txt} {a : Nat} (h : SB W l a w) : SB W l a w.drew := ⟨h.text, h.at_, ⟨h.below.os, h.below.tape, h.below.output, h.below.size, h.below.block⟩⟩
theorem SB.set {W w : World} {l : Txt} {a b : Nat} (h : SB W l a w) : SB W l b (w.setCell ⟨W.heap.size + 1, 0, none⟩ (.int .i64 (b : Int))) :=
  ⟨(Below.heap_setCell w ⟨W.heap.size + 1, 0, none⟩ _ _ (by simp)).trans h.text, setOf h.at_ 0 _, h.below.setCell (p := ⟨W.heap.size + 1, 0, none⟩) (Nat.le_succ _) _⟩
theorem Beh.set {W w : World} (v : Value) : Beh W w (w.setCell ⟨W.heap.size + 1, 0, none⟩ v) :=
  ⟨by simp [World.setCell], fun k h1 _ => Below.heap_setCell w ⟨W.heap.size + 1, 0, none⟩ _ k (by simp; omega)⟩
theorem Beh.drew {W w : World} : Beh W w w.drew := ⟨Nat.le_refl _, fun _ _ _ => rfl⟩
def NextYes (W : World) (l : Txt) (a : Nat) (r : Txt) (w : World) (e : Ending) (w' : World) : Prop :=
  e = .returned (.tuple #[.string (mkS r), .bool true]) ∧ SB W l (a + (r.length + 10)) w' ∧ Beh W w w'
def NextNo (W : World) (l : Txt) (a : Nat) (w : World) (e : Ending) (w' : World) : Prop :=
  ∃ x : Txt, e = .returned (.tuple #[.string (mkS x), .bool false]) ∧ SB W l a w' ∧ Beh W w w'
set_option maxHeartbeats 1000000 in
theorem next_no (W : World) (l : Txt) (a : Nat) (w : World) (h : SB W l a w) (ha : a ≤ l.length) (hl : l.length ≤ 1000000000) (hf : firstF (l.drop a) = none) :
    Calls Try.prog 24 #[.pointer (some ⟨W.heap.size, 0, none⟩), .pointer (some ⟨W.heap.size + 1, 0, none⟩)] w (NextNo W l a w) := by
  have hms := mkS_size l
  have c0 := cellOf h.text 0
  have c1 := cellOf h.at_ 0
  have he2 : (mkS l).extract a l.length = mkS (l.drop a) := by rw [mkS_extract, List.take_length]
  have HF := Lib.hid (fun w => first_no (l.drop a) w (by rw [List.length_drop]; omega) hf)
  have H := Lib.hid h
  clear h hf
  generalize l.drop a = rs at he2 HF
  simp only [List.getElem?_toArray, List.getElem?_cons_zero] at c0 c1
  go_enter Try.func24, Try.ntmps24
  go_wp2_with fail
  refine (HF.out _).mono ?_
  rintro e w1 ⟨x, rfl, hb1⟩
  have HB1 := Lib.hid hb1
  clear hb1
  go_wp2_with fail
  go_ret2
  exact ⟨x, rfl, H.out.next HB1.out, Beh.below HB1.out⟩
set_option maxHeartbeats 1000000 in
theorem next_yes (W : World) (l : Txt) (a : Nat) (r : Txt) (w : World) (h : SB W l a w) (ha : a ≤ l.length) (hl : l.length ≤ 1000000000) (hf : firstF (l.drop a) = some r) :
    Calls Try.prog 24 #[.pointer (some ⟨W.heap.size, 0, none⟩), .pointer (some ⟨W.heap.size + 1, 0, none⟩)] w (NextYes W l a r w) := by
  have hms := mkS_size l
  have c0 := cellOf h.text 0
  have c1 := cellOf h.at_ 0
  have he2 : (mkS l).extract a l.length = mkS (l.drop a) := by rw [mkS_extract, List.take_length]
  have HF := Lib.hid (fun w => first_yes (l.drop a) r w (by rw [List.length_drop]; omega) hf)
  have hr := first_len hf
  rw [List.length_drop] at hr
  have HZ := Lib.hid (fun w => size_x r w (by omega))
  have H := Lib.hid h
  clear h hf
  generalize l.drop a = rs at he2 HF
  simp only [List.getElem?_toArray, List.getElem?_cons_zero] at c0 c1
  go_enter Try.func24, Try.ntmps24
  go_wp2_with fail
  refine (HF.out _).mono ?_
  rintro e w1 ⟨rfl, hb1⟩
  have HB1 := Lib.hid hb1
  have H1 := Lib.hid (H.out.next hb1)
  have c1' := cellOf H1.out.at_ 0
  have f1' := freeOf H1.out.at_ 0
  simp only [List.getElem?_toArray, List.getElem?_cons_zero] at c1'
  clear hb1 c0 c1
  have q1 : IntKind.i64.wrap ((a : Int) + ((r.length : Int) + 10)) = (a : Int) + ((r.length : Int) + 10) := IntWalk.i64_in _ (by omega)
  go_wp2_with fail
  refine wp_region_still_tail 4 (by kernel_rfl) (by kernel_rfl) ?_
  simp only [List.take_succ_cons, List.take_zero, List.drop_succ_cons, List.drop_zero]
  still_step
  still_step
  still_call (still (HZ.out _))
  still_step
  refine wpStill_nil ?_
  go_wp2_with fail
  go_ret2
  have hn : (a : Int) + ((r.length : Int) + 10) = ((a + (r.length + 10) : Nat) : Int) := by omega
  rw [hn]
  exact ⟨rfl, SB.drew H1.out.set, ((Beh.below HB1.out).trans (Beh.set _)).trans Beh.drew⟩
def ScanPost (l : Txt) (w : World) (e : Ending) (w' : World) : Prop :=
  ∃ v, e = .returned (.tuple #[v, .int .i64 ((framesF (scanF l)).length : Int)]) ∧ TxtsAt w' v (scanF l) ∧ Below w.heap.size w w'
/-- Scan's loop, at its head: a record in hand, or none any more. -/
def SL (W : World) (l : Txt) (g : Nat) (v r b : Value) (w : World) : Prop :=
  (∃ rs x a, scanF l = rs ++ x :: scanF (l.drop a) ∧ (framesF (rs ++ [x])).length = a ∧ a ≤ l.length ∧ g = (scanF (l.drop a)).length + 1 ∧ r = .string (mkS x) ∧ b = .bool true ∧ SB W l a w ∧ w.ownsRow (W.heap.size + 2) 9 1 v rs.length (strsV rs)) ∨
  (∃ x : Txt, g = 0 ∧ r = .string (mkS x) ∧ b = .bool false ∧ SB W l (framesF (scanF l)).length w ∧ w.ownsRow (W.heap.size + 2) 9 1 v (scanF l).length (strsV (scanF l)))
theorem SB.new (w : World) (l : Txt) : SB w l 0 ((w.alloc (.cells #[.string (mkS l)] 9)).alloc (.cells #[.int .i64 0] 3)) := by
  refine ⟨?_, ?_, ((Below.refl _ w).alloc (Nat.le_refl _) _).alloc (by simp) _⟩
  · exact (heap_alloc_old _ _ (by simp)).trans (newOf w _)
  · have := newOf (w.alloc (.cells #[.string (mkS l)] 9)) (.cells #[.int .i64 0] 3)
    simpa using this
theorem SB.app {W w w' : World} {l : Txt} {a : Nat} {v : Value} {rs : List Txt} {o : Obj} (h : SB W l a w) (ho : w.ownsRow (W.heap.size + 2) 9 1 v rs.length (strsV rs)) (hg : (w.alloc o).grownBy w' v.ownBlock) : SB W l a w' := by
  have hne : ∀ k, k < W.heap.size + 2 → some k ≠ v.ownBlock := fun k hk e => by have := (ho.lt k e.symm).1; omega
  refine ⟨?_, ?_, strs_grown h.below.size h.below (own_mono ho (by omega)) hg⟩
  · exact (hg.block _ (by have := ltOf h.text; simp; omega) (hne _ (by omega))).trans ((heap_alloc_old _ _ (ltOf h.text)).trans h.text)
  · exact (hg.block _ (by have := ltOf h.at_; simp; omega) (hne _ (by omega))).trans ((heap_alloc_old _ _ (ltOf h.at_)).trans h.at_)
/-- What the closure has told. -/
def NextCases (W : World) (l : Txt) (a : Nat) (y : Txt) (b : Bool) (w : World) : Prop :=
  (b = true ∧ firstF (l.drop a) = some y ∧ SB W l (a + (y.length + 10)) w) ∨ (b = false ∧ firstF (l.drop a) = none ∧ SB W l a w)
def NextAny (W : World) (l : Txt) (a : Nat) (w : World) (e : Ending) (w' : World) : Prop :=
  ∃ (y : Txt) (b : Bool), e = .returned (.tuple #[.string (mkS y), .bool b]) ∧ NextCases W l a y b w' ∧ Beh W w w'
theorem next_x (W : World) (l : Txt) (a : Nat) (w : World) (h : SB W l a w) (ha : a ≤ l.length) (hl : l.length ≤ 1000000) :
    Calls Try.prog 24 #[.pointer (some ⟨W.heap.size, 0, none⟩), .pointer (some ⟨W.heap.size + 1, 0, none⟩)] w (NextAny W l a w) := by
  cases hf : firstF (l.drop a) with
  | none => exact (next_no W l a w h ha (by omega) hf).mono fun e w' ⟨x, he, h1, h2⟩ => ⟨x, false, he, .inr ⟨rfl, hf, h1⟩, h2⟩
  | some r => exact (next_yes W l a r w h ha (by omega) hf).mono fun e w' ⟨he, h1, h2⟩ => ⟨r, true, he, .inl ⟨rfl, hf, h1⟩, h2⟩
theorem sl_step {W w : World} {l : Txt} {rs : List Txt} {a : Nat} {v : Value} {y : Txt} {b : Bool} (h1 : scanF l = rs ++ scanF (l.drop a)) (h2 : (framesF rs).length = a) (_ : a ≤ l.length)
    (ho : w.ownsRow (W.heap.size + 2) 9 1 v rs.length (strsV rs)) (hn : NextCases W l a y b w) : SL W l (scanF (l.drop a)).length v (.string (mkS y)) (.bool b) w := by
  rcases hn with ⟨rfl, hf, hs⟩ | ⟨rfl, hf, hs⟩
  · have e := scanF_some hf
    have hlen := first_len hf
    rw [List.length_drop] at hlen
    rw [List.drop_drop] at e
    refine .inl ⟨rs, y, a + (y.length + 10), by rw [h1, e], ?_, by omega, by rw [e]; rfl, rfl, rfl, hs, ho⟩
    rw [framesF_snoc, List.length_append, frameF_len, h2]
  · have e := scanF_none hf
    rw [e, List.append_nil] at h1
    refine .inr ⟨y, by rw [e]; rfl, rfl, rfl, by rw [h1, h2]; exact hs, by rw [h1]; exact ho⟩
set_option maxHeartbeats 2000000 in
theorem scan_x (l : Txt) (w : World) (hl : l.length ≤ 1000000) :
    Calls Try.prog 12 #[.string (mkS l)] w (ScanPost l w) := by
  have HN := Lib.hid (SB.new w l)
  have HX := Lib.hid (show ∀ (a : Nat) (wr : World), SB w l a wr → a ≤ l.length → Calls Try.prog 24 #[.pointer (some ⟨w.heap.size, 0, none⟩), .pointer (some ⟨w.heap.size + 1, 0, none⟩)] wr (NextAny w l a wr) from fun a wr h1 h2 => next_x w l a wr h1 h2 hl)
  go_enter Try.func12, Try.ntmps12
  go_wp2_with fail
  refine (HX.out 0 _ HN.out (Nat.zero_le _)).mono ?_
  rintro e w1 ⟨y, b, rfl, hc, hbh⟩
  have HS := Lib.hid (sl_step (W := w) (l := l) (rs := []) (a := 0) (v := .slice none 0 0) (by simp) (by simp [framesF]) (Nat.zero_le _) (strs_nil _ _) hc)
  rw [List.drop_zero] at HS
  clear hc hbh HN
  go_wp2_with fail
  go_loopg [6, 7, 8] (scanF l).length (fun g v r b wr => SL w l g v r b wr)
  case atStart => exact HS.out
  case round =>
    rcases hrel with ⟨rs, x, a, h1, h2, h3, rfl, rfl, rfl, hsb, hown⟩ | ⟨x, rfl, rfl, rfl, hsb, hown⟩
    · have H1 := Lib.hid h1
      have H2 := Lib.hid h2
      have hsz : rs.length * 10 + 10 + x.length ≤ 1000000 := by
        have := framesF_len rs
        rw [framesF_snoc, List.length_append, frameF_len] at h2
        omega
      obtain ⟨A, c, rfl⟩ := strs_slice hown
      have HSB := Lib.hid hsb
      have HO := Lib.hid hown
      have HCl := Lib.hid (fun w => clone_x x w (by omega))
      clear h1 h2 hsb hown
      go_wp2_with fail
      refine (HCl.out _).mono ?_
      rintro e w2 ⟨rfl, hb2⟩
      have HSB2 := Lib.hid (HSB.out.next hb2)
      have HO2 := Lib.hid (own_below HO.out hb2)
      have HB2 := Lib.hid hb2
      clear hb2
      go_wp2_with (at_builtin
                   refine app_strs rfl (.tmp 21) (.tmp 24) rfl (w.heap.size + 2) (.slice A rs.length c) rs rfl (HO2.out.alloc _) ⟨w2.heap.size, 0, none⟩ 1 1 [x] rfl rfl ?c1 ?c2 ?c3 ?_)
      case c1 => exact news_one w2 x
      case c2 => omega
      case c3 => have := ltOf HSB2.out.at_; simp; omega
      intro v1 w3 hown3 hg _
      have HSB3 := Lib.hid (HSB2.out.app HO2.out hg)
      have HO3 := Lib.hid (show w3.ownsRow (w.heap.size + 2) 9 1 v1 (rs ++ [x]).length (strsV (rs ++ [x])) from by rw [List.length_append]; exact hown3)
      clear hown3 hg
      obtain ⟨A3, c3, rfl⟩ := strs_slice HO3.out
      go_wp2_with fail
      refine (HX.out a _ HSB3.out h3).mono ?_
      rintro e w4 ⟨y2, b2, rfl, hc2, hbh2⟩
      have HS2 := Lib.hid (sl_step (W := w) (l := l) (rs := rs ++ [x]) (a := a) (by rw [H1.out]; simp) H2.out h3 (hbh2.row HO3.out) hc2)
      clear hc2 hbh2
      go_wp2_with fail
      go_roundg (scanF (l.drop a)).length
      case measure => omega
      case rel => have h := HS2.out; rw [List.length_append] at h; exact h
    · have HSB := Lib.hid hsb
      have HO := Lib.hid hown
      have c1 := cellOf hsb.at_ 0
      simp only [List.getElem?_toArray, List.getElem?_cons_zero] at c1
      obtain ⟨A, c, rfl⟩ := strs_slice hown
      clear hsb hown
      go_wp2_with fail
      go_quiet (fail)
      go_wp2_with fail
      go_ret2
      exact ⟨_, rfl, (own_txts HO.out).below (below_drewN (Below.refl _ _) _), below_drewN HSB.out.below _⟩
end Go.Proofs.Ytfejepkpjoieoaa
