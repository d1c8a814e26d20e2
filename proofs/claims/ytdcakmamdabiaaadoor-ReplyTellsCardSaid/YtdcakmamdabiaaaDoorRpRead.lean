/-
  The walk of read: the reply that right lines tell.
-/
import Derived.Test.YtdcakmamdabiaaaDoorRpFormed
import Derived.Test.YtdcakmamdabiaaaDoorRpBack
namespace Go.Proofs.YtdcakmamdabiaaaDoor
set_option maxRecDepth 100000
open Go.RowKit
/-- A new row of n texts, block g, whose first k are those of l, and all others are empty; beside the box of what is answered. -/
structure FZ (W : World) (g n k : Nat) (l : List Txt) (w : World) : Prop where
  res : w.heap[W.heap.size]? = some (.cells #[.int .i64 0, .int .i64 0, .int .i64 0, .int .i64 0, .slice none 0 0] 25 (0, 0))
  row : ∃ cur : Array Value, w.heap[g]? = some (.cells cur 9 (0, 0)) ∧ cur.size = n ∧ (∀ (i : Nat) (t : Txt), i < k → l[i]? = some t → cur[i]? = some (.string (mkS t))) ∧ ∀ i, k ≤ i → i < n → cur[i]? = some (.string { data := #[] })
  below : Below W.heap.size W w
  ge : W.heap.size < g
section
variable {W w w' : World} {g n k : Nat} {l : List Txt}
theorem FZ.next (h : FZ W g n k l w) (hb : Below w.heap.size w w') : FZ W g n k l w' := by
  obtain ⟨cur, h1, h2, h3, h4⟩ := h.row
  exact ⟨(hb.block _ (ltOf h.res)).trans h.res, ⟨cur, (hb.block _ (ltOf h1)).trans h1, h2, h3, h4⟩, below_next h.below hb, h.ge⟩
theorem FZ.cell (h : FZ W g n k l w) (hk : k < n) : w.cell? ⟨g, k, none⟩ = some (.string { data := #[] }) ∧ w.frozen? ⟨g, k, none⟩ = false := by
  obtain ⟨cur, h1, h2, h3, h4⟩ := h.row
  exact ⟨by rw [cellOf h1]; exact h4 k (Nat.le_refl _) hk, freeOf h1 k⟩
theorem FZ.set {t : Txt} (h : FZ W g n k l w) (hk : k < n) (ht : l[k]? = some t) : FZ W g n (k + 1) l (w.setCell ⟨g, k, none⟩ (.string (mkS t))) := by
  obtain ⟨cur, h1, h2, h3, h4⟩ := h.row
  have hge := h.ge
  refine ⟨(Below.heap_setCell w ⟨g, k, none⟩ _ _ (by show W.heap.size ≠ g; omega)).trans h.res, ⟨_, setOf h1 k _, by simpa using h2, fun i x hi hx => ?_, fun i hi hn => ?_⟩, h.below.setCell (p := ⟨g, k, none⟩) (Nat.le_of_lt hge) _, hge⟩
  · by_cases e : i = k
    · subst e
      rw [ht] at hx
      injection hx with hx
      subst hx
      rw [Array.getElem?_setIfInBounds_self_of_lt (by omega)]
    · rw [Array.getElem?_setIfInBounds_ne (by omega)]
      exact h3 i x (by omega) hx
  · rw [Array.getElem?_setIfInBounds_ne (by omega)]
    exact h4 i (by omega) hn
theorem FZ.skip (h : FZ W g n k l w) (hk : k < n) (ht : l[k]? = some []) : FZ W g n (k + 1) l w := by
  obtain ⟨cur, h1, h2, h3, h4⟩ := h.row
  refine ⟨h.res, ⟨cur, h1, h2, fun i x hi hx => ?_, fun i hi hn => h4 i (by omega) hn⟩, h.below, h.ge⟩
  by_cases e : i = k
  · subst e
    rw [ht] at hx
    injection hx with hx
    subst hx
    exact h4 i (Nat.le_refl _) hk
  · exact h3 i x (by omega) hx
theorem FZ.txts (h : FZ W g n n l w) (hl : l.length = n) : TxtsAt w (.slice (some ⟨g, 0, none⟩) n n) l := by
  obtain ⟨cur, h1, h2, h3, h4⟩ := h.row
  exact FR.txts (W := W) ⟨⟨cur, h1, h2, h3⟩, h.below, Nat.le_of_lt h.ge⟩ hl
theorem FZ.new {w0 : World} (n : Nat) (l : List Txt) (h : w0.heap[W.heap.size]? = some (.cells #[.int .i64 0, .int .i64 0, .int .i64 0, .int .i64 0, .slice none 0 0] 25 (0, 0))) (hb : Below W.heap.size W w0) : FZ W w0.heap.size n 0 l (w0.alloc (.cells (madeCells #[.string { data := #[] }] n) 9)) :=
  ⟨((below_box w0 _).block _ (ltOf h)).trans h, ⟨_, newOf w0 _, by simp [madeCells], fun i t hi => absurd hi (Nat.not_lt_zero _), fun i _ hn => by simp [madeCells, hn, Nat.mod_one]⟩, hb.alloc hb.size _, ltOf h⟩
end
/-- The box of what is answered, an enhanced code in its box, block g, and a row of texts. -/
structure TD (W : World) (g : Nat) (e : E3) (v : Value) (l : List Txt) (w : World) : Prop where
  res : w.heap[W.heap.size]? = some (.cells #[.int .i64 0, .int .i64 0, .int .i64 0, .int .i64 0, .slice none 0 0] 25 (0, 0))
  box : w.heap[g]? = some (.cells #[.int .i64 e.1, .int .i64 e.2.1, .int .i64 e.2.2] 23 (0, 0))
  src : TxtsAt w v l
  below : Below W.heap.size W w
  ge : W.heap.size < g
def TE (g : Nat) (e : E3) (w : World) : Prop := w.cell? ⟨g, 0, none⟩ = some (.int .i64 e.1) ∧ w.cell? ⟨g, 1, none⟩ = some (.int .i64 e.2.1) ∧ w.cell? ⟨g, 2, none⟩ = some (.int .i64 e.2.2)
section
variable {W w w' : World} {g : Nat} {e : E3} {v : Value} {l : List Txt}
theorem TD.next (h : TD W g e v l w) (hb : Below w.heap.size w w') : TD W g e v l w' := ⟨(hb.block _ (ltOf h.res)).trans h.res, (hb.block _ (ltOf h.box)).trans h.box, h.src.below hb, below_next h.below hb, h.ge⟩
theorem TD.drew (h : TD W g e v l w) : TD W g e v l w.drew := h.next (below_drewN (Below.refl _ _) 1)
theorem TD.cells (h : TD W g e v l w) : w.cell? ⟨g, 0, none⟩ = some (.int .i64 e.1) ∧ w.cell? ⟨g, 1, none⟩ = some (.int .i64 e.2.1) ∧ w.cell? ⟨g, 2, none⟩ = some (.int .i64 e.2.2) := ⟨cellOf h.box 0, cellOf h.box 1, cellOf h.box 2⟩
/-- What a walk asks of it. -/
def TDF (W : World) (g : Nat) (e : E3) (v : Value) (l : List Txt) (w : World) : Prop :=
  w.cell? ⟨g, 0, none⟩ = some (.int .i64 e.1) ∧ w.cell? ⟨g, 1, none⟩ = some (.int .i64 e.2.1) ∧ w.cell? ⟨g, 2, none⟩ = some (.int .i64 e.2.2) ∧
  w.cell? ⟨W.heap.size, 0, none⟩ = some (.int .i64 0) ∧ w.cell? ⟨W.heap.size, 1, none⟩ = some (.int .i64 0) ∧ w.cell? ⟨W.heap.size, 2, none⟩ = some (.int .i64 0) ∧ w.cell? ⟨W.heap.size, 3, none⟩ = some (.int .i64 0) ∧ w.cell? ⟨W.heap.size, 4, none⟩ = some (.slice none 0 0) ∧
  w.frozen? ⟨W.heap.size, 0, none⟩ = false ∧ w.frozen? ⟨W.heap.size, 1, none⟩ = false ∧ w.frozen? ⟨W.heap.size, 2, none⟩ = false ∧ w.frozen? ⟨W.heap.size, 3, none⟩ = false ∧ w.frozen? ⟨W.heap.size, 4, none⟩ = false ∧ Hid (TD W g e v l w)
theorem TD.full (h : TD W g e v l w) : TDF W g e v l w := ⟨cellOf h.box 0, cellOf h.box 1, cellOf h.box 2, cellOf h.res 0, cellOf h.res 1, cellOf h.res 2, cellOf h.res 3, cellOf h.res 4, freeOf h.res 0, freeOf h.res 1, freeOf h.res 2, freeOf h.res 3, freeOf h.res 4, h⟩
theorem TD.call (h : Hid (TD W g e v l w)) {f : FuncId} {args : Array Value} {l' : List Txt} (H : Calls Tryd.prog f args w (ClonesPost l' w)) :
    Calls Tryd.prog f args w fun x w' => ∃ A cap, x = .returned (.slice A l'.length cap) ∧ Hid (TxtsAt w' (.slice A l'.length cap) l' ∧ ∀ ad, A = some ad → W.heap.size < ad.block) ∧ TDF W g e v l w' := H.mono fun _ _ ⟨v', he, hT, hb, hge⟩ => by
  obtain ⟨A, cap, rfl, _⟩ := id hT
  exact ⟨A, cap, he, ⟨hT, fun ad e' => by subst e'; have := hge ad _ _ rfl; have := ltOf h.out.res; omega⟩, (h.out.next hb).full⟩
/-- What is answered, in its box. -/
theorem TD.put (h : TD W g e v l w) (ha : Apart W.heap.size w.heap.size w w') : Below W.heap.size W w' := h.below.trans (ha.below h.below.size (Nat.le_refl _))
end
theorem TxtsAt.apart' {w w' : World} {a : Option Addr} {n cap : Nat} {l : List Txt} {b : Nat} (h : TxtsAt w (.slice a n cap) l) (hb : Apart b w.heap.size w w') (hne : ∀ ad, a = some ad → ad.block ≠ b) : TxtsAt w' (.slice a n cap) l := by
  obtain ⟨a', cap', hv, hc0, hn, hc⟩ := h
  injection hv with h1 h2 h3
  subst h1 h2 h3
  refine ⟨a, cap, rfl, hc0, hn, fun i t hi => ?_⟩
  obtain ⟨A, ha, hA, c0⟩ := hc i t hi
  refine ⟨A, ha, Nat.lt_of_lt_of_le hA hb.size, ?_⟩
  rw [← c0]
  simp only [World.cell?, add_block, hb.block A.block hA (hne A ha)]
theorem TD.put5 {W w : World} {g : Nat} {e : E3} {v : Value} {l : List Txt} (h : TD W g e v l w) (c : Int) (u : Value) :
    (((((w.setCell ⟨W.heap.size, 0, none⟩ (.int .i64 c)).setCell ⟨W.heap.size, 1, none⟩ (.int .i64 e.1)).setCell ⟨W.heap.size, 2, none⟩ (.int .i64 e.2.1)).setCell ⟨W.heap.size, 3, none⟩ (.int .i64 e.2.2)).setCell ⟨W.heap.size, 4, none⟩ u).heap[W.heap.size]? = some (.cells #[.int .i64 c, .int .i64 e.1, .int .i64 e.2.1, .int .i64 e.2.2, u] 25 (0, 0)) ∧
    Apart W.heap.size w.heap.size w (((((w.setCell ⟨W.heap.size, 0, none⟩ (.int .i64 c)).setCell ⟨W.heap.size, 1, none⟩ (.int .i64 e.1)).setCell ⟨W.heap.size, 2, none⟩ (.int .i64 e.2.1)).setCell ⟨W.heap.size, 3, none⟩ (.int .i64 e.2.2)).setCell ⟨W.heap.size, 4, none⟩ u) :=
  ⟨setOf (setOf (setOf (setOf (setOf h.res 0 _) 1 _) 2 _) 3 _) 4 _, (((((Apart.refl _ _ w).set 0 _).set 1 _).set 2 _).set 3 _).set 4 _⟩
theorem keep5 {w : World} {r g : Nat} {a b c : Value} (hne : g ≠ r) (u0 u1 u2 u3 u4 : Value) (c0 : w.cell? ⟨g, 0, none⟩ = some a) (c1 : w.cell? ⟨g, 1, none⟩ = some b) (c2 : w.cell? ⟨g, 2, none⟩ = some c) :
    (((((w.setCell ⟨r, 0, none⟩ u0).setCell ⟨r, 1, none⟩ u1).setCell ⟨r, 2, none⟩ u2).setCell ⟨r, 3, none⟩ u3).setCell ⟨r, 4, none⟩ u4).cell? ⟨g, 0, none⟩ = some a ∧
    (((((w.setCell ⟨r, 0, none⟩ u0).setCell ⟨r, 1, none⟩ u1).setCell ⟨r, 2, none⟩ u2).setCell ⟨r, 3, none⟩ u3).setCell ⟨r, 4, none⟩ u4).cell? ⟨g, 1, none⟩ = some b ∧
    (((((w.setCell ⟨r, 0, none⟩ u0).setCell ⟨r, 1, none⟩ u1).setCell ⟨r, 2, none⟩ u2).setCell ⟨r, 3, none⟩ u3).setCell ⟨r, 4, none⟩ u4).cell? ⟨g, 2, none⟩ = some c := by
  have e : (((((w.setCell ⟨r, 0, none⟩ u0).setCell ⟨r, 1, none⟩ u1).setCell ⟨r, 2, none⟩ u2).setCell ⟨r, 3, none⟩ u3).setCell ⟨r, 4, none⟩ u4).heap[g]? = w.heap[g]? :=
    (Below.heap_setCell _ ⟨r, 4, none⟩ u4 g hne).trans ((Below.heap_setCell _ ⟨r, 3, none⟩ u3 g hne).trans ((Below.heap_setCell _ ⟨r, 2, none⟩ u2 g hne).trans ((Below.heap_setCell _ ⟨r, 1, none⟩ u1 g hne).trans (Below.heap_setCell w ⟨r, 0, none⟩ u0 g hne))))
  simp only [World.cell?] at c0 c1 c2 ⊢
  rw [e]
  exact ⟨c0, c1, c2⟩
theorem size_rep : (Tryd.prog.info? 25).map (·.size) = some 5 := by kernel_rfl
theorem results_cell1 {fn : Func} {p : Tmp} {ty : TypeId} (h : fn.results = #[.cell p ty]) (tmps : Array Value) (P : Program) (w : World) :
    (results fn tmps).run P w = ((asAddr (tmps.getD p undef)).run P w).andThen fun a w₁ => (loadVar ty a).run P w₁ := by
  simp only [results, h]
  simp [Sem.run_bind, Result.andThen]
theorem results_cell3 {fn : Func} {p u x : Tmp} {ty : TypeId} (h : fn.results = #[.cell p ty, .tmp u, .tmp x]) (tmps : Array Value) (P : Program) (w : World) :
    (results fn tmps).run P w =
      ((asAddr (tmps.getD p undef)).run P w).andThen fun a w₁ => ((loadVar ty a).run P w₁).andThen fun v w₂ => .ok (.tuple #[v, tmps.getD u undef, tmps.getD x undef]) w₂ := by
  simp only [results, h]
  simp [Sem.run_bind, Result.andThen]
/-- A reply, read off its box. -/
theorem ans_rep {fn : Func} {p : Tmp} (hf : fn.results = #[.cell p 25]) {tmps : Array Value} {w : World} {g : Nat} {c : Int} {e : E3} {v : Value} (hp : tmps.getD p undef = .pointer (some ⟨g, 0, none⟩))
    (hb : w.heap[g]? = some (.cells #[.int .i64 c, .int .i64 e.1, .int .i64 e.2.1, .int .i64 e.2.2, v] 25 (0, 0))) : (results fn tmps).run Tryd.prog w = .ok (RV c e v) w := by
  have hl := loadVar_blk (P := Tryd.prog) (ty := 25) (o := 0) (vs := #[.int .i64 c, .int .i64 e.1, .int .i64 e.2.1, .int .i64 e.2.2, v]) hb Tryd.underlying25 rfl size_rep (fun j _ => by rw [Nat.zero_add])
  rw [results_cell1 hf, hp]
  simp [asAddr, Result.andThen, hl]
def ReadPost (l : List Txt) (w : World) (x : Ending) (w' : World) : Prop := ∃ v, x = .returned (RV (rpRead l).code (rpRead l).e v) ∧ TxtsAt w' v (rpRead l).text ∧ Below w.heap.size w w' ∧ ∀ A n c, v = .slice (some A) n c → w.heap.size < A.block
theorem read_parts (l : List Txt) (l0 : Txt) (h : l.headD [] = l0) : rpRead l = ⟨(valX (l0.take 3) : Int), (rpPart (valX (l0.take 3) : Int) (l.map (·.drop 4))).1, (rpPart (valX (l0.take 3) : Int) (l.map (·.drop 4))).2⟩ := by rw [rpRead, h]
theorem drop1_x (t : Txt) : (mkS (t.drop 3)).extract 1 (t.length - 3) = mkS (t.drop 4) := by
  rw [mkS_extract, List.take_of_length_le (by simp), List.drop_drop]
set_option maxHeartbeats 4000000 in
theorem read_x (l : List Txt) (v : Value) (w : World) (hv : TxtsAt w v l) (hne : l ≠ []) (hn : l.length ≤ 1000) (hz : ∀ t ∈ l, 3 ≤ t.length ∧ t.length ≤ 1000) (hnm : rpNm ((l.headD []).take 3) = true) :
    Calls Tryd.prog 21 #[v] w (ReadPost l w) := by
  obtain ⟨a, cap, rfl, _, _, hc⟩ := hv
  obtain ⟨l0, h0⟩ : ∃ l0, l[0]? = some l0 := ⟨_, List.getElem?_eq_getElem (List.length_pos_iff.2 hne)⟩
  have hh : l.headD [] = l0 := by cases l with | nil => exact absurd rfl hne | cons x y => simpa using h0
  rw [hh] at hnm
  have HR := Lib.hid (read_parts l l0 hh)
  obtain ⟨ad, rfl, hab, c0⟩ := hc 0 l0 h0
  have hz0 := hz l0 (List.mem_of_getElem? h0)
  have HN := Lib.hid (fun w => number_x (l0.take 3) w (by rw [List.length_take]; omega))
  unfold NmPost at HN
  rw [hnm, show nmV (l0.take 3) = ((valX (l0.take 3) : Nat) : Int) by rw [nmV, hnm]; rfl] at HN
  have hx1 := take3_x l0
  have hms := mkS_size l0
  have HC := Lib.hid hc
  have HZ := Lib.hid hz
  have hl1 : 0 < l.length := List.length_pos_iff.2 hne
  have h3i : (3 : Int) ≤ (l0.length : Int) := by omega
  have hb0 := below_box w (.cells #[.int .i64 0, .int .i64 0, .int .i64 0, .int .i64 0, .slice none 0 0] 25)
  have HF := Lib.hid (FZ.new (W := w) l.length (l.map (·.drop 4)) (newOf w _) hb0)
  have hmk := make_txts l.length (by omega) (w.alloc (.cells #[.int .i64 0, .int .i64 0, .int .i64 0, .int .i64 0, .slice none 0 0] 25))
  have hs1 : (w.alloc (.cells #[.int .i64 0, .int .i64 0, .int .i64 0, .int .i64 0, .slice none 0 0] 25)).heap.size = w.heap.size + 1 := by simp
  have c1 : (w.alloc (.cells #[.int .i64 0, .int .i64 0, .int .i64 0, .int .i64 0, .slice none 0 0] 25)).cell? (ad.add 0) = some (.string (mkS l0)) := (hb0.cell (by rw [add_block]; exact hab)).trans c0
  have ha0 : ad.add 0 = ad := by unfold Addr.add; simp
  rw [ha0] at c1
  rw [hs1] at hmk HF
  generalize (valX (l0.take 3) : Int) = code at HN HR
  clear hc hz hb0 hs1 c0 hne hh h0 hnm hz0 ha0
  go_enter Tryd.func21, Tryd.ntmps21
  go_wp2_with (go_at_call 39; refine (HN.out _).mono ?_; rintro e w' ⟨rfl, rfl⟩)
  clear hmk c1 hx1 hms h3i
  go_loopw [23, 8] (fun i _ wr => ∃ k : Nat, k ≤ l.length ∧ i = .int .i64 k ∧ Hid (FZ w (w.heap.size + 1) l.length k (l.map (·.drop 4)) wr)) (fun i _ _ => l.length - (intOf i).toNat)
  case atStart => exact ⟨0, Nat.zero_le _, rfl, HF⟩
  case round =>
    obtain ⟨k, hk, rfl, HFk⟩ := hrel
    by_cases hlt : k < l.length
    · obtain ⟨t, ht⟩ : ∃ t, l[k]? = some t := ⟨_, List.getElem?_eq_getElem hlt⟩
      obtain ⟨A, hA, hab', hcw⟩ := HC.out k t ht
      injection hA with hA
      subst hA
      have hcl : wr.cell? (ad.add k) = some (.string (mkS t)) := (HFk.out.below.cell (by rw [add_block]; exact hab')).trans hcw
      obtain ⟨hz1, hz2⟩ := HZ.out t (List.mem_of_getElem? ht)
      have hms := mkS_size t
      have hx2 := drop3_x t
      have hT := mkS_toList (t.drop 3)
      have hms3 := mkS_size (t.drop 3)
      have HT := Lib.hid (show (l.map (·.drop 4))[k]? = some (t.drop 4) by rw [List.getElem?_map, ht]; rfl)
      obtain ⟨cz, fz⟩ := HFk.out.cell hlt
      have h3i : (3 : Int) ≤ (t.length : Int) := by omega
      clear ht hcw hab'
      by_cases h4 : t.length = 3
      · have hd : t.drop 3 = [] := List.drop_eq_nil_iff.2 (by omega)
        have he : (t.drop 3).isEmpty = true := by rw [hd]; rfl
        have HT2 := Lib.hid (show (l.map (·.drop 4))[k]? = some [] by rw [HT.out]; exact congrArg some (List.drop_eq_nil_iff.2 (by omega)))
        generalize t.drop 3 = d3 at *
        clear hd h4
        go_wp2_with fail
        go_roundw
        case rel => exact ⟨k + 1, by omega, by go_num, Lib.hid (HFk.out.skip hlt HT2.out)⟩
        case measure => simp [intOf]; omega
      · have hd : t.drop 3 ≠ [] := fun e => by have := List.drop_eq_nil_iff.1 e; omega
        have he : (t.drop 3).isEmpty = false := by cases h : t.drop 3 with | nil => exact absurd h hd | cons => rfl
        have hd1 := drop1_x t
        have hdl : (t.drop 3).length = t.length - 3 := by simp
        rw [hdl] at hms3
        generalize t.drop 3 = d3 at *
        clear hd hdl
        have hi1 : (1 : Int) ≤ ((t.length - 3 : Nat) : Int) := by omega
        go_wp2_with fail
        go_roundw
        case rel => exact ⟨k + 1, by omega, by go_num, Lib.hid (HFk.out.set hlt HT.out)⟩
        case measure => simp [intOf]; omega
    · obtain rfl : k = l.length := by omega
      have HP := Lib.hid (parted_x code (l.map (·.drop 4)) (.slice (some ⟨w.heap.size + 1, 0, none⟩) l.length l.length) wr (HFk.out.txts (by simp)) (by simp; omega) (fun t ht => by
        obtain ⟨u, hu, rfl⟩ := List.mem_map.1 ht
        have := (HZ.out u hu).2
        simp; omega))
      unfold PartPost at HP
      have HPB := Lib.hid (show (rpPart code (l.map (·.drop 4))).2.length ≤ 1000 by rw [part_len]; simp; omega)
      have HPZ := Lib.hid (show ∀ t ∈ (rpPart code (l.map (·.drop 4))).2, t.length ≤ 1000 from fun t ht => by
        have hq : ∀ u ∈ l.map (·.drop 4), u.length ≤ 1000 := fun u hu => by
          obtain ⟨x, hx, rfl⟩ := List.mem_map.1 hu
          have := (HZ.out x hx).2
          simp; omega
        rcases part_cases code (l.map (·.drop 4)) with e | ⟨e, _, he, _⟩
        · rw [e] at ht; exact hq t ht
        · rw [he] at ht
          obtain ⟨u, hu, rfl⟩ := List.mem_map.1 ht
          have := hq u hu
          have := post_le 32 u
          omega)
      obtain ⟨en, hen⟩ : ∃ en, (rpPart code (l.map (·.drop 4))).1 = en := ⟨_, rfl⟩
      obtain ⟨rs, hrs⟩ : ∃ rs, (rpPart code (l.map (·.drop 4))).2 = rs := ⟨_, rfl⟩
      rw [hen, hrs] at HP HR
      rw [hrs] at HPB HPZ
      clear hen hrs
      go_wp2_with fail
      refine HP.out.mono ?_
      rintro x w3 ⟨v3, rfl, hT3, hb3⟩
      have HD := Lib.hid (show TD w w3.heap.size en v3 rs (w3.alloc (.cells #[.int .i64 en.1, .int .i64 en.2.1, .int .i64 en.2.2] 23)) from
        ⟨((below_box w3 _).block _ (ltOf ((hb3.block _ (ltOf HFk.out.res)).trans HFk.out.res))).trans ((hb3.block _ (ltOf HFk.out.res)).trans HFk.out.res), newOf w3 _, hT3.below (below_box w3 _), (below_next HFk.out.below hb3).alloc (below_next HFk.out.below hb3).size _, ltOf ((hb3.block _ (ltOf HFk.out.res)).trans HFk.out.res)⟩)
      clear hT3 hb3
      have HCL := Lib.hid (fun w' (h : TD w w3.heap.size en v3 rs w') => clones_x rs v3 w' h.src (by have := HPB.out; omega) (fun t ht => by have := HPZ.out t ht; omega))
      go_wp2_with fail
      generalize w3.alloc (.cells #[.int .i64 en.1, .int .i64 en.2.1, .int .i64 en.2.2] 23) = w4 at HD ⊢
      generalize w3.heap.size = g at HD HCL ⊢
      obtain ⟨c0, c1, c2⟩ := HD.out.cells
      have HNE := Lib.hid (show g ≠ w.heap.size by have := HD.out.ge; omega)
      go_region_held3 (fun wr => wr.cell? ⟨g, 0, none⟩ = some (.int .i64 en.1) ∧ wr.cell? ⟨g, 1, none⟩ = some (.int .i64 en.2.1) ∧ wr.cell? ⟨g, 2, none⟩ = some (.int .i64 en.2.2))
        (first | (with_reducible exact keep5 HNE.out _ _ _ _ _ (by assumption) (by assumption) (by assumption)) | (with_reducible exact ⟨by assumption, by assumption, by assumption⟩) | (with_reducible exact HD.out.drew.cells) | (with_reducible exact HD.out.cells))
        (first | (go_at_call 38; (with_reducible refine (TD.call (W := w) (g := g) (e := en) (v := v3) (l := rs) ?_ (HCL.out _ ?_)).mono ?_); (first | exact Lib.hid HD.out.drew | exact HD); (first | exact HD.out.drew | exact HD.out); rintro x w5 ⟨A5, cap5, rfl, hT5, g0, g1, g2, r0, r1, r2, r3, r4, f0, f1, f2, f3, f4, hD5⟩))
      all_goals
        obtain ⟨hB, hA⟩ := hD5.out.put5 code (.slice A5 rs.length cap5)
        have hbl := hD5.out.put hA
        have hT9 := hT5.out.1.apart' hA (fun ad e' => Nat.ne_of_gt (hT5.out.2 ad e'))
        have HB := Lib.hid hB
        have HA := Lib.hid hbl
        have HT9 := Lib.hid hT9
        clear hB hA hbl hT9 g0 g1 g2 r0 r1 r2 r3 r4 f0 f1 f2 f3 f4
        go_wp2_with fail
        refine bodyPost_ret (v := RV code en (.slice A5 rs.length cap5)) (ans_rep rfl rfl HB.out) rfl ?_
        unfold ReadPost
        rw [HR.out]
        exact ⟨_, rfl, HT9.out, HA.out, fun A n c e' => by injection e' with e'; exact hT5.out.2 A e'⟩
end Go.Proofs.YtdcakmamdabiaaaDoor
