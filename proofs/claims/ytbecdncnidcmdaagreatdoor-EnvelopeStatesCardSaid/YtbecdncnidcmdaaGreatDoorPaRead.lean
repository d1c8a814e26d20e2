/-
  The walk of param's read: words one by one, what a map of functions does of each.
-/
import Derived.Test.YtbecdncnidcmdaaGreatDoorPaMap
namespace Go.Proofs.YtbecdncnidcmdaaGreatDoor
set_option maxRecDepth 100000
open Go.RowKit Go.Shelf
attribute [local go_sem] Oper.semAt_some
theorem alloc6 (w : World) (a b c d e f : Obj) : ((((((((w.alloc a).alloc b).alloc c).alloc d).alloc e).alloc f).heap[w.heap.size]? = some a ∧ ((((((w.alloc a).alloc b).alloc c).alloc d).alloc e).alloc f).heap[w.heap.size + 1]? = some b ∧
    ((((((w.alloc a).alloc b).alloc c).alloc d).alloc e).alloc f).heap[w.heap.size + 2]? = some c ∧ ((((((w.alloc a).alloc b).alloc c).alloc d).alloc e).alloc f).heap[w.heap.size + 3]? = some d ∧
    ((((((w.alloc a).alloc b).alloc c).alloc d).alloc e).alloc f).heap[w.heap.size + 4]? = some e ∧ ((((((w.alloc a).alloc b).alloc c).alloc d).alloc e).alloc f).heap[w.heap.size + 5]? = some f) ∧
    Below w.heap.size w ((((((w.alloc a).alloc b).alloc c).alloc d).alloc e).alloc f)) ∧ ((((((w.alloc a).alloc b).alloc c).alloc d).alloc e).alloc f).heap.size = w.heap.size + 6 := by
  obtain ⟨⟨h0, h1, h2, h3, h4⟩, hb, hs⟩ := alloc5 w a b c d e
  have h5 := new_alloc (w := ((((w.alloc a).alloc b).alloc c).alloc d).alloc e) (n := w.heap.size + 5) f hs.symm
  exact ⟨⟨⟨old_alloc h0, old_alloc h1, old_alloc h2, old_alloc h3, old_alloc h4, h5⟩, hb.alloc (by omega) _⟩, by simp⟩
/-- What stands in read's loop. -/
structure RJ {σ : Type} (C : σ → Array Value) (t : TypeId) (mb M : Nat) (w : World) (st : σ) (ks : List Txt) (c : Nat) (W : World) : Prop where
  ap : Apart mb w.heap.size w W
  blk : W.heap[mb]? = some (.cells (C st) t (0, 0))
  dob : W.cell? ⟨w.heap.size, 0, none⟩ = some (.map (some M))
  res : W.cell? ⟨w.heap.size + 1, 0, none⟩ = some (.int .i64 0)
  resf : W.frozen? ⟨w.heap.size + 1, 0, none⟩ = false
  sbx : W.cell? ⟨w.heap.size + 3, 0, none⟩ = some (.map (some (w.heap.size + 2)))
  said : MapIs W (w.heap.size + 2) c fun k => if k ∈ ks then some (.int .i64 1) else none
section
variable {σ : Type} {C : σ → Array Value} {t : TypeId} {mb M : Nat} {w W W' : World} {st : σ} {ks : List Txt} {c : Nat}
theorem RJ.next (h : RJ C t mb M w st ks c W) (hb : Below W.heap.size W W') : RJ C t mb M w st ks c W' :=
  ⟨h.ap.next (.of hb), (hb.block _ (ltOf h.blk)).trans h.blk, (hb.cell (p := ⟨_, 0, none⟩) (cell_lt h.dob)).trans h.dob, (hb.cell (p := ⟨_, 0, none⟩) (cell_lt h.res)).trans h.res, (hb.frozen (p := ⟨_, 0, none⟩) (cell_lt h.res)).trans h.resf,
    (hb.cell (p := ⟨_, 0, none⟩) (cell_lt h.sbx)).trans h.sbx, h.said.block (hb.block _ h.said.lt)⟩
theorem Apart.frozen {mb n : Nat} {a w : World} (h : Apart mb n a w) {b : Nat} (hb : b < n) (hne : b ≠ mb) (o : Nat) (x : Option Nat) : w.frozen? ⟨b, o, x⟩ = a.frozen? ⟨b, o, x⟩ := by
  simp only [World.frozen?, h.block b hb hne]
theorem RJ.told {st' : σ} (h : RJ C t mb M w st ks c W) (hm : mb < w.heap.size) (ha : Apart mb W.heap.size W W') (hb : W'.heap[mb]? = some (.cells (C st') t (0, 0))) : RJ C t mb M w st' ks c W' :=
  ⟨h.ap.next ha, hb, (ha.cell (cell_lt h.dob) (by omega) 0 none).trans h.dob, (ha.cell (cell_lt h.res) (by omega) 0 none).trans h.res, (ha.frozen (cell_lt h.res) (by omega) 0 none).trans h.resf, (ha.cell (cell_lt h.sbx) (by omega) 0 none).trans h.sbx,
    h.said.block (ha.block _ h.said.lt (by omega))⟩
theorem RJ.put {k : Txt} (h : RJ C t mb M w st ks c W) (hm : mb < w.heap.size) (hs : MapIs W' (w.heap.size + 2) (c + 1) (updF (fun k => if k ∈ ks then some (.int .i64 1) else none) k (.int .i64 1))) (hg : W.grownBy W' (some (w.heap.size + 2))) : RJ C t mb M w st (k :: ks) (c + 1) W' := by
  have hne : ∀ b, b ≠ w.heap.size + 2 → some b ≠ some (w.heap.size + 2) := fun b hb e => hb (by injection e)
  refine ⟨⟨hg.os.trans h.ap.os, hg.tape.trans h.ap.tape, hg.output.trans h.ap.output, Nat.le_trans h.ap.size hg.size, fun b hb hne' => (hg.block b (Nat.lt_of_lt_of_le hb h.ap.size) (hne b (by omega))).trans (h.ap.block b hb hne')⟩, (hg.block mb (ltOf h.blk) (hne mb (by omega))).trans h.blk, ?_, ?_, ?_, ?_, ?_⟩
  · rw [← h.dob]; simp only [World.cell?, hg.block _ (cell_lt h.dob) (hne _ (by omega))]
  · rw [← h.res]; simp only [World.cell?, hg.block _ (cell_lt h.res) (hne _ (by omega))]
  · rw [← h.resf]; simp only [World.frozen?, hg.block _ (cell_lt h.res) (hne _ (by omega))]
  · rw [← h.sbx]; simp only [World.cell?, hg.block _ (cell_lt h.sbx) (hne _ (by omega))]
  · have e : updF (fun k => if k ∈ ks then some (.int .i64 1) else none) k (.int .i64 1) = fun k' => if k' ∈ k :: ks then some (Value.int .i64 1) else none := by
      funext k'
      unfold updF
      by_cases h1 : k' = k
      · simp [h1]
      · simp [h1]
    rw [← e]; exact hs
theorem RJ.own (B : Nat) (hm : mb < w.heap.size) (hB : w.heap.size + 6 ≤ B) {row : Option Nat} (h : RJ C t mb M w st ks c W) (hg : W.grownBy W' row) (hr : ∀ r, row = some r → B ≤ r ∧ ∃ o : Obj, W.heap[r]? = some o ∧ o.isCells = false) : RJ C t mb M w st ks c W' := by
  have hne : ∀ b, b < B → some b ≠ row := fun b hb e => by have := (hr b e.symm).1; omega
  refine ⟨⟨hg.os.trans h.ap.os, hg.tape.trans h.ap.tape, hg.output.trans h.ap.output, Nat.le_trans h.ap.size hg.size, fun b hb hne' => (hg.block b (Nat.lt_of_lt_of_le hb h.ap.size) (hne b (by omega))).trans (h.ap.block b hb hne')⟩, (hg.block mb (ltOf h.blk) (hne mb (by omega))).trans h.blk, ?_, ?_, ?_, ?_, h.said.kept hg (hne _ (by omega))⟩
  · rw [← h.dob]; simp only [World.cell?, hg.block _ (cell_lt h.dob) (hne _ (by omega))]
  · rw [← h.res]; simp only [World.cell?, hg.block _ (cell_lt h.res) (hne _ (by omega))]
  · rw [← h.resf]; simp only [World.frozen?, hg.block _ (cell_lt h.res) (hne _ (by omega))]
  · rw [← h.sbx]; simp only [World.cell?, hg.block _ (cell_lt h.sbx) (hne _ (by omega))]
theorem apart_own {β : Type} (B : Nat) (hB : w.heap.size ≤ B) (mb : Nat) : OwnFrom B (fun (_ : β) W => Apart mb w.heap.size w W) := fun _ _ _ row h hg hr =>
  ⟨hg.os.trans h.os, hg.tape.trans h.tape, hg.output.trans h.output, Nat.le_trans h.size hg.size, fun b hb hne' => (hg.block b (Nat.lt_of_lt_of_le hb h.size) (fun e => by have := (hr b e.symm).1; omega)).trans (h.block b hb hne')⟩
theorem keepsFrom_apart {B : Nat} (hm : mb < B) (h : Apart mb W.heap.size W W') : KeepsFrom B W W' := ⟨h.size, fun k o hB hk _ => (h.block k (ltOf hk) (by omega)).trans hk⟩
theorem keepsCell_apart {b : Nat} (hm : mb ≠ b) (h : Apart mb W.heap.size W W') : KeepsCell ⟨b, 0, none⟩ W W' := fun _ hv => (h.cell (cell_lt hv) (Ne.symm hm) 0 none).trans hv
theorem keepsCell_grown {b c : Nat} (hne : b ≠ c) (h : W.grownBy W' (some c)) : KeepsCell ⟨b, 0, none⟩ W W' := fun _ hv => by
  rw [← hv]; simp only [World.cell?, h.block _ (cell_lt hv) (fun e => hne (by injection e))]
end
theorem Apart.far {mb n b : Nat} {a w : World} (h : Apart mb n a w) (hb : n ≤ b) (v : Value) : Apart mb n a (w.setCell ⟨b, 0, none⟩ v) :=
  ⟨h.os, h.tape, h.output, by rw [World.size_setCell]; exact h.size, fun k hk hn => (Below.heap_setCell _ _ _ k (show k ≠ b by omega)).trans (h.block k hk hn)⟩
theorem Apart.putD {mb n D : Nat} {a w : World} (h : Apart mb n a w) (hD : n ≤ D) (o : Obj) : Apart mb n a (w.putObj D o) :=
  ⟨h.os, h.tape, h.output, by rw [World.putObj_size]; exact h.size, fun k hk hn => (World.putObj_heap_other (by omega)).trans (h.block k hk hn)⟩
/-- What a key's function does of a value, in a world that is W1 but for block mb. -/
def DoesP {σ : Type} (C : σ → Array Value) (t : TypeId) (mb : Nat) (err : Txt → Txt → Int) (set : Txt → Txt → σ → σ) (W1 : World) (k : Txt) (v : Value) : Prop :=
  ∃ g bs, v = .func (.func g) #[] bs ∧ (∀ args w, (callFunc g args).run Tryz.prog w = .ok (.enter g args) w) ∧ ∀ (w : World) (st : σ) (x : Txt), x.length ≤ 1000000000 → Apart mb W1.heap.size W1 w → w.heap[mb]? = some (.cells (C st) t (0, 0)) →
    Calls Tryz.prog g (#[.string (mkS x)] ++ bs) w fun e w' => e = .returned (.int .i64 (err k x)) ∧ Apart mb w.heap.size w w' ∧ (err k x = 0 → w'.heap[mb]? = some (.cells (C (set k x st)) t (0, 0)))
def rdE (isK : Txt → Bool) (err : Txt → Txt → Int) (s : Txt) : Int := if s = [] then 0 else errs isK err [] (splitC 32 s)
def rdS {σ : Type} (set : Txt → Txt → σ → σ) (s : Txt) (st : σ) : σ := if s = [] then st else fin set (splitC 32 s) st
def ReadPost {σ : Type} (C : σ → Array Value) (t : TypeId) (mb : Nat) (isK : Txt → Bool) (err : Txt → Txt → Int) (set : Txt → Txt → σ → σ) (s : Txt) (st : σ) (w : World) (e : Ending) (w' : World) : Prop :=
  e = .returned (.int .i64 (rdE isK err s)) ∧ Apart mb w.heap.size w w' ∧ (rdE isK err s = 0 → w'.heap[mb]? = some (.cells (C (rdS set s st)) t (0, 0)))
theorem errs_snoc {isK : Txt → Bool} {err : Txt → Txt → Int} {ws : List Txt} (x : Txt) (h : errs isK err [] ws = 0) : errs isK err [] (ws ++ [x]) = wordE isK err (ws.map keyW).reverse x := by
  rw [errs_append, if_pos h, List.append_nil, errs]
  by_cases h2 : wordE isK err (ws.map keyW).reverse x = 0
  · rw [if_pos h2, h2]; rfl
  · rw [if_neg h2]
theorem zero3 (w : World) : (zeroValue 3).run Tryz.prog w = .ok (.int .i64 0) w := by
  have h : Tryz.t3.zero = some (.int .i64 0) := by kernel_rfl
  unfold zeroValue
  go_simp
theorem zeroF (w : World) : (zeroValue 326).run Tryz.prog w = .ok .nilFunc w := by
  have h : Tryz.t326.zero = some .nilFunc := by kernel_rfl
  unfold zeroValue
  go_simp
theorem read_none {σ : Type} (C : σ → Array Value) (t : TypeId) (mb M : Nat) (isK : Txt → Bool) (err : Txt → Txt → Int) (set : Txt → Txt → σ → σ) (st : σ) (w : World) (hb : w.heap[mb]? = some (.cells (C st) t (0, 0))) :
    Calls Tryz.prog 276 #[.string { data := #[] }, .map (some M)] w (ReadPost C t mb isK err set [] st w) := by
  have HB := Lib.hid hb
  clear hb
  have HF := Lib.hid (show ReadPost C t mb isK err set [] st w (.returned (.int .i64 0)) ((w.alloc (.cells #[.map (some M)] 301)).alloc (.cells #[.int .i64 0] 25)) from
    ⟨rfl, .of (((Below.refl _ w).alloc (Nat.le_refl _) _).alloc (by simp) _), fun _ => old_alloc (old_alloc HB.out)⟩)
  go_enter Tryz.func276, Tryz.ntmps276
  go_wp2_with fail
  refine bodyPost_ret (v := .int .i64 0) (by simp [results, Tryz.results276, go_sem]) rfl ?_
  exact HF.out
set_option maxHeartbeats 8000000 in
theorem read_some {σ : Type} (C : σ → Array Value) (t : TypeId) (mb M nM : Nat) (isK : Txt → Bool) (err : Txt → Txt → Int) (set : Txt → Txt → σ → σ) (f : Txt → Option Value) (W1 : World) (s : Txt) (st : σ) (w : World) (hs : s.length ≤ 1000000) (hne : s ≠ [])
    (hmap : MapIs w M nM f) (hMm : M ≠ mb) (hf : ∀ k, (f k).isSome = isK k) (hd : ∀ k v, f k = some v → DoesP C t mb err set W1 k v) (hA : Apart mb W1.heap.size W1 w) (hb : w.heap[mb]? = some (.cells (C st) t (0, 0))) :
    Calls Tryz.prog 276 #[.string (mkS s), .map (some M)] w (ReadPost C t mb isK err set s st w) := by
  have hT := mkS_toList s
  have d0 : s.isEmpty = false := by cases s <;> first | exact absurd rfl hne | rfl
  have hmb := ltOf hb
  have HMAP := Lib.hid hmap
  have HD := Lib.hid hd
  have HFK := Lib.hid hf
  have HA := Lib.hid hA
  have HB := Lib.hid hb
  have HMM := Lib.hid hMm
  have hMl := hmap.lt
  have HCM := Lib.hid (cap_map 32 s (by omega))
  have HRE := Lib.hid (show rdE isK err s = errs isK err [] (splitC 32 s) from if_neg hne)
  have HRS := Lib.hid (show rdS set s st = fin set (splitC 32 s) st from if_neg hne)
  have hmm := @run_makeMap Tryz.prog
  have hlen := splitC_len 32 s
  clear hmap hd hf hA hb hMm hne
  refine (callsIn_wide (n := 4)).1 ?_
  refine callsIn_of_wp_marks Tryz.func276 rfl trivial ?_ rfl
  simp only [Tryz.ntmps276, List.size_toArray, List.length_cons, List.length_nil, Nat.reduceAdd, Nat.reduceSub, Array.replicate_succ, Array.replicate_zero, List.push_toArray, List.append_toArray, List.nil_append, List.cons_append]
  gi_wp2_with (refine ⟨trivial, ?_⟩; gi_at_call 311; refine (callsIn_wide.2 (pieces_x 32 s _)).mono ?_; rintro e w' ⟨rfl, rfl⟩)
  obtain ⟨⟨⟨k0, k1, k2, k3, k4, k5⟩, kB⟩, kS⟩ := alloc6 w (.cells #[.map (some M)] 301) (.cells #[.int .i64 0] 25) (.map #[] 0) (.cells #[.map (some (w.heap.size + 1 + 1))] 324) (.cells #[.string (mkS s)] 9) (.cells #[.string { data := #[32] }] 9)
  have kM : MapIs ((((((w.alloc (.cells #[.map (some M)] 301)).alloc (.cells #[.int .i64 0] 25)).alloc (.map #[] 0)).alloc (.cells #[.map (some (w.heap.size + 1 + 1))] 324)).alloc (.cells #[.string (mkS s)] 9)).alloc (.cells #[.string { data := #[32] }] 9)) (w.heap.size + 2) 0 fun _ => none := by
    have h0 := MapIs.made ((w.alloc (.cells #[.map (some M)] 301)).alloc (.cells #[.int .i64 0] 25))
    rw [show ((w.alloc (.cells #[.map (some M)] 301)).alloc (.cells #[.int .i64 0] 25)).heap.size = w.heap.size + 2 by simp] at h0
    exact ((h0.kept (World.grownBy_alloc _ _ none) (by simp)).kept (World.grownBy_alloc _ _ none) (by simp)).kept (World.grownBy_alloc _ _ none) (by simp)
  generalize (((((w.alloc (.cells #[.map (some M)] 301)).alloc (.cells #[.int .i64 0] 25)).alloc (.map #[] 0)).alloc (.cells #[.map (some (w.heap.size + 1 + 1))] 324)).alloc (.cells #[.string (mkS s)] 9)).alloc (.cells #[.string { data := #[32] }] 9) = W0 at k0 k1 k2 k3 k4 k5 kB kS kM ⊢
  have hJ0 : RJ C t mb M w st [] 0 W0 := ⟨.of kB, (kB.block mb hmb).trans HB.out, cellOf k0 0, cellOf k1 0, freeOf k1 0, cellOf k3 0, kM.congr (by intro k; simp)⟩
  refine wpIn_rangeFunc_ownG rfl (by omega) (gf := 349) (lb := #[.pointer (some ⟨w.heap.size + 4, 0, none⟩), .pointer (some ⟨w.heap.size + 5, 0, none⟩)]) rfl trivial (enters_of Tryz.func349 (by kernel_rfl) rfl)
    (pieces_stops 32 3 (by omega) (w.heap.size + 4) (w.heap.size + 5) s (by omega) W0 (by omega) (cellOf k4 0) (by omega) (cellOf k5 0)) (fun h k => keepsCell_t h k) (fun W l o o' _ hl ho _ => keepsCell_b W l o o' hl ho) (Below.refl _ _) (fun _ => rfl)
    (fun pre W => errs isK err [] (pre.map capL) = 0 ∧ RJ C t mb M w (fin set (pre.map capL) st) ((pre.map capL).map keyW).reverse pre.length W)
    (fun c pre W => (c = .ret ∧ errs isK err [] (pre.map capL) ≠ 0 ∧ W.cell? ⟨w.heap.size + 1, 0, none⟩ = some (.int .i64 (errs isK err [] (pre.map capL)))) ∧ Apart mb w.heap.size w W)
    (fun s A B row hs hg hr => ⟨hs.1, hs.2.own W0.heap.size hmb (by omega) hg hr⟩)
    (fun c => OwnFrom.and (Own.from (fun s A B row hs hg hr => ⟨hs.1, hs.2.1, cell_kept hs.2.2 hg hr⟩) _) (apart_own _ (by omega) mb))
    ⟨rfl, hJ0⟩
    (fun x => { tmps := #[.string (mkS s), .map (some M), undef, .pointer (some ⟨w.heap.size, 0, none⟩), .pointer (some ⟨w.heap.size + 1, 0, none⟩), .pointer (some ⟨w.heap.size + 3, 0, none⟩), .string (mkS (capL x)), undef, undef, undef, undef, undef, undef, .string (mkS s), .bool false, .map (some (w.heap.size + 2)), .string (mkS s), .func (.func 349) #[] #[.pointer (some ⟨w.heap.size + 4, 0, none⟩), .pointer (some ⟨w.heap.size + 5, 0, none⟩)], .string (mkS (capL x)), undef, undef, undef, undef, undef, undef, undef, undef, undef, undef, undef, undef, undef, undef, undef, undef, undef, undef, undef, undef, undef, undef, undef, undef, undef, undef, undef, undef, undef, undef, undef, undef, undef, undef, undef], defers := [] }) ?assign ?body ?done ?stop
  case assign =>
    intro l x W K hK
    gi_wp2
    exact hK
  case body =>
    rintro l pre x W ⟨herr, hJ⟩ hpl
    have HW := Lib.hid (show errs isK err [] ((pre ++ [x]).map capL) = if capL x = [] then 2 else if isK (keyW (capL x)) = false then 10 else if keyW (capL x) ∈ ((pre.map capL).map keyW).reverse then 11 else err (keyW (capL x)) (valW (capL x)) by
      rw [List.map_append]; exact errs_snoc _ herr)
    have HST := Lib.hid (show fin set ((pre ++ [x]).map capL) st = set (keyW (capL x)) (valW (capL x)) (fin set (pre.map capL) st) by rw [List.map_append, fin_append]; rfl)
    have HKS := Lib.hid (show (((pre ++ [x]).map capL).map keyW).reverse = keyW (capL x) :: ((pre.map capL).map keyW).reverse by simp)
    have hcl := capL_le x
    have HJ := Lib.hid hJ
    clear hJ herr
    generalize fin set (pre.map capL) st = st1 at HST HJ
    generalize ((pre.map capL).map keyW).reverse = ks at HW HKS HJ
    generalize capL x = y at HW HST HKS hcl ⊢
    have HC := Lib.hid (fun w => cut_x 61 y w (by omega))
    have hp1 := pre_le 61 y
    have hp2 := post_le 61 y
    have hKl := upL_length (preC 61 y)
    have HU := Lib.hid (fun w => cap_x (preC 61 y) w (by omega))
    have eK : keyW y = upL (preC 61 y) := rfl
    have eV : valW y = postC 61 y := rfl
    rw [eK, eV] at HW HST
    rw [eK] at HKS
    clear eK eV
    generalize upL (preC 61 y) = K at HU HW HST HKS hKl
    generalize preC 61 y = p0 at HC HU hp1 hKl
    generalize postC 61 y = v0 at HC HW HST hp2
    generalize hasC 61 y = q0 at HC
    have hTy := mkS_toList y
    have hT2 : ∀ l : Txt, (mkS l).toList.isEmpty = l.isEmpty := fun l => by rw [mkS_toList]
    by_cases hy : y = []
    · have dy : y.isEmpty = true := by rw [hy]; rfl
      have HF := Lib.hid (HW.out.trans (if_pos hy))
      clear hy HW
      gi_wp2
      refine ⟨trivial, (CallsIn.inRound l (callsIn_wide.2 (HC.out _))).mono ?_⟩
      rintro e w1 ⟨rfl, k1, rfl⟩
      gi_wp2
      refine ⟨trivial, (CallsIn.inRound l (callsIn_wide.2 (HU.out _))).mono ?_⟩
      rintro e W2 ⟨rfl, hb2⟩
      have hB2 : Below W.heap.size W W2 := (drew_below W k1).trans hb2
      have hJ2 := HJ.out.next hB2
      have HJ2 := Lib.hid hJ2
      have HB2 := Lib.hid hB2
      have c1 := hJ2.dob
      have c2 := hJ2.res
      have c3 := hJ2.resf
      have c4 := hJ2.sbx
      have l1 := ((HMAP.out).block (hJ2.ap.block M hMl HMM.out)).look_ok Tryz.underlying301 (zeroF W2) (k := K) (by omega)
      have l2 := hJ2.said.look Tryz.underlying324 (zero3 W2) (k := K) (by omega)
      clear hJ2 hb2 hB2
      gi_wp2
      exact ⟨(keepsFrom_apart (mb := mb) (by omega) (.of HB2.out)).trans ((KeepsOthers.setCell _ _ _).from _), ⟨rfl, by rw [HF.out]; decide, by rw [HF.out]; exact World.cell?_setCell_same' _ _ _ (by rw [c2]; rfl)⟩, HJ2.out.ap.far (by omega) _⟩
    · have dy : y.isEmpty = false := by cases y <;> first | exact absurd rfl hy | rfl
      have HW2 := Lib.hid (HW.out.trans (if_neg hy))
      clear hy HW
      have hfk := HFK.out K
      cases hfv : f K with
      | none =>
        have hik : isK K = false := by rw [← hfk, hfv]; rfl
        have HF := Lib.hid (HW2.out.trans (if_pos hik))
        clear HW2 hfk hik
        gi_wp2
        refine ⟨trivial, (CallsIn.inRound l (callsIn_wide.2 (HC.out _))).mono ?_⟩
        rintro e w1 ⟨rfl, k1, rfl⟩
        gi_wp2
        refine ⟨trivial, (CallsIn.inRound l (callsIn_wide.2 (HU.out _))).mono ?_⟩
        rintro e W2 ⟨rfl, hb2⟩
        have hB2 : Below W.heap.size W W2 := (drew_below W k1).trans hb2
        have hJ2 := HJ.out.next hB2
        have HJ2 := Lib.hid hJ2
        have HB2 := Lib.hid hB2
        have c1 := hJ2.dob
        have c2 := hJ2.res
        have c3 := hJ2.resf
        have c4 := hJ2.sbx
        have l1 := ((HMAP.out).block (hJ2.ap.block M hMl HMM.out)).look_ok Tryz.underlying301 (zeroF W2) (k := K) (by omega)
        have l2 := hJ2.said.look Tryz.underlying324 (zero3 W2) (k := K) (by omega)
        clear hJ2 hb2 hB2
        rw [hfv] at l1
        simp only [Option.getD_none, Option.isSome_none] at l1
        clear hfv
        gi_wp2
        exact ⟨(keepsFrom_apart (mb := mb) (by omega) (.of HB2.out)).trans ((KeepsOthers.setCell _ _ _).from _), ⟨rfl, by rw [HF.out]; decide, by rw [HF.out]; exact World.cell?_setCell_same' _ _ _ (by rw [c2]; rfl)⟩, HJ2.out.ap.far (by omega) _⟩
      | some fv =>
        have hik : ¬ isK K = false := by rw [← hfk, hfv]; simp
        have HW3 := Lib.hid (HW2.out.trans (if_neg hik))
        obtain ⟨g, bs, rfl, eg, hcall⟩ := HD.out K fv hfv
        have HCL := Lib.hid (hcall)
        clear HW2 hfk hik hcall
        by_cases hin : K ∈ ks
        · have HF := Lib.hid (HW3.out.trans (if_pos hin))
          clear HW3
          gi_wp2
          refine ⟨trivial, (CallsIn.inRound l (callsIn_wide.2 (HC.out _))).mono ?_⟩
          rintro e w1 ⟨rfl, k1, rfl⟩
          gi_wp2
          refine ⟨trivial, (CallsIn.inRound l (callsIn_wide.2 (HU.out _))).mono ?_⟩
          rintro e W2 ⟨rfl, hb2⟩
          have hB2 : Below W.heap.size W W2 := (drew_below W k1).trans hb2
          have hJ2 := HJ.out.next hB2
          have HJ2 := Lib.hid hJ2
          have HB2 := Lib.hid hB2
          have c1 := hJ2.dob
          have c2 := hJ2.res
          have c3 := hJ2.resf
          have c4 := hJ2.sbx
          have l1 := ((HMAP.out).block (hJ2.ap.block M hMl HMM.out)).look_ok Tryz.underlying301 (zeroF W2) (k := K) (by omega)
          have l2 := hJ2.said.look Tryz.underlying324 (zero3 W2) (k := K) (by omega)
          clear hJ2 hb2 hB2
          rw [hfv] at l1
          simp only [Option.getD_some, Option.isSome_some] at l1
          rw [if_pos hin] at l2
          simp only [Option.getD_some] at l2
          clear hfv hin
          gi_wp2
          exact ⟨(keepsFrom_apart (mb := mb) (by omega) (.of HB2.out)).trans ((KeepsOthers.setCell _ _ _).from _), ⟨rfl, by rw [HF.out]; decide, by rw [HF.out]; exact World.cell?_setCell_same' _ _ _ (by rw [c2]; rfl)⟩, HJ2.out.ap.far (by omega) _⟩
        · have HW4 := Lib.hid (HW3.out.trans (if_neg hin))
          clear HW3
          gi_wp2
          refine ⟨trivial, (CallsIn.inRound l (callsIn_wide.2 (HC.out _))).mono ?_⟩
          rintro e w1 ⟨rfl, k1, rfl⟩
          gi_wp2
          refine ⟨trivial, (CallsIn.inRound l (callsIn_wide.2 (HU.out _))).mono ?_⟩
          rintro e W2 ⟨rfl, hb2⟩
          have hB2 : Below W.heap.size W W2 := (drew_below W k1).trans hb2
          have hJ2 := HJ.out.next hB2
          have HJ2 := Lib.hid hJ2
          have HB2 := Lib.hid hB2
          have c1 := hJ2.dob
          have c2 := hJ2.res
          have c3 := hJ2.resf
          have c4 := hJ2.sbx
          have l1 := ((HMAP.out).block (hJ2.ap.block M hMl HMM.out)).look_ok Tryz.underlying301 (zeroF W2) (k := K) (by omega)
          have l2 := hJ2.said.look Tryz.underlying324 (zero3 W2) (k := K) (by omega)
          clear hJ2 hb2 hB2
          rw [hfv] at l1
          simp only [Option.getD_some, Option.isSome_some] at l1
          rw [if_neg hin] at l2
          simp only [Option.getD_none] at l2
          have HIN := Lib.hid hin
          clear hfv hin
          have HCALL := Lib.hid (HCL.out W2 st1 v0 (by omega) (HA.out.trans (HJ2.out.ap.mono HA.out.size)) HJ2.out.blk)
          clear HCL
          generalize err K v0 = E at HW4 HCALL
          gi_wp2
          refine ⟨trivial, (CallsIn.inRound l (callsIn_wide.2 HCALL.out)).mono ?_⟩
          rintro e W4 ⟨rfl, hap4, hok⟩
          have HAP := Lib.hid hap4
          have hap : Apart mb W.heap.size W W4 := (Apart.of HB2.out).next hap4
          have HAPW := Lib.hid hap
          by_cases hE : E = 0
          · subst hE
            have hJ4 := HJ2.out.told (st' := set K v0 st1) hmb hap4 (hok rfl)
            have HJ4 := Lib.hid hJ4
            have c5 := hJ4.sbx
            have l3 := hJ4.said.look Tryz.underlying324 (zero3 W4) (k := K) (by omega)
            rw [if_neg HIN.out] at l3
            simp only [Option.getD_none] at l3
            clear hJ4 hap4 hok hap
            gi_wp2_with (gi_at_mapUpdate; refine wpListIn_update_map _ rfl _ _ _ 324 3 rfl Tryz.underlying324 _ _ _ rfl HJ4.out.said (by omega) K (.int .i64 1) rfl (by omega) rfl ?_; intro W5 hM5 hg5)
            refine ⟨(keepsFrom_apart (by omega) HAPW.out).trans (KeepsFrom.of_grownBy hg5 (fun j e => by cases e; omega)), keepsCell_t (keepsCell_apart (by omega) HAPW.out) (keepsCell_grown (by omega) hg5), HW4.out, ?_⟩
            rw [HST.out, HKS.out, List.length_append]
            exact HJ4.out.put hmb hM5 hg5
          · have d9 : (E != 0) = true := bne_iff_ne.2 hE
            have HF := Lib.hid HW4.out
            have HE := Lib.hid hE
            have c6 : W4.cell? ⟨w.heap.size + 1, 0, none⟩ = some (.int .i64 0) := (hap4.cell (cell_lt c2) (by omega) 0 none).trans c2
            have c7 : W4.frozen? ⟨w.heap.size + 1, 0, none⟩ = false := (hap4.frozen (cell_lt c2) (by omega) 0 none).trans c3
            clear hap4 hok hap hE
            gi_wp2
            exact ⟨(keepsFrom_apart (by omega) HAPW.out).trans ((KeepsOthers.setCell _ _ _).from _), ⟨rfl, by rw [HF.out]; exact HE.out, by rw [HF.out]; exact World.cell?_setCell_same' _ _ _ (by rw [c6]; rfl)⟩, (HJ.out.ap.next HAPW.out).far (by omega) _⟩
  case done =>
    rintro D ys W hD rfl ⟨herr, hJ⟩ hK
    rw [HCM.out] at herr hJ
    have c1 := hJ.res
    have c2 := hJ.resf
    have HJ := Lib.hid hJ
    have HER := Lib.hid herr
    clear hJ herr
    gi_wp2
    have hK1 := (KeepsOthers.setCell W ⟨w.heap.size + 1, 0, none⟩ (.int .i64 0)).same D _ hK rfl
    refine ⟨by simp, .inl ⟨_, _, rfl, run_takeDeferred hK1, ?_⟩⟩
    have hc5 := cell_kept (World.cell?_setCell_same' W ⟨w.heap.size + 1, 0, none⟩ (.int .i64 0) (by rw [c1]; rfl)) (grownBy_putObj' _ D (.deferred none)) (fun r e => by cases e; exact ⟨_, hK1, rfl⟩)
    refine ⟨.int .i64 0, ?_, by rw [HRE.out, HER.out], (HJ.out.ap.far (by omega) _).putD (by omega) _, fun _ => ?_⟩
    · simp [results, Tryz.f276, go_sem, hc5]
    · rw [HRS.out]
      exact (World.putObj_heap_other (by omega)).trans ((Below.heap_setCell _ _ _ mb (show mb ≠ w.heap.size + 1 by omega)).trans HJ.out.blk)
  case stop =>
    rintro D c pre W hD hpre ⟨⟨rfl, hne, hr⟩, hap⟩ hK
    gi_wp2
    refine ⟨by simp, .inl ⟨_, _, rfl, run_takeDeferred hK, ?_⟩⟩
    have hc5 := cell_kept hr (grownBy_putObj' _ D (.deferred none)) (fun r e => by cases e; exact ⟨_, hK, rfl⟩)
    have hee : errs isK err [] (splitC 32 s) = errs isK err [] (pre.map capL) := by
      obtain ⟨post, hpost⟩ := hpre
      rw [← HCM.out, ← hpost, List.map_append, errs_append, if_neg hne]
    refine ⟨.int .i64 (errs isK err [] (pre.map capL)), ?_, by rw [HRE.out, hee], hap.putD (by omega) _, fun h0 => absurd (by rw [← hee, ← HRE.out]; exact h0) hne⟩
    simp [results, Tryz.f276, go_sem, hc5]
theorem read_x {σ : Type} (C : σ → Array Value) (t : TypeId) (mb M nM : Nat) (isK : Txt → Bool) (err : Txt → Txt → Int) (set : Txt → Txt → σ → σ) (f : Txt → Option Value) (W1 : World) (s : Txt) (st : σ) (w : World) (hs : s.length ≤ 1000000)
    (hmap : MapIs w M nM f) (hMm : M ≠ mb) (hf : ∀ k, (f k).isSome = isK k) (hd : ∀ k v, f k = some v → DoesP C t mb err set W1 k v) (hA : Apart mb W1.heap.size W1 w) (hb : w.heap[mb]? = some (.cells (C st) t (0, 0))) :
    Calls Tryz.prog 276 #[.string (mkS s), .map (some M)] w (ReadPost C t mb isK err set s st w) := by
  by_cases hne : s = []
  · subst hne
    exact read_none C t mb M isK err set st w hb
  · exact read_some C t mb M nM isK err set f W1 s st w hs hne hmap hMm hf hd hA hb
end Go.Proofs.YtbecdncnidcmdaaGreatDoor
