/-
  The walk of what NOTIFY's value tells.
-/
import Derived.Test.YtbecdncnidcmdaaGreatDoorPaNote
namespace Go.Proofs.YtbecdncnidcmdaaGreatDoor
set_option maxRecDepth 100000
open Go.RowKit Go.Shelf
attribute [local go_sem] Oper.semAt_some
/-- A new cell, and one that lay ahead of a new block. -/
theorem one_new (w : World) (v : Value) (t : TypeId) : (w.alloc (.cells #[v] t)).cell? ⟨w.heap.size, 0, none⟩ = some v ∧ (w.alloc (.cells #[v] t)).frozen? ⟨w.heap.size, 0, none⟩ = false :=
  ⟨cellOf (newOf w _) 0, freeOf (newOf w _) 0⟩
theorem one_old {w : World} {a : Addr} {v : Value} (o : Obj) (h : w.cell? a = some v ∧ w.frozen? a = false) : (w.alloc o).cell? a = some v ∧ (w.alloc o).frozen? a = false :=
  ⟨cell_kept h.1 (World.grownBy_alloc w o none) (fun r e => by cases e), (frozen_kept h.1 (World.grownBy_alloc w o none) (fun r e => by cases e)).trans h.2⟩
theorem alloc4 (w : World) (a b c d : Obj) : (((((w.alloc a).alloc b).alloc c).alloc d).heap[w.heap.size]? = some a ∧ ((((w.alloc a).alloc b).alloc c).alloc d).heap[w.heap.size + 1]? = some b ∧
    ((((w.alloc a).alloc b).alloc c).alloc d).heap[w.heap.size + 1 + 1]? = some c ∧ ((((w.alloc a).alloc b).alloc c).alloc d).heap[w.heap.size + 1 + 1 + 1]? = some d) ∧
    Below w.heap.size w ((((w.alloc a).alloc b).alloc c).alloc d) ∧ ((((w.alloc a).alloc b).alloc c).alloc d).heap.size = w.heap.size + 4 := by
  have h0 := newOf w a
  have h1 := new_alloc (w := w.alloc a) (n := w.heap.size + 1) b (by simp)
  have h2 := new_alloc (w := (w.alloc a).alloc b) (n := w.heap.size + 1 + 1) c (by simp)
  have h3 := new_alloc (w := ((w.alloc a).alloc b).alloc c) (n := w.heap.size + 1 + 1 + 1) d (by simp)
  refine ⟨⟨old_alloc (old_alloc (old_alloc h0)), old_alloc (old_alloc h1), old_alloc h2, h3⟩, ?_, by simp⟩
  exact ((((Below.refl _ w).alloc (Nat.le_refl _) _).alloc (by simp) _).alloc (by simp; omega) _).alloc (by simp; omega) _
theorem keepsCell_set {W : World} {b c : Nat} (h : b ≠ c) (v : Value) : KeepsCell ⟨c, 0, none⟩ W (W.setCell ⟨b, 0, none⟩ v) := fun _ hv => (World.cell?_setCell_far _ _ _ _ h).trans hv
theorem Told.far {mb b : Nat} {cs : Array Value} {t : TypeId} {w w' : World} (h : Told mb cs t w w') (hb : w.heap.size ≤ b) (hne : mb ≠ b) (v : Value) : Told mb cs t w (w'.setCell ⟨b, 0, none⟩ v) :=
  ⟨⟨h.1.os, h.1.tape, h.1.output, by rw [World.size_setCell]; exact h.1.size, fun k hk hn => (Below.heap_setCell _ _ _ k (show k ≠ b by omega)).trans (h.1.block k hk hn)⟩, (Below.heap_setCell _ _ _ mb hne).trans h.2⟩
theorem Told.putD {mb D : Nat} {cs : Array Value} {t : TypeId} {w w' : World} (h : Told mb cs t w w') (hm : mb < w.heap.size) (hD : w.heap.size ≤ D) (o : Obj) : Told mb cs t w (w'.putObj D o) :=
  ⟨⟨h.1.os, h.1.tape, h.1.output, by rw [World.putObj_size]; exact h.1.size, fun k hk hn => (World.putObj_heap_other (by omega)).trans (h.1.block k hk hn)⟩, (World.putObj_heap_other (by omega)).trans h.2⟩
theorem letG_append : ∀ (a b : List Txt) (all : Txt), letG (a ++ b) all = (letG a all).bind (letG b)
  | [], _, _ => rfl
  | x :: a, b, all => by
    rw [List.cons_append, letG, letG]
    split
    · rfl
    · exact letG_append a b _
theorem letG_one (x all : Txt) : letG [x] all = if initV x = [] ∨ (∃ b ∈ initV x, b ∈ all) then none else some (all ++ initV x) := by
  rw [letG]
  split <;> rfl
theorem init_cases (n : Txt) : initV n = [] ∨ ∃ c, initV n = [c] := by
  unfold initV
  by_cases h0 : n = tSU
  · rw [if_pos h0]; exact .inr ⟨_, rfl⟩
  · rw [if_neg h0]
    by_cases h1 : n = tFA
    · rw [if_pos h1]; exact .inr ⟨_, rfl⟩
    · rw [if_neg h1]
      by_cases h2 : n = tDE
      · rw [if_pos h2]; exact .inr ⟨_, rfl⟩
      · rw [if_neg h2]; exact .inl rfl
theorem cap_map (c : UInt8) (s : Txt) (hs : s.length ≤ 1000000000) : (splitC c s).map capL = splitC c s := by
  have : (splitC c s).map capL = (splitC c s).map id := List.map_congr_left fun x hx => capL_id (Nat.le_trans (splitC_le c s x hx) hs)
  rw [this, List.map_id]
def notC (v : Txt) (cs : Array Value) (i : Nat) : Array Value := if notE v = 0 then cs.setIfInBounds i (.string (mkS (notV v))) else cs
theorem not_yes {v a : Txt} (hv : v ≠ tNE) (h : letG (splitC 44 v) [] = some a) : notE v = 0 ∧ notV v = ordV a := by
  have : notL v = some (ordV a) := by rw [notL, if_neg hv, h]; rfl
  unfold notE notV
  rw [this]
  exact ⟨rfl, rfl⟩
theorem not_no {v : Txt} (hv : v ≠ tNE) (h : letG (splitC 44 v) [] = none) : notE v = 2 := by
  have : notL v = none := by rw [notL, if_neg hv, h]; rfl
  unfold notE
  rw [this]
  rfl
theorem letN_yes (cs : Array Value) {i : Nat} {v a : Txt} (hv : v ≠ tNE) (h : letG (splitC 44 v) [] = some a) : notC v cs i = cs.setIfInBounds i (.string (mkS (ordV a))) := by
  rw [notC, if_pos (not_yes hv h).1, (not_yes hv h).2]
theorem letN_no (cs : Array Value) {i : Nat} {v : Txt} (hv : v ≠ tNE) (h : letG (splitC 44 v) [] = none) : notC v cs i = cs := by
  rw [notC, if_neg (by rw [not_no hv h]; decide)]
theorem not_never : notE tNE = 0 ∧ notV tNE = [78] := by decide +kernel
set_option maxHeartbeats 2000000 in
theorem notified_never (mb i : Nat) (cs : Array Value) (t : TypeId) (o : Value) (w : World) (hb : w.heap[mb]? = some (.cells cs t (0, 0))) (hi : cs[i]? = some o) :
    Calls Tryz.prog 329 #[.pointer (some ⟨mb, i, none⟩), .string { data := #[78, 69, 86, 69, 82] }] w fun e w' => e = .returned (.int .i64 0) ∧ Told mb (cs.setIfInBounds i (.string (mkS [78]))) t w w' := by
  have hlt := ltOf hb
  have HB := Lib.hid hb
  have c0 : w.cell? ⟨mb, i, none⟩ = some o := (cellOf hb i).trans hi
  have c1 := freeOf hb i
  clear hb
  have HF : Told mb (cs.setIfInBounds i (.string (mkS [78]))) t w ((w.setCell ⟨mb, i, none⟩ (.string { data := #[78] })).alloc (.cells #[.int .i64 0] 25)) := by
    have h1 : Told mb (cs.setIfInBounds i (.string (mkS [78]))) t w (w.setCell ⟨mb, i, none⟩ (.string (mkS [78]))) := (Told.of HB.out (Below.refl _ _)).set i _
    exact h1.then (.of h1.2 ((Below.refl _ _).alloc (Nat.le_refl _) _))
  have HG := Lib.hid HF
  clear HF
  go_enter Tryz.func329, Tryz.ntmps329
  go_wp2_with fail
  refine bodyPost_ret (v := .int .i64 0) (by simp [results, Tryz.results329, go_sem]) rfl ?_
  exact ⟨rfl, HG.out⟩
set_option maxHeartbeats 4000000 in
theorem notified_x (mb i : Nat) (cs : Array Value) (t : TypeId) (o : Value) (v : Txt) (w : World) (hN : NotR w) (hv : v.length ≤ 1000000000) (hb : w.heap[mb]? = some (.cells cs t (0, 0))) (hi : cs[i]? = some o) (hne : v ≠ tNE) :
    Calls Tryz.prog 329 #[.pointer (some ⟨mb, i, none⟩), .string (mkS v)] w fun e w' => e = .returned (.int .i64 (notE v)) ∧ Told mb (notC v cs i) t w w' := by
  have hT := mkS_toList v
  have d0 : (v == ([78, 69, 86, 69, 82] : Txt)) = false := beq_eq_false_iff_ne.2 hne
  have HNE := Lib.hid hne
  have HMAP := Lib.hid (cap_map 44 v hv)
  have HN := Lib.hid hN
  have HB := Lib.hid hb
  have HI := Lib.hid hi
  have hlt := ltOf hb
  have hlen := splitC_len 44 v
  clear hN hb hi hne
  refine (callsIn_wide (n := 4)).1 ?_
  refine callsIn_of_wp_marks Tryz.func329 rfl trivial ?_ rfl
  simp only [Tryz.ntmps329, List.size_toArray, List.length_cons, List.length_nil, Nat.reduceAdd, Nat.reduceSub, Array.replicate_succ, Array.replicate_zero, List.push_toArray, List.append_toArray, List.nil_append, List.cons_append]
  gi_wp2_with (refine ⟨trivial, ?_⟩; gi_at_call 311; refine (callsIn_wide.2 (pieces_x 44 v _)).mono ?_; rintro e w' ⟨rfl, rfl⟩)
  obtain ⟨⟨k0, k1, k2, k3⟩, kB, kS⟩ := alloc4 w (.cells #[.int .i64 0] 25) (.cells #[.string { data := #[] }] 9) (.cells #[.string (mkS v)] 9) (.cells #[.string { data := #[44] }] 9)
  generalize (((w.alloc (.cells #[.int .i64 0] 25)).alloc (.cells #[.string { data := #[] }] 9)).alloc (.cells #[.string (mkS v)] 9)).alloc (.cells #[.string { data := #[44] }] 9) = W0 at k0 k1 k2 k3 kB kS ⊢
  refine wpIn_rangeFunc_ownF rfl (by omega) (gf := 349) (lb := #[.pointer (some ⟨w.heap.size + 1 + 1, 0, none⟩), .pointer (some ⟨w.heap.size + 1 + 1 + 1, 0, none⟩)]) rfl trivial (enters_of Tryz.func349 (by kernel_rfl) rfl)
    (pieces_stops 44 3 (by omega) (w.heap.size + 1 + 1) (w.heap.size + 1 + 1 + 1) v hv W0 (by omega) (cellOf k2 0) (by omega) (cellOf k3 0)) (fun h k => keepsCell_t h k) (fun W l o o' _ hl ho _ => keepsCell_b W l o o' hl ho) (Below.refl _ _) (fun _ => rfl)
    (fun pre W => (∃ a, letG (pre.map capL) [] = some a ∧ a.length ≤ pre.length ∧ W.cell? ⟨w.heap.size, 0, none⟩ = some (.int .i64 0) ∧ W.frozen? ⟨w.heap.size, 0, none⟩ = false ∧ W.cell? ⟨w.heap.size + 1, 0, none⟩ = some (.string (mkS a)) ∧ W.frozen? ⟨w.heap.size + 1, 0, none⟩ = false) ∧ Below w.heap.size w W)
    (fun c pre W => (c = .ret ∧ letG (pre.map capL) [] = none ∧ W.cell? ⟨w.heap.size, 0, none⟩ = some (.int .i64 2)) ∧ Below w.heap.size w W)
    (OwnFrom.and (Own.from (fun s A B row hs hg hr => by
      obtain ⟨a, h1, h2, h3, h4, h5, h6⟩ := hs
      exact ⟨a, h1, h2, cell_kept h3 hg hr, (frozen_kept h3 hg hr).trans h4, cell_kept h5 hg hr, (frozen_kept h5 hg hr).trans h6⟩) _) (ownFrom_below (Nat.le_refl _) (by omega)))
    (fun c => OwnFrom.and (Own.from (fun s A B row hs hg hr => ⟨hs.1, hs.2.1, cell_kept hs.2.2 hg hr⟩) _) (ownFrom_below (Nat.le_refl _) (by omega)))
    ⟨⟨[], rfl, Nat.le_refl _, cellOf k0 0, freeOf k0 0, cellOf k1 0, freeOf k1 0⟩, kB⟩
    (fun x => { tmps := #[.pointer (some ⟨mb, i, none⟩), .string (mkS v), undef, undef, .pointer (some ⟨w.heap.size, 0, none⟩), .pointer (some ⟨w.heap.size + 1, 0, none⟩), .string (mkS (capL x)), undef, .string (mkS v), .bool false, undef, undef, .string (mkS v), .func (.func 349) #[] #[.pointer (some ⟨w.heap.size + 1 + 1, 0, none⟩), .pointer (some ⟨w.heap.size + 1 + 1 + 1, 0, none⟩)], .string (mkS (capL x)), undef, undef, undef, undef, undef, undef, undef, undef, undef, undef, undef, undef, undef, undef, undef, undef], defers := [] }) ?assign ?body ?done ?stop
  case assign =>
    intro l x W K hK
    gi_wp2
    exact hK
  case body =>
    rintro l pre x W ⟨⟨a, hg, hal, hr, hrf, ha, haf⟩, hBW⟩ hpl
    have HG := Lib.hid hg
    have HL := Lib.hid (show letG ((pre ++ [x]).map capL) [] = if initV (capL x) = [] ∨ (∃ b ∈ initV (capL x), b ∈ a) then none else some (a ++ initV (capL x)) by
      rw [List.map_append, letG_append, hg]
      exact letG_one _ _)
    generalize capL x = y at HL ⊢
    clear hg
    have HC := Lib.hid (fun w' (h : Below w.heap.size w w') => initial_x y w' (HN.out.below h))
    have ham := mkS_size a
    have hne1 : w.heap.size ≠ w.heap.size + 1 := by omega
    have hne2 : w.heap.size + 1 ≠ w.heap.size := by omega
    rcases init_cases y with hi | ⟨c, hi⟩
    · rw [hi] at HL HC
      rw [mkS_nil] at HC
      have HF := Lib.hid (HL.out.trans (if_pos (.inl rfl)))
      clear hi HL
      gi_wp2_with (refine ⟨trivial, ?_⟩; gi_at_call 357; refine (CallsIn.inRound l (callsIn_wide.2 (HC.out _ hBW))).mono ?_; rintro e w' ⟨rfl, rfl⟩)
      refine ⟨trivial, ?_⟩
      gi_wp2
      exact ⟨KeepsOthers.setCell _ _ _, ⟨rfl, HF.out, World.cell?_setCell_same' _ _ _ (by rw [hr]; rfl)⟩, hBW.setCell (p := ⟨w.heap.size, 0, none⟩) (Nat.le_refl _) _⟩
    · rw [hi] at HL HC
      have hm1 : mkS [c] = ⟨#[c]⟩ := rfl
      rw [hm1] at HC
      have HK := Lib.hid (fun w => contains_x a c w)
      by_cases hc : a.contains c = true
      · rw [hc] at HK
        have HF := Lib.hid (HL.out.trans (if_pos (.inr ⟨c, by simp, by simpa using hc⟩)))
        clear hi HL hc
        gi_wp2_with (refine ⟨trivial, ?_⟩; first | (gi_at_call 357; refine (CallsIn.inRound l (callsIn_wide.2 (HC.out _ hBW))).mono ?_; rintro e w' ⟨rfl, rfl⟩) | (gi_at_call 300; refine (CallsIn.inRound l (callsIn_wide.2 (HK.out _))).mono ?_; rintro e w' ⟨rfl, rfl⟩))
        exact ⟨KeepsOthers.setCell _ _ _, ⟨rfl, HF.out, World.cell?_setCell_same' _ _ _ (by rw [hr]; rfl)⟩, hBW.setCell (p := ⟨w.heap.size, 0, none⟩) (Nat.le_refl _) _⟩
      · have hc' : a.contains c = false := by simpa using hc
        rw [hc'] at HK
        have HF := Lib.hid (HL.out.trans (if_neg (by rintro (h | ⟨b, hb, hb2⟩) <;> simp_all)))
        have hcat : mkS a ++ ⟨#[c]⟩ = mkS (a ++ [c]) := mkS_cat a [c]
        have hms2 := mkS_size (a ++ [c])
        clear hi HL hc hc'
        gi_wp2_with (refine ⟨trivial, ?_⟩; first | (gi_at_call 357; refine (CallsIn.inRound l (callsIn_wide.2 (HC.out _ hBW))).mono ?_; rintro e w' ⟨rfl, rfl⟩) | (gi_at_call 300; refine (CallsIn.inRound l (callsIn_wide.2 (HK.out _))).mono ?_; rintro e w' ⟨rfl, rfl⟩))
        exact ⟨KeepsOthers.setCell _ _ _, keepsCell_set (by omega) _, ⟨a ++ [c], HF.out, by simp; omega, (World.cell?_setCell_far _ _ _ _ hne2).trans hr, (World.frozen?_setCell _ _ _ _).trans hrf, World.cell?_setCell_same' _ _ _ (by rw [ha]; rfl), (World.frozen?_setCell _ _ _ _).trans haf⟩, hBW.setCell (p := ⟨w.heap.size + 1, 0, none⟩) (Nat.le_succ _) _⟩
  case done =>
    rintro D ys W hD rfl ⟨⟨a, hg, hal, hr, hrf, ha, haf⟩, hBW⟩ hK
    rw [HMAP.out] at hg
    have HC := Lib.hid (letN_yes cs (i := i) HNE.out hg)
    have HE := Lib.hid (not_yes HNE.out hg).1
    have HT := Lib.hid (Told.of HB.out hBW)
    have c0 : W.cell? ⟨mb, i, none⟩ = some o := (cellOf HT.out.2 i).trans HI.out
    have c1 := freeOf HT.out.2 i
    have HO := Lib.hid (ordered_x a W (HN.out.below hBW))
    have HS := Lib.hid (HT.out.set i (.string (mkS (ordV a))))
    generalize ordV a = oa at HO HC HS
    have c2 : (W.setCell ⟨mb, i, none⟩ (.string (mkS oa))).cell? ⟨w.heap.size, 0, none⟩ = some (.int .i64 0) := (World.cell?_setCell_far _ _ _ _ (show mb ≠ w.heap.size by omega)).trans hr
    have c3 : (W.setCell ⟨mb, i, none⟩ (.string (mkS oa))).frozen? ⟨w.heap.size, 0, none⟩ = false := (World.frozen?_setCell _ _ _ _).trans hrf
    clear hg
    gi_wp2_with (refine ⟨trivial, ?_⟩; gi_at_call 297; refine (callsIn_wide.2 HO.out).mono ?_; rintro e w' ⟨rfl, rfl⟩)
    have hK1 := (KeepsOthers.setCell W ⟨mb, i, none⟩ (.string (mkS oa))).same D _ hK rfl
    have hK2 := (KeepsOthers.setCell (W.setCell ⟨mb, i, none⟩ (.string (mkS oa))) ⟨w.heap.size, 0, none⟩ (.int .i64 0)).same D _ hK1 rfl
    refine ⟨by simp, .inl ⟨_, _, rfl, run_takeDeferred hK2, ?_⟩⟩
    have hc5 := cell_kept (World.cell?_setCell_same' (W.setCell ⟨mb, i, none⟩ (.string (mkS oa))) ⟨w.heap.size, 0, none⟩ (.int .i64 0) (by rw [c2]; rfl)) (grownBy_putObj' _ D (.deferred none)) (fun r e => by cases e; exact ⟨_, hK2, rfl⟩)
    refine ⟨.int .i64 0, ?_, by rw [HE.out], ?_⟩
    · simp [results, Tryz.f329, go_sem, hc5]
    · rw [HC.out]
      exact ((HS.out.far (Nat.le_refl _) (by omega) _).putD (by omega) (by omega) _)
  case stop =>
    rintro D c pre W hD hpre ⟨⟨rfl, hg, hr⟩, hBW⟩ hK
    gi_wp2
    refine ⟨by simp, .inl ⟨_, _, rfl, run_takeDeferred hK, ?_⟩⟩
    have hc5 := cell_kept hr (grownBy_putObj' _ D (.deferred none)) (fun r e => by cases e; exact ⟨_, hK, rfl⟩)
    have hnone : letG (splitC 44 v) [] = none := by
      obtain ⟨post, hpost⟩ := hpre
      rw [← HMAP.out, ← hpost, List.map_append, letG_append, hg]
      rfl
    refine ⟨.int .i64 2, ?_, by rw [not_no HNE.out hnone], ?_⟩
    · simp [results, Tryz.f329, go_sem, hc5]
    · rw [letN_no cs HNE.out hnone]
      exact .of HB.out (hBW.trans (belowK_b (w := w) (Nat.le_refl _) W D _ _ (by omega) hK rfl rfl))
end Go.Proofs.YtbecdncnidcmdaaGreatDoor
