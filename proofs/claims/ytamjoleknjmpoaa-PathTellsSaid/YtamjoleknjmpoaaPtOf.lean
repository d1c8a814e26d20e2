/-
  The walks of path's ofLabels and ofAtoms.
-/
import Derived.Test.YtamjoleknjmpoaaPtParts
namespace Go.Proofs.Ytamjoleknjmpoaa
open Go.RowKit Go.Shelf
attribute [local go_sem] Oper.semAt_some
/-- A new cell, and one that lay ahead of a new block. -/
theorem one_new (w : World) (v : Value) (t : TypeId) : (w.alloc (.cells #[v] t)).cell? ⟨w.heap.size, 0, none⟩ = some v ∧ (w.alloc (.cells #[v] t)).frozen? ⟨w.heap.size, 0, none⟩ = false :=
  ⟨cellOf (newOf w _) 0, freeOf (newOf w _) 0⟩
theorem one_old {w : World} {a : Addr} {v : Value} (o : Obj) (h : w.cell? a = some v ∧ w.frozen? a = false) : (w.alloc o).cell? a = some v ∧ (w.alloc o).frozen? a = false :=
  ⟨cell_kept h.1 (World.grownBy_alloc w o none) (fun r e => by cases e), (frozen_kept h.1 (World.grownBy_alloc w o none) (fun r e => by cases e)).trans h.2⟩

set_option maxRecDepth 100000 in
set_option maxHeartbeats 2000000 in
theorem labels_x (s : List UInt8) (w : World) (hs : s.length ≤ 1000000000000) :
    Calls Try.prog 29 #[.string (mkS s)] w fun e w' => e = .returned (.bool (labels s)) ∧ Below w.heap.size w w' := by
  have HALL := Lib.hid (show (splitD s).all (fun x => isLab (capL x)) = labels s from cap_all isLab s hs)
  refine (callsIn_wide (n := 4)).1 ?_
  refine callsIn_of_wp_marks Try.func29 rfl trivial ?_ rfl
  simp only [Try.ntmps29, List.size_toArray, List.length_cons, List.length_nil, Nat.reduceAdd, Nat.reduceSub, Array.replicate_succ, Array.replicate_zero, List.push_toArray, List.append_toArray, List.nil_append, List.cons_append]
  gi_wp2_with (refine ⟨trivial, ?_⟩; gi_at_call 42; refine (callsIn_wide.2 (parts_x s _)).mono ?_; rintro e w' ⟨rfl, rfl⟩)
  have c1 := one_new w (.bool false) 4
  have c2 := one_new (w.alloc (.cells #[.bool false] 4)) (.string (mkS s)) 9
  simp only [World.size_alloc] at c1 c2
  have hB0 : Below w.heap.size w ((w.alloc (.cells #[.bool false] 4)).alloc (.cells #[.string (mkS s)] 9)) := ((Below.refl _ w).alloc (Nat.le_refl _) _).alloc (by simp) _
  refine wpIn_rangeFunc_ownF rfl (by omega) (gf := 54) (lb := #[.pointer (some ⟨w.heap.size + 1, 0, none⟩)]) rfl trivial (enters_of Try.func54 (by kernel_rfl) rfl)
    (parts_stops 3 (by omega) (w.heap.size + 1) w.heap.size s hs _ (by simp) c2.1) belowK_t (belowK_b (by simp; omega)) (Below.refl _ _) (fun _ => rfl)
    (fun pre W => (pre.all (fun x => isLab (capL x)) = true ∧ W.cell? ⟨w.heap.size, 0, none⟩ = some (.bool false) ∧ W.frozen? ⟨w.heap.size, 0, none⟩ = false) ∧ Below w.heap.size w W)
    (fun c pre W => (c = .ret ∧ pre.all (fun x => isLab (capL x)) = false ∧ W.cell? ⟨w.heap.size, 0, none⟩ = some (.bool false)) ∧ Below w.heap.size w W)
    (OwnFrom.and (Own.from (fun s A B row hs hg hr => ⟨hs.1, cell_kept hs.2.1 hg hr, (frozen_kept hs.2.1 hg hr).trans hs.2.2⟩) _) (ownFrom_below (Nat.le_refl _) (by simp; omega)))
    (fun c => OwnFrom.and (Own.from (fun s A B row hs hg hr => ⟨hs.1, hs.2.1, cell_kept hs.2.2 hg hr⟩) _) (ownFrom_below (Nat.le_refl _) (by simp; omega)))
    ⟨⟨rfl, one_old _ c1⟩, hB0⟩
    (fun x => { tmps := #[.string (mkS s), undef, .pointer (some ⟨w.heap.size, 0, none⟩), .string (mkS (capL x)), .string (mkS s), .func (.func 54) #[] #[.pointer (some ⟨w.heap.size + 1, 0, none⟩)], .string (mkS (capL x)), undef, undef, undef], defers := [] }) ?assign ?body ?done ?stop
  case assign =>
    intro l x W K hK
    gi_wp2
    exact hK
  case body =>
    rintro l pre x W ⟨⟨hp, hcr, hfr⟩, hB⟩ _
    have HP := Lib.hid hp
    have HX := Lib.hid (show (pre ++ [x]).all (fun x => isLab (capL x)) = isLab (capL x) by rw [List.all_append, hp]; simp)
    have hxl := capL_le x
    generalize capL x = y at HX hxl ⊢
    clear hp
    have HC := Lib.hid (fun w => isLabel_x y w hxl)
    generalize isLab y = q at HX HC
    cases q
    · gi_wp2_with (refine ⟨trivial, ?_⟩; gi_at_call 49; refine (CallsIn.inRound l (callsIn_wide.2 (HC.out _))).mono ?_; rintro e w' ⟨rfl, rfl⟩)
      exact ⟨KeepsOthers.setCell _ _ _, ⟨rfl, HX.out, World.cell?_setCell_same' _ _ _ (by rw [hcr]; rfl)⟩, hB.setCell (p := ⟨w.heap.size, 0, none⟩) (Nat.le_refl _) _⟩
    · gi_wp2_with (refine ⟨trivial, ?_⟩; gi_at_call 49; refine (CallsIn.inRound l (callsIn_wide.2 (HC.out _))).mono ?_; rintro e w' ⟨rfl, rfl⟩)
      exact ⟨KeepsOthers.refl _, Below.refl _ _, ⟨HX.out, hcr, hfr⟩, hB⟩
  case done =>
    rintro D ys W hD rfl ⟨⟨hall, hcr, hfr⟩, hB⟩ hK
    gi_wp2
    have hK' := (KeepsOthers.setCell W ⟨w.heap.size, 0, none⟩ (.bool true)).same D _ hK rfl
    refine ⟨by simp, .inl ⟨_, _, rfl, run_takeDeferred hK', ?_⟩⟩
    have hc5 := cell_kept (World.cell?_setCell_same' W ⟨w.heap.size, 0, none⟩ (.bool true) (by rw [hcr]; rfl)) (grownBy_putObj' _ D (.deferred none)) (fun r e => by cases e; exact ⟨_, hK', rfl⟩)
    refine ⟨.bool true, ?_, by rw [← HALL.out, hall], (hB.setCell (p := ⟨w.heap.size, 0, none⟩) (Nat.le_refl _) _).trans (belowK_b (w := w) (Nat.le_refl _) _ D _ _ (by simp at hD; omega) hK' rfl rfl)⟩
    simp [results, Try.f29, go_sem, hc5]
  case stop =>
    rintro D c pre W hD hpre ⟨⟨rfl, hin, hcr⟩, hB⟩ hK
    gi_wp2
    refine ⟨by simp, .inl ⟨_, _, rfl, run_takeDeferred hK, ?_⟩⟩
    have hc5 := cell_kept hcr (grownBy_putObj' _ D (.deferred none)) (fun r e => by cases e; exact ⟨_, hK, rfl⟩)
    refine ⟨.bool false, ?_, ?_, hB.trans (belowK_b (w := w) (Nat.le_refl _) W D _ _ (by simp at hD; omega) hK rfl rfl)⟩
    · simp [results, Try.f29, go_sem, hc5]
    · obtain ⟨post, hpost⟩ := hpre
      rw [← HALL.out, ← hpost, List.all_append, hin]
      rfl

set_option maxRecDepth 100000 in
set_option maxHeartbeats 2000000 in
theorem atoms_x (s : List UInt8) (w : World) (hs : s.length ≤ 1000000000000) :
    Calls Try.prog 21 #[.string (mkS s)] w fun e w' => e = .returned (.bool (atoms s)) ∧ Below w.heap.size w w' := by
  have HALL := Lib.hid (show (splitD s).all (fun x => isAtom (capL x)) = atoms s from cap_all isAtom s hs)
  refine (callsIn_wide (n := 4)).1 ?_
  refine callsIn_of_wp_marks Try.func21 rfl trivial ?_ rfl
  simp only [Try.ntmps21, List.size_toArray, List.length_cons, List.length_nil, Nat.reduceAdd, Nat.reduceSub, Array.replicate_succ, Array.replicate_zero, List.push_toArray, List.append_toArray, List.nil_append, List.cons_append]
  gi_wp2_with (refine ⟨trivial, ?_⟩; gi_at_call 42; refine (callsIn_wide.2 (parts_x s _)).mono ?_; rintro e w' ⟨rfl, rfl⟩)
  have c1 := one_new w (.bool false) 4
  have c2 := one_new (w.alloc (.cells #[.bool false] 4)) (.string (mkS s)) 9
  simp only [World.size_alloc] at c1 c2
  have hB0 : Below w.heap.size w ((w.alloc (.cells #[.bool false] 4)).alloc (.cells #[.string (mkS s)] 9)) := ((Below.refl _ w).alloc (Nat.le_refl _) _).alloc (by simp) _
  refine wpIn_rangeFunc_ownF rfl (by omega) (gf := 54) (lb := #[.pointer (some ⟨w.heap.size + 1, 0, none⟩)]) rfl trivial (enters_of Try.func54 (by kernel_rfl) rfl)
    (parts_stops 3 (by omega) (w.heap.size + 1) w.heap.size s hs _ (by simp) c2.1) belowK_t (belowK_b (by simp; omega)) (Below.refl _ _) (fun _ => rfl)
    (fun pre W => (pre.all (fun x => isAtom (capL x)) = true ∧ W.cell? ⟨w.heap.size, 0, none⟩ = some (.bool false) ∧ W.frozen? ⟨w.heap.size, 0, none⟩ = false) ∧ Below w.heap.size w W)
    (fun c pre W => (c = .ret ∧ pre.all (fun x => isAtom (capL x)) = false ∧ W.cell? ⟨w.heap.size, 0, none⟩ = some (.bool false)) ∧ Below w.heap.size w W)
    (OwnFrom.and (Own.from (fun s A B row hs hg hr => ⟨hs.1, cell_kept hs.2.1 hg hr, (frozen_kept hs.2.1 hg hr).trans hs.2.2⟩) _) (ownFrom_below (Nat.le_refl _) (by simp; omega)))
    (fun c => OwnFrom.and (Own.from (fun s A B row hs hg hr => ⟨hs.1, hs.2.1, cell_kept hs.2.2 hg hr⟩) _) (ownFrom_below (Nat.le_refl _) (by simp; omega)))
    ⟨⟨rfl, one_old _ c1⟩, hB0⟩
    (fun x => { tmps := #[.string (mkS s), undef, .pointer (some ⟨w.heap.size, 0, none⟩), .string (mkS (capL x)), .string (mkS s), .func (.func 54) #[] #[.pointer (some ⟨w.heap.size + 1, 0, none⟩)], .string (mkS (capL x)), undef, undef, undef, undef, undef, undef, undef], defers := [] }) ?assign ?body ?done ?stop
  case assign =>
    intro l x W K hK
    gi_wp2
    exact hK
  case body =>
    rintro l pre x W ⟨⟨hp, hcr, hfr⟩, hB⟩ _
    have HP := Lib.hid hp
    have HX := Lib.hid (show (pre ++ [x]).all (fun x => isAtom (capL x)) = isAtom (capL x) by rw [List.all_append, hp]; simp)
    have hxl := capL_le x
    generalize capL x = y at HX hxl ⊢
    clear hp
    have hT := mkS_toList y
    have HC := Lib.hid (fun w => everyA_x y w hxl)
    have HV := Lib.hid (show isAtom y = (y != [] && y.all atomB) from rfl)
    generalize isAtom y = q at HX HV
    by_cases hy : y = []
    · subst hy
      have HQ := Lib.hid (show q = false by rw [HV.out]; rfl)
      gi_wp2
      refine ⟨trivial, ?_⟩
      gi_wp2
      exact ⟨KeepsOthers.setCell _ _ _, ⟨rfl, by rw [HX.out, HQ.out], World.cell?_setCell_same' _ _ _ (by rw [hcr]; rfl)⟩, hB.setCell (p := ⟨w.heap.size, 0, none⟩) (Nat.le_refl _) _⟩
    · have hem2 : y.isEmpty = false := by cases y <;> simp_all
      have hem : (y == []) = false := beq_eq_false_iff_ne.2 hy
      have HQ := Lib.hid (show q = y.all atomB by rw [HV.out, bne, hem]; rfl)
      generalize y.all atomB = a at HC HQ
      clear hy
      cases a
      · gi_wp2_with (refine ⟨trivial, ?_⟩; gi_at_call 43; refine (CallsIn.inRound l (callsIn_wide.2 (HC.out _))).mono ?_; rintro e w' ⟨rfl, rfl⟩)
        exact ⟨KeepsOthers.setCell _ _ _, ⟨rfl, by rw [HX.out, HQ.out], World.cell?_setCell_same' _ _ _ (by rw [hcr]; rfl)⟩, hB.setCell (p := ⟨w.heap.size, 0, none⟩) (Nat.le_refl _) _⟩
      · gi_wp2_with (refine ⟨trivial, ?_⟩; gi_at_call 43; refine (CallsIn.inRound l (callsIn_wide.2 (HC.out _))).mono ?_; rintro e w' ⟨rfl, rfl⟩)
        exact ⟨KeepsOthers.refl _, Below.refl _ _, ⟨by rw [HX.out, HQ.out], hcr, hfr⟩, hB⟩
  case done =>
    rintro D ys W hD rfl ⟨⟨hall, hcr, hfr⟩, hB⟩ hK
    gi_wp2
    have hK' := (KeepsOthers.setCell W ⟨w.heap.size, 0, none⟩ (.bool true)).same D _ hK rfl
    refine ⟨by simp, .inl ⟨_, _, rfl, run_takeDeferred hK', ?_⟩⟩
    have hc5 := cell_kept (World.cell?_setCell_same' W ⟨w.heap.size, 0, none⟩ (.bool true) (by rw [hcr]; rfl)) (grownBy_putObj' _ D (.deferred none)) (fun r e => by cases e; exact ⟨_, hK', rfl⟩)
    refine ⟨.bool true, ?_, by rw [← HALL.out, hall], (hB.setCell (p := ⟨w.heap.size, 0, none⟩) (Nat.le_refl _) _).trans (belowK_b (w := w) (Nat.le_refl _) _ D _ _ (by simp at hD; omega) hK' rfl rfl)⟩
    simp [results, Try.f21, go_sem, hc5]
  case stop =>
    rintro D c pre W hD hpre ⟨⟨rfl, hin, hcr⟩, hB⟩ hK
    gi_wp2
    refine ⟨by simp, .inl ⟨_, _, rfl, run_takeDeferred hK, ?_⟩⟩
    have hc5 := cell_kept hcr (grownBy_putObj' _ D (.deferred none)) (fun r e => by cases e; exact ⟨_, hK, rfl⟩)
    refine ⟨.bool false, ?_, ?_, hB.trans (belowK_b (w := w) (Nat.le_refl _) W D _ _ (by simp at hD; omega) hK rfl rfl)⟩
    · simp [results, Try.f21, go_sem, hc5]
    · obtain ⟨post, hpost⟩ := hpre
      rw [← HALL.out, ← hpost, List.all_append, hin]
      rfl
end Go.Proofs.Ytamjoleknjmpoaa
