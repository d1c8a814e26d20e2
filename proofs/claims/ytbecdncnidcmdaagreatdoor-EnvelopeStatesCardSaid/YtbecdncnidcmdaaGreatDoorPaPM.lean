/-
  The walk of param's ParseMail.
-/
import Derived.Test.YtbecdncnidcmdaaGreatDoorPaOf
namespace Go.Proofs.YtbecdncnidcmdaaGreatDoor
set_option maxRecDepth 100000
open Go.RowKit
theorem held_x (m : ML) (w : World) : Calls Tryz.prog 278 #[.agg #[.bool m.hs, .bool m.hf, .bool m.hu, .bool m.hb, .bool m.hp, .int .i64 m.sz, .int .i64 m.fo, .int .i64 m.un, .int .i64 m.by_, .int .i64 m.pr, .string (mkS m.body), .string (mkS m.ret), .string (mkS m.env), .string (mkS m.mode)]] w fun e w' => e = .returned (.bool (m.hf && m.hu)) ∧ Below w.heap.size w w' := by
  obtain ⟨hs, hf, hu, hb, hp, sz, fo, un, by_, pr, body, ret, env, mode⟩ := m
  cases hf <;> cases hu
  all_goals
    go_enter Tryz.func278, Tryz.ntmps278
    go_wp2_with fail
    go_ret
    exact ⟨rfl, (Below.refl _ w).alloc (Nat.le_refl _) _⟩
def MailPost (s : Txt) (w : World) (e : Ending) (w' : World) : Prop := e = .returned (.tuple #[.agg (mCells (pvM s)), .int .i64 (peM s)]) ∧ Below w.heap.size w w'
set_option maxHeartbeats 8000000 in
theorem parseM_x (s : Txt) (w : World) (hs : s.length ≤ 1000000) (hN : Ready w) : Calls Tryz.prog 250 #[.string (mkS s)] w (MailPost s w) := by
  have HV0 := Lib.hid (show rdE isKM errM s ≠ 0 → pvM s = zeroM ∧ peM s = rdE isKM errM s from fun h => by
    have e : rdM s = rdE isKM errM s := rfl
    have e2 : peM s = rdE isKM errM s := by rw [← e] at h ⊢; rw [peM, if_neg h]
    exact ⟨by rw [pvM, if_neg (fun h' => h (e2 ▸ h'.1))], e2⟩)
  have HV1 := Lib.hid (show rdE isKM errM s = 0 → ((rdS setM s zeroM).hf && (rdS setM s zeroM).hu) = true → pvM s = zeroM ∧ peM s = 9 from fun h h2 => by
    have e : rdM s = 0 := h
    have hne : s ≠ [] := fun hs => by rw [rdS, if_pos hs] at h2; revert h2; decide
    have ef : rdS setM s zeroM = finM s := if_neg hne
    rw [ef, Bool.and_eq_true] at h2
    have e2 : peM s = 9 := by rw [peM, if_pos e, if_pos ⟨hne, h2.1, h2.2⟩]
    exact ⟨by rw [pvM, if_neg (fun h' => by rw [e2] at h'; exact absurd h'.1 (by decide))], e2⟩)
  have HV2 := Lib.hid (show rdE isKM errM s = 0 → ((rdS setM s zeroM).hf && (rdS setM s zeroM).hu) = false → pvM s = rdS setM s zeroM ∧ peM s = 0 from fun h h2 => by
    have e : rdM s = 0 := h
    by_cases hne : s = []
    · have e2 : peM s = 0 := by rw [peM, if_pos e, if_neg (fun h' => h'.1 hne)]
      exact ⟨by rw [pvM, if_neg (fun h' => h'.2 hne), rdS, if_pos hne], e2⟩
    · have ef : rdS setM s zeroM = finM s := if_neg hne
      rw [ef] at h2 ⊢
      have e2 : peM s = 0 := by
        rw [peM, if_pos e, if_neg]
        rintro ⟨_, h3, h4⟩
        rw [h3, h4] at h2
        cases h2
      exact ⟨by rw [pvM, if_pos ⟨e2, hne⟩], e2⟩)
  have h0 := newOf w (.cells #[.bool false, .bool false, .bool false, .bool false, .bool false, .int .i64 0, .int .i64 0, .int .i64 0, .int .i64 0, .int .i64 0, .string { data := #[] }, .string { data := #[] }, .string { data := #[] }, .string { data := #[] }] 49)
  have h1 := new_alloc (w := w.alloc (.cells #[.bool false, .bool false, .bool false, .bool false, .bool false, .int .i64 0, .int .i64 0, .int .i64 0, .int .i64 0, .int .i64 0, .string { data := #[] }, .string { data := #[] }, .string { data := #[] }, .string { data := #[] }] 49)) (n := w.heap.size + 1) (.cells #[.bool false, .bool false, .bool false, .bool false, .bool false, .int .i64 0, .int .i64 0, .int .i64 0, .int .i64 0, .int .i64 0, .string { data := #[] }, .string { data := #[] }, .string { data := #[] }, .string { data := #[] }] 49) (by simp)
  have h0 := old_alloc (o := .cells #[.bool false, .bool false, .bool false, .bool false, .bool false, .int .i64 0, .int .i64 0, .int .i64 0, .int .i64 0, .int .i64 0, .string { data := #[] }, .string { data := #[] }, .string { data := #[] }, .string { data := #[] }] 49) h0
  have hB : Below w.heap.size w ((w.alloc (.cells #[.bool false, .bool false, .bool false, .bool false, .bool false, .int .i64 0, .int .i64 0, .int .i64 0, .int .i64 0, .int .i64 0, .string { data := #[] }, .string { data := #[] }, .string { data := #[] }, .string { data := #[] }] 49)).alloc (.cells #[.bool false, .bool false, .bool false, .bool false, .bool false, .int .i64 0, .int .i64 0, .int .i64 0, .int .i64 0, .int .i64 0, .string { data := #[] }, .string { data := #[] }, .string { data := #[] }, .string { data := #[] }] 49)) := ((Below.refl _ w).alloc (Nat.le_refl _) _).alloc (by simp) _
  have hS : ((w.alloc (.cells #[.bool false, .bool false, .bool false, .bool false, .bool false, .int .i64 0, .int .i64 0, .int .i64 0, .int .i64 0, .int .i64 0, .string { data := #[] }, .string { data := #[] }, .string { data := #[] }, .string { data := #[] }] 49)).alloc (.cells #[.bool false, .bool false, .bool false, .bool false, .bool false, .int .i64 0, .int .i64 0, .int .i64 0, .int .i64 0, .int .i64 0, .string { data := #[] }, .string { data := #[] }, .string { data := #[] }, .string { data := #[] }] 49)).heap.size = w.heap.size + 2 := by simp
  have H := Lib.hid (And.intro h0 (And.intro h1 (And.intro hB hS)))
  have HN := Lib.hid hN
  clear h0 h1 hB hS hN
  go_enter Tryz.func250, Tryz.ntmps250
  go_wp2_with fail
  obtain ⟨h0, h1, hB, hS⟩ := H.out
  clear H
  generalize (w.alloc (.cells #[.bool false, .bool false, .bool false, .bool false, .bool false, .int .i64 0, .int .i64 0, .int .i64 0, .int .i64 0, .int .i64 0, .string { data := #[] }, .string { data := #[] }, .string { data := #[] }, .string { data := #[] }] 49)).alloc (.cells #[.bool false, .bool false, .bool false, .bool false, .bool false, .int .i64 0, .int .i64 0, .int .i64 0, .int .i64 0, .int .i64 0, .string { data := #[] }, .string { data := #[] }, .string { data := #[] }, .string { data := #[] }] 49) = W0 at h0 h1 hB hS ⊢
  refine (ofMail_x (w.heap.size + 1) W0 (by omega)).mono ?_
  rintro e w1 ⟨M, n, X, rfl, hM, hB1, hn, hmap, hmm⟩
  have h0' := (hB1.block w.heap.size (by omega)).trans h0
  have h1' := (hB1.block (w.heap.size + 1) (by omega)).trans h1
  have hbw := hB.trans (hB1.mono (by omega))
  have HBW := Lib.hid hbw
  have hsz := hB1.size
  have HRD := Lib.hid (show Calls Tryz.prog 276 #[.string (mkS s), .map (some M)] w1 fun e w' => e = .returned (.int .i64 (rdE isKM errM s)) ∧ Apart (w.heap.size + 1) w1.heap.size w1 w' ∧ (rdE isKM errM s = 0 → w'.heap[w.heap.size + 1]? = some (.cells (mCells (rdS setM s zeroM)) 49 (0, 0))) from
    read_x mCells 49 (w.heap.size + 1) M n isKM errM setM (fmap (fun _ => true) X entsM) w1 s zeroM w1 hs hmap (by omega) (fM_is X)
      (does_M hmm (by omega) (by omega) (by omega) (fun w' hw => HN.out.below (hbw.trans (hw.below (by omega) (by omega))))) (Apart.refl _ _ _) h1')
  have H0 := Lib.hid h0'
  have HSZ := Lib.hid (show w.heap.size + 2 ≤ w1.heap.size by omega)
  clear h0 h1 hB hS h0' h1' hB1 hmap hmm hM hn hbw hsz
  generalize rdE isKM errM s = E at HV0 HV1 HV2 HRD
  generalize rdS setM s zeroM = r at HV1 HV2 HRD
  go_wp2_with fail
  refine HRD.out.mono ?_
  rintro e w2 ⟨rfl, hap, hok⟩
  have h0 : w2.heap[w.heap.size]? = some (.cells #[.bool false, .bool false, .bool false, .bool false, .bool false, .int .i64 0, .int .i64 0, .int .i64 0, .int .i64 0, .int .i64 0, .string { data := #[] }, .string { data := #[] }, .string { data := #[] }, .string { data := #[] }] 49 (0, 0)) := (hap.block _ (by have := HSZ.out; omega) (by omega)).trans H0.out
  have HB2 := Lib.hid (show Below w.heap.size w w2 from HBW.out.trans (hap.below (by have := HSZ.out; omega) (by omega)))
  have H02 := Lib.hid h0
  by_cases hE : E = 0
  · subst hE
    have hc := hok rfl
    have HC := Lib.hid hc
    have HH := Lib.hid (fun w => held_x r w)
    have HV1' := Lib.hid (HV1.out rfl)
    have HV2' := Lib.hid (HV2.out rfl)
    have b0 := cellOf hc 0
    have b1 := cellOf hc 1
    have b2 := cellOf hc 2
    have b3 := cellOf hc 3
    have b4 := cellOf hc 4
    have b5 := cellOf hc 5
    have b6 := cellOf hc 6
    have b7 := cellOf hc 7
    have b8 := cellOf hc 8
    have b9 := cellOf hc 9
    have b10 := cellOf hc 10
    have b11 := cellOf hc 11
    have b12 := cellOf hc 12
    have b13 := cellOf hc 13
    simp only [mCells, List.getElem?_toArray, List.getElem?_cons_zero, List.getElem?_cons_succ] at b0 b1 b2 b3 b4 b5 b6 b7 b8 b9 b10 b11 b12 b13
    clear hap hok h0 hc HV0 HV1 HV2
    generalize (r.hf && r.hu) = q at HH HV1' HV2'
    go_wp2_with fail
    refine (HH.out _).mono ?_
    rintro e w3 ⟨rfl, hb3⟩
    have h03 := (hb3.block _ (ltOf H02.out)).trans H02.out
    have hc3 := (hb3.block _ (ltOf HC.out)).trans HC.out
    have HB3 := Lib.hid (below_next HB2.out hb3)
    have H03 := Lib.hid h03
    clear b0 b1 b2 b3 b4 b5 b6 b7 b8 b9 b10 b11 b12 b13
    have a0 := cellOf h03 0
    have f0 := freeOf h03 0
    have a1 := cellOf h03 1
    have f1 := freeOf h03 1
    have a2 := cellOf h03 2
    have f2 := freeOf h03 2
    have a3 := cellOf h03 3
    have f3 := freeOf h03 3
    have a4 := cellOf h03 4
    have f4 := freeOf h03 4
    have a5 := cellOf h03 5
    have f5 := freeOf h03 5
    have a6 := cellOf h03 6
    have f6 := freeOf h03 6
    have a7 := cellOf h03 7
    have f7 := freeOf h03 7
    have a8 := cellOf h03 8
    have f8 := freeOf h03 8
    have a9 := cellOf h03 9
    have f9 := freeOf h03 9
    have a10 := cellOf h03 10
    have f10 := freeOf h03 10
    have a11 := cellOf h03 11
    have f11 := freeOf h03 11
    have a12 := cellOf h03 12
    have f12 := freeOf h03 12
    have a13 := cellOf h03 13
    have f13 := freeOf h03 13
    have b0 := cellOf hc3 0
    have b1 := cellOf hc3 1
    have b2 := cellOf hc3 2
    have b3 := cellOf hc3 3
    have b4 := cellOf hc3 4
    have b5 := cellOf hc3 5
    have b6 := cellOf hc3 6
    have b7 := cellOf hc3 7
    have b8 := cellOf hc3 8
    have b9 := cellOf hc3 9
    have b10 := cellOf hc3 10
    have b11 := cellOf hc3 11
    have b12 := cellOf hc3 12
    have b13 := cellOf hc3 13
    simp only [mCells, List.getElem?_toArray, List.getElem?_cons_zero, List.getElem?_cons_succ] at b0 b1 b2 b3 b4 b5 b6 b7 b8 b9 b10 b11 b12 b13
    clear h03 hc3 hb3
    cases q
    · obtain ⟨hr, he⟩ := HV2'.out rfl
      have HR := Lib.hid (And.intro hr he)
      clear hr he
      go_wp2_with fail
      have k := (setOf (setOf (setOf (setOf (setOf (setOf (setOf (setOf (setOf (setOf (setOf (setOf (setOf (setOf H03.out 0 (.bool r.hs)) 1 (.bool r.hf)) 2 (.bool r.hu)) 3 (.bool r.hb)) 4 (.bool r.hp)) 5 (.int .i64 r.sz)) 6 (.int .i64 r.fo)) 7 (.int .i64 r.un)) 8 (.int .i64 r.by_)) 9 (.int .i64 r.pr)) 10 (.string (mkS r.body))) 11 (.string (mkS r.ret))) 12 (.string (mkS r.env))) 13 (.string (mkS r.mode)))
      have e0 := cellOf k 0
      have e1 := cellOf k 1
      have e2 := cellOf k 2
      have e3 := cellOf k 3
      have e4 := cellOf k 4
      have e5 := cellOf k 5
      have e6 := cellOf k 6
      have e7 := cellOf k 7
      have e8 := cellOf k 8
      have e9 := cellOf k 9
      have e10 := cellOf k 10
      have e11 := cellOf k 11
      have e12 := cellOf k 12
      have e13 := cellOf k 13
      simp only [List.setIfInBounds_toArray, List.set_cons_zero, List.set_cons_succ, List.getElem?_toArray, List.getElem?_cons_zero, List.getElem?_cons_succ] at e0 e1 e2 e3 e4 e5 e6 e7 e8 e9 e10 e11 e12 e13
      refine bodyPost_ret (v := .tuple #[.agg #[.bool r.hs, .bool r.hf, .bool r.hu, .bool r.hb, .bool r.hp, .int .i64 r.sz, .int .i64 r.fo, .int .i64 r.un, .int .i64 r.by_, .int .i64 r.pr, .string (mkS r.body), .string (mkS r.ret), .string (mkS r.env), .string (mkS r.mode)], .int .i64 0]) (by simp [results, Tryz.results250, go_sem, e0, e1, e2, e3, e4, e5, e6, e7, e8, e9, e10, e11, e12, e13]) rfl ⟨by rw [HR.out.1, HR.out.2]; rfl, ((((((((((((((HB3.out.setCell (p := ⟨w.heap.size, 0, none⟩) (Nat.le_refl _) _).setCell (p := ⟨w.heap.size, 1, none⟩) (Nat.le_refl _) _).setCell (p := ⟨w.heap.size, 2, none⟩) (Nat.le_refl _) _).setCell (p := ⟨w.heap.size, 3, none⟩) (Nat.le_refl _) _).setCell (p := ⟨w.heap.size, 4, none⟩) (Nat.le_refl _) _).setCell (p := ⟨w.heap.size, 5, none⟩) (Nat.le_refl _) _).setCell (p := ⟨w.heap.size, 6, none⟩) (Nat.le_refl _) _).setCell (p := ⟨w.heap.size, 7, none⟩) (Nat.le_refl _) _).setCell (p := ⟨w.heap.size, 8, none⟩) (Nat.le_refl _) _).setCell (p := ⟨w.heap.size, 9, none⟩) (Nat.le_refl _) _).setCell (p := ⟨w.heap.size, 10, none⟩) (Nat.le_refl _) _).setCell (p := ⟨w.heap.size, 11, none⟩) (Nat.le_refl _) _).setCell (p := ⟨w.heap.size, 12, none⟩) (Nat.le_refl _) _).setCell (p := ⟨w.heap.size, 13, none⟩) (Nat.le_refl _) _)⟩
    · obtain ⟨hr, he⟩ := HV1'.out rfl
      have HR := Lib.hid (And.intro hr he)
      clear hr he
      go_wp2_with fail
      have k := (setOf (setOf (setOf (setOf (setOf (setOf (setOf (setOf (setOf (setOf (setOf (setOf (setOf (setOf H03.out 0 (.bool false)) 1 (.bool false)) 2 (.bool false)) 3 (.bool false)) 4 (.bool false)) 5 (.int .i64 0)) 6 (.int .i64 0)) 7 (.int .i64 0)) 8 (.int .i64 0)) 9 (.int .i64 0)) 10 (.string { data := #[] })) 11 (.string { data := #[] })) 12 (.string { data := #[] })) 13 (.string { data := #[] }))
      have e0 := cellOf k 0
      have e1 := cellOf k 1
      have e2 := cellOf k 2
      have e3 := cellOf k 3
      have e4 := cellOf k 4
      have e5 := cellOf k 5
      have e6 := cellOf k 6
      have e7 := cellOf k 7
      have e8 := cellOf k 8
      have e9 := cellOf k 9
      have e10 := cellOf k 10
      have e11 := cellOf k 11
      have e12 := cellOf k 12
      have e13 := cellOf k 13
      simp only [List.setIfInBounds_toArray, List.set_cons_zero, List.set_cons_succ, List.getElem?_toArray, List.getElem?_cons_zero, List.getElem?_cons_succ] at e0 e1 e2 e3 e4 e5 e6 e7 e8 e9 e10 e11 e12 e13
      refine bodyPost_ret (v := .tuple #[.agg #[.bool false, .bool false, .bool false, .bool false, .bool false, .int .i64 0, .int .i64 0, .int .i64 0, .int .i64 0, .int .i64 0, .string { data := #[] }, .string { data := #[] }, .string { data := #[] }, .string { data := #[] }], .int .i64 9]) (by simp [results, Tryz.results250, go_sem, e0, e1, e2, e3, e4, e5, e6, e7, e8, e9, e10, e11, e12, e13]) rfl ⟨by rw [HR.out.1, HR.out.2]; rfl, ((((((((((((((HB3.out.setCell (p := ⟨w.heap.size, 0, none⟩) (Nat.le_refl _) _).setCell (p := ⟨w.heap.size, 1, none⟩) (Nat.le_refl _) _).setCell (p := ⟨w.heap.size, 2, none⟩) (Nat.le_refl _) _).setCell (p := ⟨w.heap.size, 3, none⟩) (Nat.le_refl _) _).setCell (p := ⟨w.heap.size, 4, none⟩) (Nat.le_refl _) _).setCell (p := ⟨w.heap.size, 5, none⟩) (Nat.le_refl _) _).setCell (p := ⟨w.heap.size, 6, none⟩) (Nat.le_refl _) _).setCell (p := ⟨w.heap.size, 7, none⟩) (Nat.le_refl _) _).setCell (p := ⟨w.heap.size, 8, none⟩) (Nat.le_refl _) _).setCell (p := ⟨w.heap.size, 9, none⟩) (Nat.le_refl _) _).setCell (p := ⟨w.heap.size, 10, none⟩) (Nat.le_refl _) _).setCell (p := ⟨w.heap.size, 11, none⟩) (Nat.le_refl _) _).setCell (p := ⟨w.heap.size, 12, none⟩) (Nat.le_refl _) _).setCell (p := ⟨w.heap.size, 13, none⟩) (Nat.le_refl _) _)⟩
  · have d1 : (E != 0) = true := bne_iff_ne.2 hE
    have HR := Lib.hid (HV0.out hE)
    have a0 := cellOf h0 0
    have f0 := freeOf h0 0
    have a1 := cellOf h0 1
    have f1 := freeOf h0 1
    have a2 := cellOf h0 2
    have f2 := freeOf h0 2
    have a3 := cellOf h0 3
    have f3 := freeOf h0 3
    have a4 := cellOf h0 4
    have f4 := freeOf h0 4
    have a5 := cellOf h0 5
    have f5 := freeOf h0 5
    have a6 := cellOf h0 6
    have f6 := freeOf h0 6
    have a7 := cellOf h0 7
    have f7 := freeOf h0 7
    have a8 := cellOf h0 8
    have f8 := freeOf h0 8
    have a9 := cellOf h0 9
    have f9 := freeOf h0 9
    have a10 := cellOf h0 10
    have f10 := freeOf h0 10
    have a11 := cellOf h0 11
    have f11 := freeOf h0 11
    have a12 := cellOf h0 12
    have f12 := freeOf h0 12
    have a13 := cellOf h0 13
    have f13 := freeOf h0 13
    clear hap hok h0 hE
    go_wp2_with fail
    have k := (setOf (setOf (setOf (setOf (setOf (setOf (setOf (setOf (setOf (setOf (setOf (setOf (setOf (setOf H02.out 0 (.bool false)) 1 (.bool false)) 2 (.bool false)) 3 (.bool false)) 4 (.bool false)) 5 (.int .i64 0)) 6 (.int .i64 0)) 7 (.int .i64 0)) 8 (.int .i64 0)) 9 (.int .i64 0)) 10 (.string { data := #[] })) 11 (.string { data := #[] })) 12 (.string { data := #[] })) 13 (.string { data := #[] }))
    have e0 := cellOf k 0
    have e1 := cellOf k 1
    have e2 := cellOf k 2
    have e3 := cellOf k 3
    have e4 := cellOf k 4
    have e5 := cellOf k 5
    have e6 := cellOf k 6
    have e7 := cellOf k 7
    have e8 := cellOf k 8
    have e9 := cellOf k 9
    have e10 := cellOf k 10
    have e11 := cellOf k 11
    have e12 := cellOf k 12
    have e13 := cellOf k 13
    simp only [List.setIfInBounds_toArray, List.set_cons_zero, List.set_cons_succ, List.getElem?_toArray, List.getElem?_cons_zero, List.getElem?_cons_succ] at e0 e1 e2 e3 e4 e5 e6 e7 e8 e9 e10 e11 e12 e13
    refine bodyPost_ret (v := .tuple #[.agg #[.bool false, .bool false, .bool false, .bool false, .bool false, .int .i64 0, .int .i64 0, .int .i64 0, .int .i64 0, .int .i64 0, .string { data := #[] }, .string { data := #[] }, .string { data := #[] }, .string { data := #[] }], .int .i64 E]) (by simp [results, Tryz.results250, go_sem, e0, e1, e2, e3, e4, e5, e6, e7, e8, e9, e10, e11, e12, e13]) rfl ⟨by rw [HR.out.1, HR.out.2]; rfl, ((((((((((((((HB2.out.setCell (p := ⟨w.heap.size, 0, none⟩) (Nat.le_refl _) _).setCell (p := ⟨w.heap.size, 1, none⟩) (Nat.le_refl _) _).setCell (p := ⟨w.heap.size, 2, none⟩) (Nat.le_refl _) _).setCell (p := ⟨w.heap.size, 3, none⟩) (Nat.le_refl _) _).setCell (p := ⟨w.heap.size, 4, none⟩) (Nat.le_refl _) _).setCell (p := ⟨w.heap.size, 5, none⟩) (Nat.le_refl _) _).setCell (p := ⟨w.heap.size, 6, none⟩) (Nat.le_refl _) _).setCell (p := ⟨w.heap.size, 7, none⟩) (Nat.le_refl _) _).setCell (p := ⟨w.heap.size, 8, none⟩) (Nat.le_refl _) _).setCell (p := ⟨w.heap.size, 9, none⟩) (Nat.le_refl _) _).setCell (p := ⟨w.heap.size, 10, none⟩) (Nat.le_refl _) _).setCell (p := ⟨w.heap.size, 11, none⟩) (Nat.le_refl _) _).setCell (p := ⟨w.heap.size, 12, none⟩) (Nat.le_refl _) _).setCell (p := ⟨w.heap.size, 13, none⟩) (Nat.le_refl _) _)⟩
end Go.Proofs.YtbecdncnidcmdaaGreatDoor
