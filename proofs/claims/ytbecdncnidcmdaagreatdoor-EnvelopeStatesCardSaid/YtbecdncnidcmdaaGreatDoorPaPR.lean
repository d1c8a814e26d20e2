/-
  The walk of param's ParseRcpt.
-/
import Derived.Test.YtbecdncnidcmdaaGreatDoorPaRcpt
namespace Go.Proofs.YtbecdncnidcmdaaGreatDoor
set_option maxRecDepth 100000
open Go.RowKit
theorem NotR.lt {w : World} (h : NotR w) : 6 < w.heap.size := cell_lt h.n0
theorem NotR.apart {mb n : Nat} {a w : World} (h : NotR a) (hb : Apart mb n a w) (hn : 6 < n) (hm : 6 ≠ mb) : NotR w :=
  ⟨(hb.cell hn hm _ _).trans h.n0, (hb.cell hn hm _ _).trans h.n1, (hb.cell hn hm _ _).trans h.n2⟩
theorem does_R {mb B : Nat} {W1 : World} (hB : W1.cell? ⟨B, 0, none⟩ = some (.pointer (some ⟨mb, 0, none⟩))) (hm : mb ≠ B) (hN : NotR W1) (hmg : 6 ≠ mb) :
    ∀ k v, fR B k = some v → DoesP rCells 77 mb errR setR W1 k v := by
  intro k v h
  unfold fR at h
  split at h
  · rename_i hk
    subst hk
    injection h with h
    subst h
    refine ⟨_, _, rfl, enters_of Tryz.func330 (by kernel_rfl) rfl, fun w st x hx hA hb => ?_⟩
    refine (or_x mb B (rCells st) x _ _ w hx ((hA.cell (cell_lt hB) (Ne.symm hm) 0 none).trans hB) hb rfl rfl hm).mono ?_
    rintro e w' ⟨rfl, hT⟩
    have e1 : errR kOR x = orE x := by rw [errR, if_neg (by decide), if_pos rfl]; rfl
    refine ⟨by rw [e1], hT.1, fun h0 => ?_⟩
    rw [e1] at h0
    rw [hT.2]
    have e2 : orC x (rCells st) = rCells (setR kOR x st) := by
      unfold orE at h0
      unfold orC
      cases hk : isKind (upL (preC 59 x))
      · rw [hk] at h0; cases h0
      · rw [hk, if_pos rfl] at h0
        rw [if_pos rfl, decC, if_pos h0]
        rfl
    rw [e2]
  · split at h
    · rename_i hk
      subst hk
      injection h with h
      subst h
      refine ⟨_, _, rfl, enters_of Tryz.func328 (by kernel_rfl) rfl, fun w st x hx hA hb => ?_⟩
      have hbx : w.cell? ⟨B, 0, none⟩ = some (.pointer (some ⟨mb, 0, none⟩)) := (hA.cell (cell_lt hB) (Ne.symm hm) 0 none).trans hB
      refine (no_x mb B (rCells st) x _ w hx (fun w' hw => ?_) hbx hb rfl hm).mono ?_
      · have hNw : NotR w := hN.apart hA hN.lt hmg
        exact hNw.apart hw.blk.1 hNw.lt hmg
      rintro e w' ⟨rfl, hT⟩
      have e1 : errR kNO x = notE (upL x) := by rw [errR, if_pos rfl]
      refine ⟨by rw [e1], hT.1, fun h0 => ?_⟩
      rw [e1] at h0
      rw [hT.2, notC, if_pos h0]
      rfl
    · cases h
theorem fR_is (B : Nat) (k : Txt) : (fR B k).isSome = isKR k := by
  unfold fR isKR
  by_cases h1 : k = kOR
  · simp [h1]
  · by_cases h2 : k = kNO
    · simp [h2, show ¬ kNO = kOR by decide]
    · simp [h1, h2]
def RcptPost (s : Txt) (w : World) (e : Ending) (w' : World) : Prop := e = .returned (.tuple #[.agg #[.string (mkS (pvR s).no), .string (mkS (pvR s).kind), .string (mkS (pvR s).oc)], .int .i64 (peR s)]) ∧ Below w.heap.size w w'
set_option maxHeartbeats 4000000 in
theorem parseR_x (s : Txt) (w : World) (hs : s.length ≤ 1000000) (hN : NotR w) : Calls Tryz.prog 251 #[.string (mkS s)] w (RcptPost s w) := by
  have HV0 := Lib.hid (show peR s ≠ 0 → pvR s = zeroR from fun h => by rw [pvR, if_neg (fun h' => h h'.1)])
  have HV1 := Lib.hid (show peR s = 0 → pvR s = rdS setR s zeroR from fun h => by
    unfold pvR rdS finR
    by_cases h2 : s = []
    · rw [if_neg (fun h' => h'.2 h2), if_pos h2]
    · rw [if_pos ⟨h, h2⟩, if_neg h2])
  have h0 := newOf w (.cells #[.string { data := #[] }, .string { data := #[] }, .string { data := #[] }] 77)
  have h1 := new_alloc (w := w.alloc (.cells #[.string { data := #[] }, .string { data := #[] }, .string { data := #[] }] 77)) (n := w.heap.size + 1) (.cells #[.string { data := #[] }, .string { data := #[] }, .string { data := #[] }] 77) (by simp)
  have h0 := old_alloc (o := .cells #[.string { data := #[] }, .string { data := #[] }, .string { data := #[] }] 77) h0
  have hB : Below w.heap.size w ((w.alloc (.cells #[.string { data := #[] }, .string { data := #[] }, .string { data := #[] }] 77)).alloc (.cells #[.string { data := #[] }, .string { data := #[] }, .string { data := #[] }] 77)) := ((Below.refl _ w).alloc (Nat.le_refl _) _).alloc (by simp) _
  have hS : ((w.alloc (.cells #[.string { data := #[] }, .string { data := #[] }, .string { data := #[] }] 77)).alloc (.cells #[.string { data := #[] }, .string { data := #[] }, .string { data := #[] }] 77)).heap.size = w.heap.size + 2 := by simp
  have H := Lib.hid (And.intro h0 (And.intro h1 (And.intro hB hS)))
  have HN := Lib.hid hN
  clear h0 h1 hB hS hN
  go_enter Tryz.func251, Tryz.ntmps251
  go_wp2_with fail
  obtain ⟨h0, h1, hB, hS⟩ := H.out
  clear H
  generalize (w.alloc (.cells #[.string { data := #[] }, .string { data := #[] }, .string { data := #[] }] 77)).alloc (.cells #[.string { data := #[] }, .string { data := #[] }, .string { data := #[] }] 77) = W0 at h0 h1 hB hS ⊢
  have hgl : 6 < w.heap.size := HN.out.lt
  refine (ofRcpt_x (w.heap.size + 1) W0 (by omega)).mono ?_
  rintro e w1 ⟨M, rfl, hM, hB1, hx, hl, hmap⟩
  have h0' := (hB1.block w.heap.size (by omega)).trans h0
  have h1' := (hB1.block (w.heap.size + 1) (by omega)).trans h1
  have HBW := Lib.hid (hB.trans (hB1.mono (by omega)))
  have HRD := Lib.hid (show Calls Tryz.prog 276 #[.string (mkS s), .map (some M)] w1 fun e w' => e = .returned (.int .i64 (peR s)) ∧ Apart (w.heap.size + 1) w1.heap.size w1 w' ∧ (peR s = 0 → w'.heap[w.heap.size + 1]? = some (.cells (rCells (rdS setR s zeroR)) 77 (0, 0))) from
    read_x rCells 77 (w.heap.size + 1) M 2 isKR errR setR (fR W0.heap.size) w1 s zeroR w1 hs hmap hM (fR_is _) (does_R hx (by omega) (HN.out.below HBW.out) (by omega)) (Apart.refl _ _ _) h1')
  have H0 := Lib.hid h0'
  have HSZ := Lib.hid (show w.heap.size + 2 ≤ w1.heap.size by have := hB1.size; omega)
  clear h0 h1 hB hS h0' h1' hB1 hx hl hmap hM hgl
  generalize hPE : peR s = E at HV0 HV1 HRD
  have HPE := Lib.hid hPE
  clear hPE
  generalize rdS setR s zeroR = r at HV1 HRD
  go_wp2_with fail
  refine HRD.out.mono ?_
  rintro e w2 ⟨rfl, hap, hok⟩
  have h0 : w2.heap[w.heap.size]? = some (.cells #[.string { data := #[] }, .string { data := #[] }, .string { data := #[] }] 77 (0, 0)) := (hap.block _ (by have := HSZ.out; omega) (by omega)).trans H0.out
  have HB2 := Lib.hid (show Below w.heap.size w w2 from HBW.out.trans (hap.below (by have := HSZ.out; omega) (by omega)))
  have H02 := Lib.hid h0
  have a0 := cellOf h0 0
  have a1 := cellOf h0 1
  have a2 := cellOf h0 2
  have f0 := freeOf h0 0
  have f1 := freeOf h0 1
  have f2 := freeOf h0 2
  by_cases hE : E = 0
  · subst hE
    have hr := HV1.out rfl
    have hc := hok rfl
    have b0 := cellOf hc 0
    have b1 := cellOf hc 1
    have b2 := cellOf hc 2
    simp only [rCells] at b0 b1 b2
    have HR := Lib.hid hr
    clear hap hok h0 hr hc
    go_wp2_with fail
    have k := setOf (setOf (setOf H02.out 0 (.string (mkS r.no))) 1 (.string (mkS r.kind))) 2 (.string (mkS r.oc))
    have e0 := cellOf k 0
    have e1 := cellOf k 1
    have e2 := cellOf k 2
    simp only [List.setIfInBounds_toArray, List.set_cons_zero, List.set_cons_succ, List.getElem?_toArray, List.getElem?_cons_zero, List.getElem?_cons_succ] at e0 e1 e2
    refine bodyPost_ret (v := .tuple #[.agg #[(.string (mkS r.no)), (.string (mkS r.kind)), (.string (mkS r.oc))], .int .i64 0]) (by simp [results, Tryz.results251, go_sem, e0, e1, e2]) rfl ⟨by rw [HR.out, HPE.out], ((HB2.out.setCell (p := ⟨w.heap.size, 0, none⟩) (Nat.le_refl _) _).setCell (p := ⟨w.heap.size, 1, none⟩) (Nat.le_refl _) _).setCell (p := ⟨w.heap.size, 2, none⟩) (Nat.le_refl _) _⟩
  · have d1 : (E != 0) = true := bne_iff_ne.2 hE
    have HR := Lib.hid (HV0.out hE)
    clear hap hok h0 hE
    go_wp2_with fail
    have k := setOf (setOf (setOf H02.out 0 (.string { data := #[] })) 1 (.string { data := #[] })) 2 (.string { data := #[] })
    have e0 := cellOf k 0
    have e1 := cellOf k 1
    have e2 := cellOf k 2
    simp only [List.setIfInBounds_toArray, List.set_cons_zero, List.set_cons_succ, List.getElem?_toArray, List.getElem?_cons_zero, List.getElem?_cons_succ] at e0 e1 e2
    refine bodyPost_ret (v := .tuple #[.agg #[(.string { data := #[] }), (.string { data := #[] }), (.string { data := #[] })], .int .i64 E]) (by simp [results, Tryz.results251, go_sem, e0, e1, e2]) rfl ⟨by rw [HR.out, HPE.out]; rfl, ((HB2.out.setCell (p := ⟨w.heap.size, 0, none⟩) (Nat.le_refl _) _).setCell (p := ⟨w.heap.size, 1, none⟩) (Nat.le_refl _) _).setCell (p := ⟨w.heap.size, 2, none⟩) (Nat.le_refl _) _⟩
end Go.Proofs.YtbecdncnidcmdaaGreatDoor
