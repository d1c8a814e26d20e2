/-
  The walk of path's Join.
-/
import Derived.Test.YtamjoleknjmpoaaPtParse
import Derived.Test.YtamjoleknjmpoaaBuildStr
namespace Go.Proofs.Ytamjoleknjmpoaa
open Go.RowKit
/-- A slice of paths in memory. -/
def PathsAt (w : World) (v : Value) (ps : List Pth) : Prop :=
  ∃ (a : Option Addr) (cap : Nat), v = .slice a ps.length cap ∧ ∀ (i : Nat) (p : Pth), ps[i]? = some p → ∃ A, a = some A ∧ A.block < w.heap.size ∧ w.cell? (A.add (i * 2)) = some (.string (mkS p.1)) ∧ w.cell? ⟨(A.add (i * 2)).block, (A.add (i * 2)).off + 1, none⟩ = some (.string (mkS p.2))
theorem PathsAt.below {w w' : World} {v : Value} {ps : List Pth} (h : PathsAt w v ps) (hb : Below w.heap.size w w') : PathsAt w' v ps := by
  obtain ⟨a, cap, hv, hc⟩ := h
  refine ⟨a, cap, hv, fun i p hi => ?_⟩
  obtain ⟨A, ha, hA, c0, c1⟩ := hc i p hi
  have e : (A.add (i * 2)).block < w.heap.size := by rw [add_block]; exact hA
  refine ⟨A, ha, Nat.lt_of_lt_of_le hA hb.size, (hb.cell e).trans c0, (hb.cell (p := ⟨(A.add (i * 2)).block, (A.add (i * 2)).off + 1, none⟩) e).trans c1⟩
theorem joinG_snoc (l : List Pth) (p : Pth) : joinG (l ++ [p]) = joinG l ++ [32] ++ textL p := by
  induction l with
  | nil => simp [joinG]
  | cons q r ih => simp [joinG] at ih ⊢; rw [ih]
theorem joinT_snoc (l : List Pth) (p : Pth) : joinT (l ++ [p]) = joinT l ++ (if l.length = 0 then [] else [32]) ++ textL p := by
  cases l with
  | nil => simp [joinT, joinG]
  | cons q r => simp [joinT, joinG_snoc]
theorem joinE_right : ∀ (l : List Pth), (∀ p ∈ l, rightE p = 0) → joinE l = 0
  | [], _ => rfl
  | p :: r, h => by rw [joinE, if_pos (h p (by simp)), joinE_right r fun q hq => h q (by simp [hq])]
theorem joinE_wrong : ∀ (l : List Pth) (k : Nat) (p : Pth), l[k]? = some p → (∀ q ∈ l.take k, rightE q = 0) → rightE p ≠ 0 → joinE l = rightE p
  | [], _, _, h, _, _ => by simp at h
  | q :: r, 0, p, h, _, hp => by simp at h; subst h; rw [joinE, if_neg hp]
  | q :: r, k + 1, p, h, hq, hp => by
    rw [joinE, if_pos (hq q (by simp))]
    exact joinE_wrong r k p (by simpa using h) (fun x hx => hq x (by simp [hx])) hp
theorem text_len {p : Pth} (h : rightE p = 0) : (textL p).length ≤ 400 := by
  have hl := (right_ok h).1
  simp only [longB, Bool.or_eq_false_iff, decide_eq_false_iff_not] at hl
  have hq := quo_len p.1
  have h1 : (locL p.1).length ≤ 2 * p.1.length + 2 := by unfold locL; split <;> first | omega | (simp; omega)
  unfold textL
  split
  · simp; omega
  · simp; omega
/-- What Join answers. -/
def JoPost (ps : List Pth) (w : World) (e : Ending) (w' : World) : Prop := e = .returned (.tuple #[.string (mkS (joinV ps)), .int .i64 (joinE ps)]) ∧ Below w.heap.size w w'
theorem jo_no {ps : List Pth} {w w' : World} {n : Int} (h : joinE ps = n) (hn : n ≠ 0) (hb : Below w.heap.size w w') : JoPost ps w (.returned (.tuple #[.string { data := #[] }, .int .i64 n])) w' :=
  ⟨by rw [joinV, h, if_neg hn]; rfl, hb⟩
theorem jo_yes {ps : List Pth} {w w' : World} (h : joinE ps = 0) (hb : Below w.heap.size w w') : JoPost ps w (.returned (.tuple #[.string (mkS (joinT ps)), .int .i64 0])) w' :=
  ⟨by rw [joinV, h, if_pos rfl], hb⟩
/-- What holds in Join's loop. -/
structure JI (W : World) (ps : List Pth) (k : Nat) (w : World) : Prop where
  right : ∀ q ∈ ps.take k, rightE q = 0
  len : (joinT (ps.take k)).length ≤ 401 * k
  bld : Bld W.heap.size (joinT (ps.take k)) w
  below : Below W.heap.size W w
theorem JI.more {W w w' : World} {ps : List Pth} {k : Nat} {p : Pth} (h : JI W ps k w) (hp : ps[k]? = some p) (h0 : rightE p = 0) (hb : Bld W.heap.size (joinT (ps.take k) ++ (if k = 0 then [] else [32]) ++ textL p) w') (hw : Below W.heap.size W w') : JI W ps (k + 1) w' := by
  obtain ⟨hk, e⟩ := List.getElem?_eq_some_iff.1 hp
  have ht : ps.take (k + 1) = ps.take k ++ [p] := by rw [List.take_succ_eq_append_getElem hk, e]
  have hlen : (ps.take k).length = k := by rw [List.length_take]; omega
  have hj : joinT (ps.take (k + 1)) = joinT (ps.take k) ++ (if k = 0 then [] else [32]) ++ textL p := by rw [ht, joinT_snoc, hlen]
  refine ⟨fun q hq => ?_, ?_, by rw [hj]; exact hb, hw⟩
  · rw [ht] at hq
    rcases List.mem_append.1 hq with hq | hq
    · exact h.right q hq
    · simp at hq; rw [hq]; exact h0
  · have h1 := h.len
    have h2 := text_len h0
    have h3 : (if k = 0 then ([] : List UInt8) else [32]).length ≤ 1 := by split <;> simp
    rw [hj, List.length_append, List.length_append]
    omega
set_option maxHeartbeats 4000000 in
theorem join_x (v : Value) (ps : List Pth) (w : World) (hv : PathsAt w v ps) (hn : ps.length ≤ 1000) (hps : ∀ p ∈ ps, p.1.length ≤ 500 ∧ p.2.length ≤ 500) :
    Calls Try.prog 18 #[v] w (JoPost ps w) := by
  have HP := Lib.hid hv
  obtain ⟨a, cap, rfl, hc⟩ := hv
  have HC := Lib.hid hc
  have HI := Lib.hid (show JI w ps 0 (w.alloc (.cells #[.pointer none, .slice none 0 0] 60)) from ⟨fun q hq => by simp at hq, by simp [joinT], bld_new w, below_box w _⟩)
  clear hc
  go_enter Try.func18, Try.ntmps18
  go_wp2_with fail
  go_loopw [11] (fun i wr => ∃ k : Nat, k ≤ ps.length ∧ i = .int .i64 k ∧ Hid (JI w ps k wr)) (fun i _ => ps.length - (intOf i).toNat)
  case atStart => exact ⟨0, Nat.zero_le _, rfl, HI⟩
  case round =>
    obtain ⟨k, hk, rfl, HJ⟩ := hrel
    by_cases hlt : k < ps.length
    · obtain ⟨p, hp⟩ : ∃ p : Pth, ps[k]? = some p := ⟨_, List.getElem?_eq_getElem hlt⟩
      obtain ⟨A, rfl, hA, c0, c1⟩ := HC.out k p hp
      have hbA : (A.add (k * 2)).block < w.heap.size := by rw [add_block]; exact hA
      have c0 := (HJ.out.below.cell hbA).trans c0
      have c1 := (HJ.out.below.cell (p := ⟨(A.add (k * 2)).block, (A.add (k * 2)).off + 1, none⟩) hbA).trans c1
      have hl := hps p (List.mem_of_getElem? hp)
      have HT := Lib.hid (pb_new (Below.refl wr.heap.size wr) p)
      have HPR := Lib.hid (fun w => print_x p w (by omega) (by omega))
      unfold PrPost at HPR
      have HX := Lib.hid hp
      have HJL := Lib.hid HJ.out.len
      have HB0 := Lib.hid (HJ.out.bld.below (below_box wr (.cells #[.string (mkS p.1), .string (mkS p.2)] 23)))
      clear hl hp hA hbA
      by_cases h0 : rightE p = 0
      · have H0 := Lib.hid h0
        have HPV := Lib.hid (print_yes h0)
        have htl := text_len h0
        rw [h0, HPV.out] at HPR
        have HM := Lib.hid (fun w' hb hw => HJ.out.more (w' := w') HX.out h0 hb hw)
        generalize textL p = t at HPR HM htl
        clear h0
        go_wp2_with fail
        refine (HPR.out _).mono ?_
        rintro e w1 ⟨rfl, hb1⟩
        have HB1 := Lib.hid (HB0.out.below hb1)
        have HW1 := Lib.hid ((HJ.out.below.alloc HJ.out.below.size (.cells #[.string (mkS p.1), .string (mkS p.2)] 23)).trans (hb1.mono (by have := HJ.out.below.size; simp; omega)))
        clear hb1 c0 c1
        cases k with
        | zero =>
          go_wp2_with fail
          refine (bld_str HB1.out t (by have := HJL.out; omega)).mono ?_
          rintro e w2 ⟨rfl, hb2, hw2⟩
          have HN := Lib.hid (HM.out w2 (by simpa using hb2) (HW1.out.trans hw2))
          clear hb2 hw2
          go_wp2_with fail
          go_roundw
          case rel => exact ⟨1, by omega, by go_num, HN⟩
          case measure => simp [intOf]; omega
        | succ k =>
          go_wp2_with fail
          refine (bld_byte HB1.out 32 (by have := HJL.out; omega)).mono ?_
          rintro e w2 ⟨rfl, hb2, hw2⟩
          have HB2 := Lib.hid hb2
          have HW2 := Lib.hid (HW1.out.trans hw2)
          clear hb2 hw2
          go_wp2_with fail
          refine (bld_str HB2.out t (by have := HJL.out; simp; omega)).mono ?_
          rintro e w3 ⟨rfl, hb3, hw3⟩
          have HN := Lib.hid (HM.out w3 (by simpa using hb3) (HW2.out.trans hw3))
          clear hb3 hw3
          go_wp2_with fail
          go_roundw
          case rel => exact ⟨k + 1 + 1, by omega, by go_num, HN⟩
          case measure => simp [intOf]; omega
      · have HE := Lib.hid (joinE_wrong ps k p HX.out HJ.out.right h0)
        have H0 := Lib.hid h0
        have d1 : (rightE p != 0) = true := bne_iff_ne.2 h0
        generalize rightE p = n at HPR HE H0 d1
        clear h0
        go_wp2_with fail
        refine (HPR.out _).mono ?_
        rintro e w1 ⟨rfl, hb1⟩
        have HW1 := Lib.hid ((HJ.out.below.alloc HJ.out.below.size (.cells #[.string (mkS p.1), .string (mkS p.2)] 23)).trans (hb1.mono (by have := HJ.out.below.size; simp; omega)))
        clear hb1 c0 c1
        go_wp2_with fail
        go_ret2
        exact jo_no HE.out H0.out HW1.out
    · obtain rfl : k = ps.length := by omega
      have hj := HJ.out.bld
      rw [List.take_length] at hj
      have HB := Lib.hid hj
      have HE := Lib.hid (joinE_right ps (by have := HJ.out.right; rwa [List.take_length] at this))
      clear hj
      go_wp2_with fail
      refine (bld_string HB.out).mono ?_
      rintro e w2 ⟨rfl, _, hw2⟩
      have HW2 := Lib.hid (HJ.out.below.trans hw2)
      clear hw2
      go_wp2_with fail
      go_ret2
      exact jo_yes HE.out HW2.out
end Go.Proofs.Ytamjoleknjmpoaa
