/-
  The walk of awake; a wheel of the call's own, step by step.
-/
import Derived.Test.YtmmghdnlppjgbaaWhHeld
namespace Go.Proofs.Ytmmghdnlppjgbaa
set_option maxRecDepth 100000
open Go.RowKit
section
variable {W w : World} {O : Nat → Prop} {b : Nat} {n : Int} {M : List En}
theorem new_h {x : Int} (hb : Below W.heap.size W w) (h : 0 ≤ x ∧ x ≤ 1099511627776) : Calls Try.prog 9 #[.int .i64 x] w fun e w' => ∃ b O', e = .returned (.tuple #[.pointer (some ⟨b, 0, none⟩), .int .i64 0]) ∧ HW W O' b x [] w' ∧ (∀ k, O' k → w.heap.size ≤ k) ∧ Below w.heap.size w w' := by
  refine (new_x x w h).mono ?_
  rintro e w' ⟨b, rfl, ⟨O', h1, h2⟩, h3⟩
  exact ⟨b, O', rfl, ⟨h1, fun k hk => Nat.le_trans hb.size (h2 k hk), hb.trans (h3.mono hb.size)⟩, h2, h3⟩
theorem set_h {M' : List En} {i d : Int} (h : HW W O b n M w) (hi : 0 ≤ i ∧ i ≤ 9223372036854775807) (hd : 0 ≤ d ∧ d ≤ 2199023255552) (few : M.length ≤ 1000) (e : setE M i (max d (n + 1)) = M') : Calls Try.prog 11 #[.pointer (some ⟨b, 0, none⟩), .int .i64 i, .int .i64 d] w fun e w' => e = .returned (.int .i64 0) ∧ ∃ O', HW W O' b n M' w' ∧ (∀ k, O' k → O k ∨ w.heap.size ≤ k) ∧ Fr O w w' := by
  subst e
  refine (set_x h.pw i d hi hd few).mono ?_
  rintro e w' ⟨rfl, hp⟩
  obtain ⟨O', h1, h2⟩ := h.pd hp
  exact ⟨rfl, O', h1, h2, hp.2⟩
theorem cancel_h {M' : List En} {i : Int} {t : Bool} (h : HW W O b n M w) (hi : Nm i) (e : delE M i = M') (e' : (M.any fun p => p.2 == i) = t) : Calls Try.prog 13 #[.pointer (some ⟨b, 0, none⟩), .int .i64 i] w fun e w' => e = .returned (.bool t) ∧ ∃ O', HW W O' b n M' w' ∧ (∀ k, O' k → O k ∨ w.heap.size ≤ k) ∧ Fr O w w' := by
  subst e e'
  refine (cancel_x h.pw i hi).mono ?_
  rintro e w' ⟨rfl, hp⟩
  obtain ⟨O', h1, h2⟩ := h.pd hp
  exact ⟨rfl, O', h1, h2, hp.2⟩
theorem due_h {i x : Int} {t : Bool} (h : PW O b n M w) (hi : Nm i) (e : (dueE M i).getD 0 = x) (e' : (dueE M i).isSome = t) : Calls Try.prog 21 #[.pointer (some ⟨b, 0, none⟩), .int .i64 i] w fun e w' => e = .returned (.tuple #[.int .i64 x, .bool t]) ∧ w' = w := by
  subst e e'
  exact due_x h i hi
theorem next_h {x : Int} {t : Bool} (h : PW O b n M w) (e : headE M = (x, t)) : Calls Try.prog 20 #[.pointer (some ⟨b, 0, none⟩)] w fun e w' => e = .returned (.tuple #[.int .i64 x, .bool t]) ∧ Below w.heap.size w w' := by
  have := next_x h
  rw [e] at this
  exact this
theorem wlen_h {x : Int} (h : PW O b n M w) (e : (M.length : Int) = x) : Calls Try.prog 19 #[.pointer (some ⟨b, 0, none⟩)] w fun e w' => e = .returned (.int .i64 x) ∧ w' = w := by
  subst e
  exact wlen_x h
end
set_option maxHeartbeats 4000000 in
theorem awake_x (W : World) : Calls Try.prog 8 #[] W fun e w' => e = .returned (.bool true) ∧ Below W.heap.size W w' := by
  go_enter Try.func8, Try.ntmps8
  go_wp2_with fail
  refine (new_h (x := 3) (Below.refl W.heap.size W) (by decide)).mono ?_
  rintro e w1 ⟨b, O1, rfl, h1, -, -⟩
  have H1 := Lib.hid h1
  clear h1
  go_wp2_with fail
  refine (new_no (-1) w1 (by decide)).mono ?_
  rintro e w2 ⟨rfl, rfl⟩
  go_wp2_with fail
  refine (set_h (M' := [(5, 2)]) H1.out (by decide) (by decide) (by decide) (by decide)).mono ?_
  rintro e w2 ⟨rfl, O2, h2, -, -⟩
  have H2 := Lib.hid h2
  clear h2 H1
  go_wp2_with fail
  refine (set_h (M' := [(5, 1), (5, 2)]) H2.out (by decide) (by decide) (by decide) (by decide)).mono ?_
  rintro e w3 ⟨rfl, O3, h3, -, -⟩
  have H3 := Lib.hid h3
  clear h3 H2
  go_wp2_with fail
  refine (set_h (M' := [(4, 9), (5, 1), (5, 2)]) H3.out (by decide) (by decide) (by decide) (by decide)).mono ?_
  rintro e w4 ⟨rfl, O4, h4, -, -⟩
  have H4 := Lib.hid h4
  clear h4 H3
  go_wp2_with fail
  refine (due_h (x := 4) (t := true) H4.out.pw (by unfold Nm; decide) (by decide) (by decide)).mono ?_
  rintro e w5 ⟨rfl, rfl⟩
  go_wp2_with fail
  refine (next_h (x := 4) (t := true) H4.out.pw (by decide)).mono ?_
  rintro e w6 ⟨rfl, hb⟩
  have H6 := Lib.hid (H4.out.keep hb)
  clear hb H4
  go_wp2_with fail
  refine (adv_h H6.out (by decide) (by decide) (by decide) (by decide) (by decide)).mono ?_
  rintro e w7 ⟨A, c, m, k, O7, rfl, ha, h7, hr, -, hno, -⟩
  obtain ⟨rfl, rfl⟩ : k = 3 ∧ m = 5 := by
    have hd := ha.doc
    rw [show advK 100 2 [(4, 9), (5, 1), (5, 2)] 0 = (3, some 5) by decide] at hd
    rcases hd with h | h <;> simp at h
    exact ⟨h.1.symm, h.2.symm⟩
  rcases hr.2 with ⟨-, e⟩ | ⟨g, cap, cur, hv, -, hg, -⟩
  · exact absurd e (by decide)
  injection hv with hv1 hv2 hv3
  subst hv1 hv3
  have c0 := hr.cellAt 0 (by decide)
  have c1 := hr.cellAt 1 (by decide)
  have c2 := hr.cellAt 2 (by decide)
  rw [show (intsR (List.map Prod.snd (List.take 3 [((4 : Int), (9 : Int)), (5, 1), (5, 2)])))[0]? = some (.int .i64 9) from rfl] at c0
  rw [show (intsR (List.map Prod.snd (List.take 3 [((4 : Int), (9 : Int)), (5, 1), (5, 2)])))[1]? = some (.int .i64 1) from rfl] at c1
  rw [show (intsR (List.map Prod.snd (List.take 3 [((4 : Int), (9 : Int)), (5, 1), (5, 2)])))[2]? = some (.int .i64 2) from rfl] at c2
  have hl : ((List.take 3 [((4 : Int), (9 : Int)), (5, 1), (5, 2)]).map Prod.snd).length = 3 := rfl
  have hab := ltOf hg
  rw [hl] at hno ⊢
  have H7 : Hid (HW W O7 b 5 [] w7) := Lib.hid h7
  have HC := Lib.hid (And.intro hab (And.intro (hno _ rfl) (And.intro c0 (And.intro c1 c2))))
  clear h7 hr hg hv2 hl hab c0 c1 c2 ha H6 hno
  go_wp2_with fail
  refine (adv_h H7.out (by decide) (by decide) (by decide) (by decide) (by decide)).mono ?_
  rintro e w8 ⟨A2, c2, m, k, O8, rfl, ha, h8, -, -, -, hf⟩
  obtain ⟨rfl, rfl⟩ : k = 0 ∧ m = 100 := by
    have hd := ha.doc
    rw [show advK 100 9 [] 0 = (0, none) by decide] at hd
    rcases hd with h | h <;> simp at h
    exact ⟨h.1.symm, h.2⟩
  have H8 : Hid (HW W O8 b 100 [] w8) := Lib.hid h8
  obtain ⟨hab, hno, c0, c1, c2'⟩ := HC.out
  have fc : ∀ j : Nat, w8.cell? ⟨g, j, none⟩ = w7.cell? ⟨g, j, none⟩ := fun j => hf.cell (p := ⟨g, j, none⟩) hab hno
  rw [← fc] at c0 c1 c2'
  have hl0 : ((List.take 0 ([] : List En)).map Prod.snd).length = 0 := rfl
  rw [hl0]
  clear h8 ha HC hf fc hab hno H7 hl0
  go_wp2_with fail
  refine (adv_no H8.out.pw (by decide)).mono ?_
  rintro e w9 ⟨rfl, rfl⟩
  go_wp2_with fail
  refine (wnow_x H8.out.pw).mono ?_
  rintro e w9 ⟨rfl, rfl⟩
  go_wp2_with fail
  refine (wlen_h (x := 0) H8.out.pw rfl).mono ?_
  rintro e w9 ⟨rfl, rfl⟩
  go_wp2_with fail
  refine (cancel_h (M' := []) (t := false) H8.out (by unfold Nm; decide) rfl rfl).mono ?_
  rintro e w9 ⟨rfl, O9, h9, -, -⟩
  have HB := Lib.hid h9.below
  clear h9 H8
  go_wp2_with fail
  go_ret
  exact ⟨rfl, HB.out⟩
end Go.Proofs.Ytmmghdnlppjgbaa
