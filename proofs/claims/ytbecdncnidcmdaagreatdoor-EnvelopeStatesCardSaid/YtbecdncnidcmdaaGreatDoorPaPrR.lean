/-
  The walk of param's PrintRcpt.
-/
import Derived.Test.YtbecdncnidcmdaaGreatDoorPaRR
import Derived.Test.YtbecdncnidcmdaaGreatDoorPaNames
import Derived.Test.YtbecdncnidcmdaaGreatDoorMaXt
import Derived.Deep.RegionHeld3
namespace Go.Proofs.YtbecdncnidcmdaaGreatDoor
set_option maxRecDepth 100000
open Go.RowKit Go.Shelf
/-- A recipient in its box, block g, and a row of texts of the call's own behind it. -/
structure RS (W : World) (g : Nat) (r : RL) (v : Value) (L : List Txt) (w : World) : Prop where
  rb : RBox W g r w
  row : w.ownsRow (g + 1) 9 1 v L.length (strsV L)
  gW : W.heap.size ≤ g
theorem RS.size {W w : World} {g : Nat} {r : RL} {v : Value} {L : List Txt} (h : RS W g r v L w) : g + 1 ≤ w.heap.size := ltOf h.rb.box
theorem RS.next {W w w' : World} {g : Nat} {r : RL} {v : Value} {L : List Txt} (h : RS W g r v L w) (hb : Below w.heap.size w w') : RS W g r v L w' := ⟨h.rb.next hb, own_below h.row hb, h.gW⟩
theorem RS.app {W w w' : World} {g : Nat} {r : RL} {v v' : Value} {L L' : List Txt} {o : Obj} (h : RS W g r v L w) (hown : w'.ownsRow (g + 1) 9 1 v' L'.length (strsV L')) (hg : (w.alloc o).grownBy w' v.ownBlock) : RS W g r v' L' w' := by
  refine ⟨⟨?_, ?_⟩, hown, h.gW⟩
  · refine (hg.block g (by have := h.size; simp; omega) (fun e => ?_)).trans ((Below.heap_alloc w o g (by have := h.size; omega)).trans h.rb.box)
    have := (h.row.lt g e.symm).1
    omega
  · exact (h.rb.below.alloc h.rb.below.size o).grown hg (by have := h.rb.below.size; simp; omega) (fun k hk => by have := (h.row.lt k hk).1; have := h.gW; omega)
theorem RS.drew {W w : World} {g : Nat} {r : RL} {v : Value} {L : List Txt} (h : RS W g r v L w) : RS W g r v L w.drew := ⟨h.rb.drew, h.row, h.gW⟩
theorem RS.al {w : World} {g : Nat} {a b : Value} {o : Obj} (h : w.cell? ⟨g, 1, none⟩ = some a ∧ w.cell? ⟨g, 2, none⟩ = some b) : (w.alloc o).cell? ⟨g, 1, none⟩ = some a ∧ (w.alloc o).cell? ⟨g, 2, none⟩ = some b :=
  ⟨(Below.cell ((Below.refl w.heap.size w).alloc (Nat.le_refl _) o) (p := ⟨g, 1, none⟩) (cell_lt h.1)).trans h.1, (Below.cell ((Below.refl w.heap.size w).alloc (Nat.le_refl _) o) (p := ⟨g, 2, none⟩) (cell_lt h.2)).trans h.2⟩
theorem rightR_len {r : RL} (h : rightR r = 0) : r.kind.length ≤ 32 ∧ r.oc.length ≤ 256 := by
  unfold rightR at h
  split at h
  · cases h
  · split at h
    · cases h
    · rename_i _ hk
      split at h
      · cases h
      · rename_i ho
        refine ⟨?_, by omega⟩
        have hk' : kindB r = true := by simpa using hk
        unfold kindB isKind at hk'
        simp only [Bool.and_eq_true, Bool.or_eq_true, beq_iff_eq, decide_eq_true_eq] at hk'
        rcases hk'.2 with h0 | h0
        · rw [h0]; simp
        · exact h0.1.1.2
theorem namesV_len (l : Txt) : (namesV l).length ≤ 30 := by
  unfold namesV namesL
  split
  · decide
  · split <;> split <;> split <;> decide
set_option maxHeartbeats 8000000 in
theorem printR_x (r : RL) (w : World) (hN : NotR w) (hk : r.kind.length ≤ 1000000000000) : Calls Tryz.prog 243 #[.agg #[.string (mkS r.no), .string (mkS r.kind), .string (mkS r.oc)]] w fun e w' => e = .returned (.tuple #[.string (mkS (printR r)), .int .i64 (rightR r)]) ∧ Below w.heap.size w w' := by
  have k0 := newOf w (.cells #[.string (mkS r.no), .string (mkS r.kind), .string (mkS r.oc)] 77)
  have kB : Below w.heap.size w (w.alloc (.cells #[.string (mkS r.no), .string (mkS r.kind), .string (mkS r.oc)] 77)) := (Below.refl _ w).alloc (Nat.le_refl _) _
  have H0 := Lib.hid (RBox.mk (W := w) k0 kB)
  have HNb := Lib.hid (fun w' (h : RBox w w.heap.size r w') => hN.below h.below)
  have HR := Lib.hid (fun w' h => rightR_x r w' h hk)
  have hT0 := mkS_toList r.no
  have hT1 := mkS_toList r.kind
  have HP0 := Lib.hid (show rightR r ≠ 0 → printR r = [] from fun h => if_neg h)
  have HP1 := Lib.hid (show rightR r = 0 → printR r = joinC 32 (wordsL (wdR r)) from fun h => if_pos h)
  have HLn := Lib.hid (fun h => rightR_len (r := r) h)
  generalize rightR r = E at HR HP0 HP1 HLn ⊢
  clear k0 kB hN
  go_enter Tryz.func243, Tryz.ntmps243
  go_wp2_with fail
  have c0 := H0.out.c0
  have c1 := H0.out.c1
  have c2 := H0.out.c2
  go_wp2_with fail
  generalize w.alloc (.cells #[.string (mkS r.no), .string (mkS r.kind), .string (mkS r.oc)] 77) = W0 at H0 c0 c1 c2 ⊢
  clear c0 c1 c2
  refine (HR.out _ (HNb.out _ H0.out)).mono ?_
  rintro e w1 ⟨rfl, hb⟩
  have H1 := Lib.hid (H0.out.next hb)
  clear hb H0 HR
  by_cases hE : E = 0
  · subst hE
    obtain ⟨hlk, hlo⟩ := HLn.out rfl
    have HPV := Lib.hid (HP1.out rfl)
    clear HP0 HP1 HLn
    have c0 := H1.out.c0
    have c1 := H1.out.c1
    have c2 := H1.out.c2
    have HS1 := Lib.hid (RS.mk H1.out (v := .slice none 0 0) (L := []) (strs_nil _ _) (Nat.le_refl _))
    have hk1 : r.kind.isEmpty = (r.kind == []) := by cases r.kind <;> rfl
    have hk2 : decide (r.kind = []) = (r.kind == []) := by cases r.kind <;> rfl
    have hn1 : r.no.isEmpty = (r.no == []) := by cases r.no <;> rfl
    have hn2 : decide (r.no = []) = (r.no == []) := by cases r.no <;> rfl
    have HW := Lib.hid (show wordsL (wdR r) = (if !(r.no == []) then [kNO ++ [61] ++ namesV r.no] else []) ++ (if !(r.kind == []) then [kOR ++ [61] ++ (r.kind ++ [59] ++ X.encX r.oc)] else []) by
      unfold wdR
      cases hq1 : r.no == [] <;> cases hq2 : r.kind == [] <;> simp [wordsL, bne, hq1, hq2])
    have hcat1 : { data := #[78, 79, 84, 73, 70, 89, 61] } ++ mkS (namesV r.no) = mkS (kNO ++ [61] ++ namesV r.no) := mkS_cat [78, 79, 84, 73, 70, 89, 61] _
    have hcat2 : { data := #[79, 82, 67, 80, 84, 61] } ++ mkS r.kind ++ { data := #[59] } ++ mkS (X.encX r.oc) = mkS (kOR ++ [61] ++ (r.kind ++ [59] ++ X.encX r.oc)) := by
      rw [show ({ data := #[79, 82, 67, 80, 84, 61] } : ByteArray) = mkS [79, 82, 67, 80, 84, 61] from rfl, show ({ data := #[59] } : ByteArray) = mkS [59] from rfl, mkS_cat, mkS_cat, mkS_cat]
      simp [kOR]
    have hl1 := namesV_len r.no
    have hl2 := (X.encX_len r.oc).2
    have HNn := Lib.hid (fun w h => names_x r.no w h)
    have HEn := Lib.hid (fun w => X.encode_x r.oc w (by omega))
    have hw1 : (kNO ++ [61] ++ namesV r.no).length ≤ 100 := by simp [kNO]; omega
    have hw2 : (kOR ++ [61] ++ (r.kind ++ [59] ++ X.encX r.oc)).length ≤ 10000 := by simp [kOR]; omega
    generalize kNO ++ [61] ++ namesV r.no = W1 at HW hcat1 hw1
    generalize kOR ++ [61] ++ (r.kind ++ [59] ++ X.encX r.oc) = W2 at HW hcat2 hw2
    generalize namesV r.no = nv at HNn hcat1 hl1
    have hl3 : (X.encX r.oc).length ≤ 10000 := by omega
    generalize X.encX r.oc = ev at HEn hcat2 hl3
    clear hl2 hlo
    generalize hq1 : (r.no == []) = q1 at HW hn1 hn2
    generalize hq2 : (r.kind == []) = q2 at HW hk1 hk2
    have hz0 : (mkS nv).size ≤ 100 := by rw [mkS_size]; omega
    have hz1 : (mkS r.kind).size ≤ 100 := by rw [mkS_size]; omega
    have hz2 : (mkS ev).size ≤ 10000 := by rw [mkS_size]; omega
    clear hl1 hl3 hlk
    have hy1 : ¬ 9223372036854775807 < 6 + (mkS r.kind).size := by omega
    have hy2 : ¬ 9223372036854775807 < 6 + (mkS r.kind).size + 1 := by omega
    have hy3 : ¬ 9223372036854775807 < 6 + (mkS r.kind).size + 1 + (mkS ev).size := by omega
    cases q1
    · cases q2
      · go_wp2_with fail
        refine (HNn.out _ (HNb.out _ H1.out)).mono ?_
        rintro e w2 ⟨rfl, hb⟩
        have HS2 := Lib.hid (HS1.out.next hb)
        clear hb HS1 H1 c0 c1 c2
        have d1 := HS2.out.rb.c1
        go_wp2_with (at_builtin; refine app_strs rfl (.tmp 14) (.tmp 19) rfl (w.heap.size + 1) (.slice none 0 0) [] rfl (HS2.out.row.alloc _) ⟨w2.heap.size, 0, none⟩ 1 1 [W1] rfl rfl (news_one w2 W1) (by simp) (by have := HS2.out.size; simp; omega) ?_; intro v1 w3 hown hg; have HS3 := Lib.hid (RS.app (L' := [W1]) HS2.out hown hg); clear hown hg HS2 d1; have d1 := HS3.out.rb.c1; have d2 := HS3.out.rb.c2; obtain ⟨A, c, rfl⟩ := strs_slice HS3.out.row)
        have C1 := Lib.hid (show ([W1]).length + 1 ≤ 100000000 by simp)
        go_region_held3 (fun wr => wr.cell? ⟨w.heap.size, 1, none⟩ = some (.string (mkS r.kind)) ∧ wr.cell? ⟨w.heap.size, 2, none⟩ = some (.string (mkS r.oc)))
          (first | exact ⟨HS3.out.drew.rb.c1, HS3.out.drew.rb.c2⟩ | exact ⟨HS3.out.rb.c1, HS3.out.rb.c2⟩ | exact ⟨by assumption, by assumption⟩ | exact RS.al (by assumption))
          (first
            | (go_at_call 265; (with_reducible refine (HEn.out _).mono ?_); rintro e w4 ⟨rfl, hb4⟩; have g0 := Lib.hid (HS3.out.drew.next hb4); have g1 := g0.out.rb.c1; have g2 := g0.out.rb.c2)
            | (refine step_strs rfl (.tmp 24) (.tmp 33) rfl (w.heap.size + 1) (.slice A 1 c) [W1] rfl (g0.out.row.alloc _) ⟨w4.heap.size, 0, none⟩ 1 1 [W2] rfl rfl (news_one w4 W2) (Nat.zero_lt_succ 0) C1.out (by have := g0.out.size; simp; omega) ?_; intro v2 w5 hown2 hg2; have g5 := Lib.hid (RS.app (L' := [W1, W2]) g0.out hown2 hg2); have g6 := g5.out.rb.c1; have g7 := g5.out.rb.c2))
        all_goals
          have HS4 := g5
          clear hown2 hg2 C1 g0 g1 g2 hb4 g5 g6 g7
          have HJ := Lib.hid (join_x 32 (w.heap.size + 1) v2 [W1, W2] _ HS4.out.row (by simp) (by simp [Lib.lens]; try omega))
          clear hw1 hw2
          have HX := Lib.hid HS4.out.rb
          clear HS4
          go_wp2_with fail
          refine HJ.out.mono ?_
          rintro e w9 ⟨rfl, hb⟩
          have HB := Lib.hid (HX.out.next hb).below
          clear hb
          go_wp2_with fail
          go_ret2
          exact ⟨by rw [HPV.out, HW.out]; rfl, HB.out⟩
        
      · go_wp2_with fail
        refine (HNn.out _ (HNb.out _ H1.out)).mono ?_
        rintro e w2 ⟨rfl, hb⟩
        have HS2 := Lib.hid (HS1.out.next hb)
        clear hb HS1 H1 c0 c1 c2
        have d1 := HS2.out.rb.c1
        go_wp2_with (at_builtin; refine app_strs rfl (.tmp 14) (.tmp 19) rfl (w.heap.size + 1) (.slice none 0 0) [] rfl (HS2.out.row.alloc _) ⟨w2.heap.size, 0, none⟩ 1 1 [W1] rfl rfl (news_one w2 W1) (by simp) (by have := HS2.out.size; simp; omega) ?_; intro v1 w3 hown hg; have HS3 := Lib.hid (RS.app (L' := [W1]) HS2.out hown hg); clear hown hg HS2 d1; have d1 := HS3.out.rb.c1; have d2 := HS3.out.rb.c2; obtain ⟨A, c, rfl⟩ := strs_slice HS3.out.row)
        have HJ := Lib.hid (join_x 32 (w.heap.size + 1) (.slice A 1 c) [W1] _ HS3.out.row (by simp) (by simp [Lib.lens]; try omega))
        clear hw1 hw2
        have HX := Lib.hid HS3.out.rb
        clear HS3
        refine HJ.out.mono ?_
        rintro e w9 ⟨rfl, hb⟩
        have HB := Lib.hid (HX.out.next hb).below
        clear hb
        go_wp2_with fail
        go_ret2
        exact ⟨by rw [HPV.out, HW.out]; rfl, HB.out⟩

    · cases q2
      · have C1 := Lib.hid (show (([] : List Txt)).length + 1 ≤ 100000000 by simp)
        go_wp2_with fail
        go_region_held3 (fun wr => wr.cell? ⟨w.heap.size, 1, none⟩ = some (.string (mkS r.kind)) ∧ wr.cell? ⟨w.heap.size, 2, none⟩ = some (.string (mkS r.oc)))
          (first | exact ⟨HS1.out.drew.rb.c1, HS1.out.drew.rb.c2⟩ | exact ⟨HS1.out.rb.c1, HS1.out.rb.c2⟩ | exact ⟨by assumption, by assumption⟩ | exact RS.al (by assumption))
          (first
            | (go_at_call 265; (with_reducible refine (HEn.out _).mono ?_); rintro e w4 ⟨rfl, hb4⟩; have g0 := Lib.hid (HS1.out.drew.next hb4); have g1 := g0.out.rb.c1; have g2 := g0.out.rb.c2)
            | (refine step_strs rfl (.tmp 24) (.tmp 33) rfl (w.heap.size + 1) (.slice none 0 0) ([] : List Txt) rfl (g0.out.row.alloc _) ⟨w4.heap.size, 0, none⟩ 1 1 [W2] rfl rfl (news_one w4 W2) (Nat.zero_lt_succ 0) C1.out (by have := g0.out.size; simp; omega) ?_; intro v2 w5 hown2 hg2; have g5 := Lib.hid (RS.app (L' := [W2]) g0.out hown2 hg2); have g6 := g5.out.rb.c1; have g7 := g5.out.rb.c2))
        all_goals
          have HS3 := g5
          clear hown2 hg2 C1 g0 g1 g2 hb4 g5 g6 g7
          have HJ := Lib.hid (join_x 32 (w.heap.size + 1) v2 [W2] _ HS3.out.row (by simp) (by simp [Lib.lens]; try omega))
          clear hw1 hw2
          have HX := Lib.hid HS3.out.rb
          clear HS3
          go_wp2_with fail
          refine HJ.out.mono ?_
          rintro e w9 ⟨rfl, hb⟩
          have HB := Lib.hid (HX.out.next hb).below
          clear hb
          go_wp2_with fail
          go_ret2
          exact ⟨by rw [HPV.out, HW.out]; rfl, HB.out⟩
        
      · have HJ := Lib.hid (join_x 32 (w.heap.size + 1) (.slice none 0 0) ([] : List Txt) _ HS1.out.row (by simp) (by simp [Lib.lens]; try omega))
        clear hw1 hw2
        have HX := Lib.hid HS1.out.rb
        clear HS1
        go_wp2_with fail
        refine HJ.out.mono ?_
        rintro e w9 ⟨rfl, hb⟩
        have HB := Lib.hid (HX.out.next hb).below
        clear hb
        go_wp2_with fail
        go_ret2
        exact ⟨by rw [HPV.out, HW.out]; rfl, HB.out⟩

  · have HV := Lib.hid (HP0.out hE)
    clear HP0 HP1 HLn
    go_wp2_with fail
    go_ret2
    exact ⟨by rw [HV.out]; rfl, H1.out.below⟩
end Go.Proofs.YtbecdncnidcmdaaGreatDoor
