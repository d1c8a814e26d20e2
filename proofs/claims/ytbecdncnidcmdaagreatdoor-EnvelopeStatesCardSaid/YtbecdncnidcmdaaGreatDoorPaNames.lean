/-
  The walk of param's names.
-/
import Derived.Test.YtbecdncnidcmdaaGreatDoorPaNote
import Derived.Test.YtbecdncnidcmdaaGreatDoorPaJoin
namespace Go.Proofs.YtbecdncnidcmdaaGreatDoor
set_option maxRecDepth 100000
open Go.RowKit Go.Shelf
/-- A row of texts of the call's own is a slice. -/
theorem strs_slice {w : World} {B : Nat} {v : Value} {l : List Txt} (h : w.ownsRow B 9 1 v l.length (strsV l)) : ∃ A c, v = .slice A l.length c := by
  rcases Joins.ownsRow_forms h with ⟨rfl, h0⟩ | ⟨g, cap, rfl⟩
  · exact ⟨none, 0, by rw [h0]⟩
  · exact ⟨_, cap, rfl⟩
/-- What the first k notices add. -/
def namesP (l : Txt) (k : Nat) : List Txt := (if 0 < k ∧ l.contains 83 = true then [tSU] else []) ++ (if 1 < k ∧ l.contains 70 = true then [tFA] else []) ++ (if 2 < k ∧ l.contains 68 = true then [tDE] else [])
theorem namesP_len (l : Txt) (k : Nat) : (namesP l k).length ≤ 3 ∧ Lib.lens (namesP l k) ≤ 30 := by
  unfold namesP
  split <;> split <;> split <;> simp [Lib.lens, tSU, tFA, tDE]
theorem namesP_full (l : Txt) : namesP l 3 = namesL l := by unfold namesP namesL; simp
theorem namesP_1 (l : Txt) : namesP l 1 = namesP l 0 ++ (if l.contains 83 = true then [tSU] else []) := by unfold namesP; simp
theorem namesP_2 (l : Txt) : namesP l 2 = namesP l 1 ++ (if l.contains 70 = true then [tFA] else []) := by unfold namesP; simp
theorem namesP_3 (l : Txt) : namesP l 3 = namesP l 2 ++ (if l.contains 68 = true then [tDE] else []) := by unfold namesP; simp
set_option maxHeartbeats 4000000 in
theorem names_x (l : Txt) (w : World) (hN : NotR w) : Calls Tryz.prog 268 #[.string (mkS l)] w fun e w' => e = .returned (.string (mkS (namesV l))) ∧ Below w.heap.size w w' := by
  have hT := mkS_toList l
  by_cases hn : l = [78]
  · have hq : (l == [78]) = true := by rw [hn]; rfl
    have HV := Lib.hid (show namesV l = tNE by rw [namesV, if_pos hn])
    clear hn
    go_enter Tryz.func268, Tryz.ntmps268
    go_wp2_with fail
    go_ret
    exact ⟨by rw [HV.out]; rfl, Below.refl _ _⟩
  · have hq : (l == [78]) = false := beq_eq_false_iff_ne.2 hn
    have HV := Lib.hid (show namesV l = joinC 44 (namesP l 3) by rw [namesV, if_neg hn, namesP_full])
    clear hn
    obtain ⟨c0, c1, c2⟩ := hN
    obtain ⟨x0, x1, x2⟩ := idxR
    have HS := Lib.hid (fun w => contains_x l 83 w)
    have HF := Lib.hid (fun w => contains_x l 70 w)
    have HD := Lib.hid (fun w => contains_x l 68 w)
    go_enter Tryz.func268, Tryz.ntmps268
    go_wp2_with fail
    go_loopw [3, 9] (fun v i wr => ∃ k : Nat, k ≤ 3 ∧ i = .int .i64 k ∧ Hid (wr.ownsRow w.heap.size 9 1 v (namesP l k).length (strsV (namesP l k))) ∧ Hid (Below w.heap.size w wr)) (fun _ i _ => 3 - (intOf i).toNat)
    case atStart => exact ⟨0, Nat.zero_le _, rfl, strs_nil _ _, Below.refl _ _⟩
    case round =>
      obtain ⟨k, hk, rfl, HO, HW⟩ := hrel
      obtain ⟨A, c, rfl⟩ := strs_slice HO.out
      have hkk : k = 0 ∨ k = 1 ∨ k = 2 ∨ k = 3 := by omega
      rcases hkk with rfl | rfl | rfl | rfl
      · have HP := Lib.hid (namesP_1 l)
        have hle := (namesP_len l 0).1
        generalize namesP l 0 = P at HO HP hle ⊢
        cases hc : l.contains 83
        · rw [hc] at HP HS
          clear hc
          go_wp2_with fail
          refine (HS.out _).mono ?_
          rintro e w' ⟨rfl, rfl⟩
          go_wp2_with fail
          go_roundw
          case rel => exact ⟨1, by omega, by go_num, by rw [HP.out]; simpa using HO, HW⟩
          case measure => simp [intOf]
        · rw [hc] at HP HS
          clear hc
          go_wp2_with fail
          refine (HS.out _).mono ?_
          rintro e w' ⟨rfl, rfl⟩
          go_wp2_with (at_builtin; refine app_strs rfl (.tmp 16) (.tmp 18) rfl w.heap.size (.slice A P.length c) P rfl (HO.out.alloc _) ⟨wr.heap.size, 0, none⟩ 1 1 [tSU] rfl rfl ?a1 ?a2 ?a3 ?_)
          case a1 => exact news_one wr tSU
          case a2 => omega
          case a3 => have := HW.out.size; simp; omega
          intro v1 w3 hown hg
          have HO3 := Lib.hid hown
          have HW3 := Lib.hid (strs_grown HW.out.size HW.out HO.out hg)
          clear hown hg
          go_wp2_with fail
          go_roundw
          case rel => exact ⟨1, by omega, by go_num, by rw [HP.out, if_pos trivial, List.length_append]; exact HO3, HW3⟩
          case measure => simp [intOf]
      · have HP := Lib.hid (namesP_2 l)
        have hle := (namesP_len l 1).1
        generalize namesP l 1 = P at HO HP hle ⊢
        cases hc : l.contains 70
        · rw [hc] at HP HF
          clear hc
          go_wp2_with fail
          refine (HF.out _).mono ?_
          rintro e w' ⟨rfl, rfl⟩
          go_wp2_with fail
          go_roundw
          case rel => exact ⟨2, by omega, by go_num, by rw [HP.out]; simpa using HO, HW⟩
          case measure => simp [intOf]
        · rw [hc] at HP HF
          clear hc
          go_wp2_with fail
          refine (HF.out _).mono ?_
          rintro e w' ⟨rfl, rfl⟩
          go_wp2_with (at_builtin; refine app_strs rfl (.tmp 16) (.tmp 18) rfl w.heap.size (.slice A P.length c) P rfl (HO.out.alloc _) ⟨wr.heap.size, 0, none⟩ 1 1 [tFA] rfl rfl ?a1 ?a2 ?a3 ?_)
          case a1 => exact news_one wr tFA
          case a2 => omega
          case a3 => have := HW.out.size; simp; omega
          intro v1 w3 hown hg
          have HO3 := Lib.hid hown
          have HW3 := Lib.hid (strs_grown HW.out.size HW.out HO.out hg)
          clear hown hg
          go_wp2_with fail
          go_roundw
          case rel => exact ⟨2, by omega, by go_num, by rw [HP.out, if_pos trivial, List.length_append]; exact HO3, HW3⟩
          case measure => simp [intOf]
      · have HP := Lib.hid (namesP_3 l)
        have hle := (namesP_len l 2).1
        generalize namesP l 2 = P at HO HP hle ⊢
        cases hc : l.contains 68
        · rw [hc] at HP HD
          clear hc
          go_wp2_with fail
          refine (HD.out _).mono ?_
          rintro e w' ⟨rfl, rfl⟩
          go_wp2_with fail
          go_roundw
          case rel => exact ⟨3, by omega, by go_num, by rw [HP.out]; simpa using HO, HW⟩
          case measure => simp [intOf]
        · rw [hc] at HP HD
          clear hc
          go_wp2_with fail
          refine (HD.out _).mono ?_
          rintro e w' ⟨rfl, rfl⟩
          go_wp2_with (at_builtin; refine app_strs rfl (.tmp 16) (.tmp 18) rfl w.heap.size (.slice A P.length c) P rfl (HO.out.alloc _) ⟨wr.heap.size, 0, none⟩ 1 1 [tDE] rfl rfl ?a1 ?a2 ?a3 ?_)
          case a1 => exact news_one wr tDE
          case a2 => omega
          case a3 => have := HW.out.size; simp; omega
          intro v1 w3 hown hg
          have HO3 := Lib.hid hown
          have HW3 := Lib.hid (strs_grown HW.out.size HW.out HO.out hg)
          clear hown hg
          go_wp2_with fail
          go_roundw
          case rel => exact ⟨3, by omega, by go_num, by rw [HP.out, if_pos trivial, List.length_append]; exact HO3, HW3⟩
          case measure => simp [intOf]
      · have HJ := Lib.hid (join_x 44 w.heap.size (.slice A (namesP l 3).length c) (namesP l 3) wr HO.out (by have := (namesP_len l 3).1; omega) (by have := (namesP_len l 3).2; omega))
        rw [← HV.out] at HJ
        generalize (namesP l 3).length = n at HJ
        go_wp2_with fail
        refine HJ.out.mono ?_
        rintro e w' ⟨rfl, hb⟩
        have HB := Lib.hid (below_next HW.out hb)
        clear hb
        go_wp2_with fail
        go_ret
        exact ⟨rfl, HB.out⟩
end Go.Proofs.YtbecdncnidcmdaaGreatDoor
