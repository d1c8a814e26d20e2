/-
  The walk of the reference's RightMail.
-/
import Derived.Test.YtpdehgkkpgjpnaaGreatDoorMaRf
import Derived.Deep.Cut
namespace Go.Proofs.YtpdehgkkpgjpnaaGreatDoor
set_option maxRecDepth 100000
open Go.RowKit Go.Shelf
/-- Behind the five numbers. -/
structure WX (w : World) (m : ML) (l : List Int) (w' : World) : Prop where
  mx : MX w w.heap.size m w'
  ax : AX (w.heap.size + 1) l w'
theorem WX.next {w w' w'' : World} {m : ML} {l : List Int} (h : WX w m l w') (hb : Below w'.heap.size w' w'') : WX w m l w'' := ⟨h.mx.next hb, h.ax.next hb⟩
theorem wx_new {w W0 : World} {m : ML} (h : MX w w.heap.size m W0) (hsz : W0.heap.size = w.heap.size + 1) (v1 v2 v3 v4 v5 : Int) : WX w m [v1, v2, v3, v4, v5] (W0.alloc (.cells #[.int .i64 v1, .int .i64 v2, .int .i64 v3, .int .i64 v4, .int .i64 v5] 92)).drew :=
  ⟨(h.next (below_new2 W0 _)).drew, ⟨by rw [← hsz]; exact newOf W0 _⟩⟩
/-- A row of texts in a new block. -/
theorem row_new (w : World) (L : List Txt) (cs : Array Value) (h : cs.toList = L.map (fun x => Value.string (mkS x))) : ∀ (j : Nat) x, L[j]? = some x → (w.alloc (.cells cs 9)).cell? ⟨w.heap.size, j, none⟩ = some (.string (mkS x)) := by
  intro j x hx
  rw [cellOf (newOf w (.cells cs 9)) j, ← Array.getElem?_toList, h, List.getElem?_map, hx]
  rfl
set_option maxHeartbeats 16000000 in
theorem rrightM_x (m : ML) (w : World) : Calls Tryz.prog 25 #[.agg #[.bool m.hs, .bool m.hf, .bool m.hu, .bool m.hb, .bool m.hp, .int .i64 m.sz, .int .i64 m.fo, .int .i64 m.un, .int .i64 m.by_, .int .i64 m.pr, .string (mkS m.body), .string (mkS m.ret), .string (mkS m.env), .string (mkS m.mode)]] w fun e w' => e = .returned (.int .i64 (rightM m)) ∧ Below w.heap.size w w' := by
  have H0 := Lib.hid (MX.new w m)
  have HV := Lib.hid (right_ref m)
  have HL := Lib.hid (show wrongsL m = [wrongV m.hs m.sz 0 999999999, wrongV m.hf m.fo 1 1048576, wrongV m.hu m.un 0 253402300799, wrongV m.hb m.by_ (leastV m.mode) 999999999, wrongV m.hp m.pr (-9) 9] from rfl)
  have HW1 := Lib.hid (fun w => wrong_x m.hs m.sz 0 999999999 w)
  have HW2 := Lib.hid (fun w => wrong_x m.hf m.fo 1 1048576 w)
  have HW3 := Lib.hid (fun w => wrong_x m.hu m.un 0 253402300799 w)
  have HW4 := Lib.hid (fun w => wrong_x m.hb m.by_ (leastV m.mode) 999999999 w)
  have HW5 := Lib.hid (fun w => wrong_x m.hp m.pr (-9) 9 w)
  have HLe := Lib.hid (fun w => rleast_x m.mode w)
  have HOk := Lib.hid (show okR m = (rowB.contains m.body && rowR.contains m.ret && rowM.contains m.mode && ((!(m.mode == [])) == m.hb)) from rfl)
  have HA1 := Lib.hid (fun (w' : World) (g c : Nat) hc => among_x m.body rowB g 3 c rfl w' hc (by decide))
  have HA2 := Lib.hid (fun (w' : World) (g c : Nat) hc => among_x m.ret rowR g 3 c rfl w' hc (by decide))
  have HA3 := Lib.hid (fun (w' : World) (g c : Nat) hc => among_x m.mode rowM g 5 c rfl w' hc (by decide))
  generalize rowB.contains m.body = q1 at HA1 HOk
  generalize rowR.contains m.ret = q2 at HA2 HOk
  generalize rowM.contains m.mode = q3 at HA3 HOk
  generalize wrongV m.hs m.sz 0 999999999 = v1 at HW1 HL
  generalize wrongV m.hf m.fo 1 1048576 = v2 at HW2 HL
  generalize wrongV m.hu m.un 0 253402300799 = v3 at HW3 HL
  generalize wrongV m.hb m.by_ (leastV m.mode) 999999999 = v4 at HW4 HL
  generalize wrongV m.hp m.pr (-9) 9 = v5 at HW5 HL
  generalize leastV m.mode = lv at HW4 HLe
  go_enter Tryz.func25, Tryz.ntmps25
  go_wp2_with fail
  generalize hW0 : w.alloc (.cells #[.bool m.hs, .bool m.hf, .bool m.hu, .bool m.hb, .bool m.hp, .int .i64 m.sz, .int .i64 m.fo, .int .i64 m.un, .int .i64 m.by_, .int .i64 m.pr, .string (mkS m.body), .string (mkS m.ret), .string (mkS m.env), .string (mkS m.mode)] 37) = W0 at H0 ⊢
  have hsz : W0.heap.size = w.heap.size + 1 := by rw [← hW0]; simp
  clear hW0
  go_cut [3] from 6 (fun v wc => v = .pointer (some ⟨w.heap.size + 1, 0, none⟩) ∧ Hid (WX w m [v1, v2, v3, v4, v5] wc))
  case first =>
    have HF := Lib.hid (wx_new H0.out hsz v1 v2 v3 v4 v5)
    have HS0 := Lib.hid H0.out.drew.eleven
    have HS1 := Lib.hid (fun o => (H0.out.drew.next (below_new2 W0.drew o)).eleven)
    clear H0
    go_region_held3 (fun wr => wr.cell? ⟨w.heap.size, 0, none⟩ = some (.bool m.hs) ∧ wr.cell? ⟨w.heap.size, 1, none⟩ = some (.bool m.hf) ∧ wr.cell? ⟨w.heap.size, 2, none⟩ = some (.bool m.hu) ∧ wr.cell? ⟨w.heap.size, 3, none⟩ = some (.bool m.hb) ∧ wr.cell? ⟨w.heap.size, 4, none⟩ = some (.bool m.hp) ∧ wr.cell? ⟨w.heap.size, 5, none⟩ = some (.int .i64 m.sz) ∧ wr.cell? ⟨w.heap.size, 6, none⟩ = some (.int .i64 m.fo) ∧ wr.cell? ⟨w.heap.size, 7, none⟩ = some (.int .i64 m.un) ∧ wr.cell? ⟨w.heap.size, 8, none⟩ = some (.int .i64 m.by_) ∧ wr.cell? ⟨w.heap.size, 9, none⟩ = some (.int .i64 m.pr) ∧ wr.cell? ⟨w.heap.size, 13, none⟩ = some (.string (mkS m.mode))) (first | exact HS0.out | exact HS1.out _ | assumption) (first
      | (go_at_call 52; (with_reducible refine (HW1.out _).mono ?_); rintro e w' ⟨rfl, rfl⟩)
      | (go_at_call 52; (with_reducible refine (HW2.out _).mono ?_); rintro e w' ⟨rfl, rfl⟩)
      | (go_at_call 52; (with_reducible refine (HW3.out _).mono ?_); rintro e w' ⟨rfl, rfl⟩)
      | (go_at_call 52; (with_reducible refine (HW4.out _).mono ?_); rintro e w' ⟨rfl, rfl⟩)
      | (go_at_call 52; (with_reducible refine (HW5.out _).mono ?_); rintro e w' ⟨rfl, rfl⟩)
      | (go_at_call 53; (with_reducible refine (HLe.out _).mono ?_); rintro e w' ⟨rfl, rfl⟩))
    all_goals
      go_wp2_with fail
      go_meet
      case rel => exact ⟨rfl, HF⟩
  case rest =>
    obtain ⟨rfl, HT⟩ := hcut
    clear H0 hsz HW1 HW2 HW3 HW4 HW5 HLe
    have HLn := Lib.hid (show [v1, v2, v3, v4, v5].length = 5 from rfl)
    generalize [v1, v2, v3, v4, v5] = l at HL HT HLn
    rw [HL.out] at HV
    clear HL
    go_wp2_with fail
    go_loop [4] (fun i => ∃ k : Nat, k ≤ 5 ∧ i = .int .i64 k ∧ Hid (2 ∉ l.take k)) (fun i => 5 - (intOf i).toNat)
    case atStart => exact ⟨0, Nat.zero_le _, rfl, by show 2 ∉ l.take 0; simp⟩
    case round =>
      obtain ⟨k, hk, rfl, HN⟩ := hrel
      by_cases hlt : k < 5
      · obtain ⟨x, hX⟩ : ∃ x, l[k]? = some x := ⟨_, List.getElem?_eq_getElem (by rw [HLn.out]; exact hlt)⟩
        have hcx := HT.out.ax.cell hX
        by_cases hx : x = 2
        · subst hx
          have HM := Lib.hid (show 2 ∈ l from List.mem_of_getElem? hX)
          clear hX
          go_wp2_with fail
          go_ret
          exact ⟨ret_int (by rw [HV.out, refR, if_pos HM.out]), HT.out.mx.below⟩
        · have hxb : (x == 2) = false := beq_eq_false_iff_ne.2 hx
          have HN2 := Lib.hid (show 2 ∉ l.take (k + 1) by
            rw [List.take_add_one, hX]
            intro h
            rcases List.mem_append.1 h with h | h
            · exact HN.out h
            · simp at h; exact hx h.symm)
          clear hX
          go_wp2_with fail
          go_round
          case rel => exact ⟨k + 1, by omega, by go_num, HN2⟩
          case measure => simp [intOf]; omega
      · obtain rfl : k = 5 := by omega
        have HM := Lib.hid (show 2 ∉ l by have := HN.out; rwa [List.take_of_length_le (by rw [HLn.out]; omega)] at this)
        clear HN hlt hk
        have c3 := HT.out.mx.c3
        have c10 := HT.out.mx.c10
        have hT13 := mkS_toList m.mode
        cases q1
        · go_wp2_with fail
          refine (HA1.out _ _ _ ?_).mono ?_
          · exact row_new _ rowB _ rfl
          rintro e w1 ⟨rfl, hw⟩
          have HT1 := Lib.hid (show WX w m l w1 by rw [hw]; exact HT.out.next (below_new2 _ _))
          clear hw
          clear c3 c10
          go_wp2_with fail
          go_ret
          exact ⟨ret_int (by rw [HV.out]; rw [refR, if_neg HM.out, HOk.out]; rfl), HT1.out.mx.below⟩
        · go_wp2_with fail
          refine (HA1.out _ _ _ ?_).mono ?_
          · exact row_new _ rowB _ rfl
          rintro e w1 ⟨rfl, hw⟩
          have HT1 := Lib.hid (show WX w m l w1 by rw [hw]; exact HT.out.next (below_new2 _ _))
          clear hw
          have c11 := HT1.out.mx.c11
          cases q2
          · go_wp2_with fail
            refine (HA2.out _ _ _ ?_).mono ?_
            · exact row_new _ rowR _ rfl
            rintro e w2 ⟨rfl, hw⟩
            have HT2 := Lib.hid (show WX w m l w2 by rw [hw]; exact HT1.out.next (below_new2 _ _))
            clear hw
            clear c3 c10 c11
            go_wp2_with fail
            go_ret
            exact ⟨ret_int (by rw [HV.out]; rw [refR, if_neg HM.out, HOk.out]; rfl), HT2.out.mx.below⟩
          · go_wp2_with fail
            refine (HA2.out _ _ _ ?_).mono ?_
            · exact row_new _ rowR _ rfl
            rintro e w2 ⟨rfl, hw⟩
            have HT2 := Lib.hid (show WX w m l w2 by rw [hw]; exact HT1.out.next (below_new2 _ _))
            clear hw
            have c13 := HT2.out.mx.c13
            cases q3
            · go_wp2_with fail
              refine (HA3.out _ _ _ ?_).mono ?_
              · exact row_new _ rowM _ rfl
              rintro e w3 ⟨rfl, hw⟩
              have HT3 := Lib.hid (show WX w m l w3 by rw [hw]; exact HT2.out.next (below_new2 _ _))
              clear hw
              clear c3 c10 c11 c13
              go_wp2_with fail
              go_ret
              exact ⟨ret_int (by rw [HV.out]; rw [refR, if_neg HM.out, HOk.out]; rfl), HT3.out.mx.below⟩
            · go_wp2_with fail
              refine (HA3.out _ _ _ ?_).mono ?_
              · exact row_new _ rowM _ rfl
              rintro e w3 ⟨rfl, hw⟩
              have HT3 := Lib.hid (show WX w m l w3 by rw [hw]; exact HT2.out.next (below_new2 _ _))
              clear hw
              clear c3 c10 c11 c13
              have d3 := HT3.out.mx.c3
              have d13 := HT3.out.mx.c13
              have hk1 : m.mode.isEmpty = (m.mode == []) := by cases m.mode <;> rfl
              have hk2 : decide (m.mode = []) = (m.mode == []) := by cases m.mode <;> rfl
              generalize (m.mode == []) = qm at HOk hk1 hk2
              generalize hb3 : m.hb = b3 at d3 HOk
              clear hb3
              have HE : (qm = true ∧ b3 = true) ∨ (qm = false ∧ b3 = false) ∨ (qm = true ∧ b3 = false) ∨ (qm = false ∧ b3 = true) := by cases qm <;> cases b3 <;> simp
              rcases HE with ⟨rfl, rfl⟩ | ⟨rfl, rfl⟩ | ⟨rfl, rfl⟩ | ⟨rfl, rfl⟩
              · clear HA1 HA2 HA3
                go_wp2_with fail
                go_ret
                exact ⟨ret_int (by rw [HV.out, refR, if_neg HM.out, HOk.out]; rfl), HT3.out.mx.below⟩
              · clear HA1 HA2 HA3
                go_wp2_with fail
                go_ret
                exact ⟨ret_int (by rw [HV.out, refR, if_neg HM.out, HOk.out]; rfl), HT3.out.mx.below⟩
              all_goals
                clear HA1 HA2 HA3
                rw [HOk.out] at HV
                clear HOk
                go_wp2_with fail
                clear d3 d13 hk1 hk2
                go_loop [5] (fun i => ∃ k : Nat, k ≤ 5 ∧ i = .int .i64 k ∧ Hid (1 ∉ l.take k)) (fun i => 5 - (intOf i).toNat)
                case atStart => exact ⟨0, Nat.zero_le _, rfl, by show 1 ∉ l.take 0; simp⟩
                case round =>
                  obtain ⟨k, hk, rfl, HN⟩ := hrel
                  by_cases hlt : k < 5
                  · obtain ⟨x, hX⟩ : ∃ x, l[k]? = some x := ⟨_, List.getElem?_eq_getElem (by rw [HLn.out]; exact hlt)⟩
                    have hcx := HT3.out.ax.cell hX
                    by_cases hx : x = 1
                    · subst hx
                      have HM1 := Lib.hid (show 1 ∈ l from List.mem_of_getElem? hX)
                      clear hX
                      go_wp2_with fail
                      go_ret
                      exact ⟨ret_int (by rw [HV.out, refR, if_neg HM.out, if_neg (by decide), if_pos HM1.out]), HT3.out.mx.below⟩
                    · have hxb : (x == 1) = false := beq_eq_false_iff_ne.2 hx
                      have HN2 := Lib.hid (show 1 ∉ l.take (k + 1) by
                        rw [List.take_add_one, hX]
                        intro h
                        rcases List.mem_append.1 h with h | h
                        · exact HN.out h
                        · simp at h; exact hx h.symm)
                      clear hX
                      go_wp2_with fail
                      go_round
                      case rel => exact ⟨k + 1, by omega, by go_num, HN2⟩
                      case measure => simp [intOf]; omega
                  · obtain rfl : k = 5 := by omega
                    have HM1 := Lib.hid (show 1 ∉ l by have := HN.out; rwa [List.take_of_length_le (by rw [HLn.out]; omega)] at this)
                    clear HN hlt hk
                    have e1 := HT3.out.mx.c1
                    have e2 := HT3.out.mx.c2
                    have e12 := HT3.out.mx.c12
                    have hse := mkS_size m.env
                    have HR := Lib.hid (show rightM m = if 100 < m.env.length then 3 else if (m.hf && m.hu) then 9 else 0 by rw [HV.out, refR, if_neg HM.out, if_neg (by decide), if_neg HM1.out])
                    clear HV
                    generalize hb1 : m.hf = b1 at e1 HR
                    generalize hb2 : m.hu = b2 at e2 HR
                    clear hb1 hb2
                    by_cases hl : 100 < m.env.length
                    · have hlI : (100 : Int) < (m.env.length : Int) := by omega
                      go_wp2_with fail
                      go_ret
                      exact ⟨ret_int (by rw [HR.out, if_pos hl]), HT3.out.mx.below⟩
                    · have hlI : ¬ (100 : Int) < (m.env.length : Int) := by omega
                      cases b1
                      · go_wp2_with fail
                        go_ret
                        exact ⟨ret_int (by rw [HR.out, if_neg hl]; rfl), HT3.out.mx.below⟩
                      · cases b2
                        · go_wp2_with fail
                          go_ret
                          exact ⟨ret_int (by rw [HR.out, if_neg hl]; rfl), HT3.out.mx.below⟩
                        · go_wp2_with fail
                          go_ret
                          exact ⟨ret_int (by rw [HR.out, if_neg hl]; rfl), HT3.out.mx.below⟩
end Go.Proofs.YtpdehgkkpgjpnaaGreatDoor
