/-
  The walk of the reference's Print.
-/
import Derived.Test.YtamjoleknjmpoaaPrRefB
namespace Go.Proofs.Ytamjoleknjmpoaa
open Go.RowKit
theorem text_dom {p : Pth} (h : rightE p = 0) : ((p.2 == []) = true → (nullB p || hostB p) = true) ∧ ((p.2 == []) = false → (nullB p || hostB p) = false) := by
  obtain ⟨_, hf⟩ := right_ok h
  refine ⟨fun h2 => ?_, fun h2 => ?_⟩
  · have e : p.2 = [] := eq_of_beq h2
    cases hn : (nullB p || hostB p)
    · rw [formB, hn, e] at hf
      have : labels [] = false := by decide
      rw [this] at hf
      simp at hf
    · rfl
  · simp [nullB, hostB, h2]
theorem c34 : (⟨#[34]⟩ : ByteArray) = mkS [34] := rfl
theorem text_quoted {p : Pth} (h : (nullB p || hostB p) = false) (ha : atoms p.1 = false) : mkS ([60, 34] ++ quoL p.1) ++ mkS [34] ++ { data := #[64] } ++ mkS p.2 ++ { data := #[62] } = mkS (textL p) := by
  rw [c64, c62, mkS_cat, mkS_cat, mkS_cat, mkS_cat, textL, h, locL, ha]
  simp
theorem text_plain {p : Pth} (h : (nullB p || hostB p) = false) (ha : atoms p.1 = true) : { data := #[60] } ++ mkS p.1 ++ { data := #[64] } ++ mkS p.2 ++ { data := #[62] } = mkS (textL p) := by
  rw [c60, c64, c62, mkS_cat, mkS_cat, mkS_cat, mkS_cat, textL, h, locL, ha]
  simp
theorem text_alone {p : Pth} (h : (nullB p || hostB p) = true) : { data := #[60] } ++ mkS p.1 ++ { data := #[62] } = mkS (textL p) := by
  rw [c60, c62, mkS_cat, mkS_cat, textL, h]
  rfl
/-- What holds in the loop that quotes. -/
structure QI (W : World) (p : Pth) (l : List UInt8) (v : Value) (w : World) : Prop where
  row : w.ownsRow (W.heap.size + 1) 5 1 v l.length (bytesV l)
  box : w.heap[W.heap.size]? = some (.cells #[.string (mkS p.1), .string (mkS p.2)] 25 (0, 0))
  below : Below W.heap.size W w
  size : W.heap.size + 1 ≤ w.heap.size
theorem QI.more {W w w' : World} {p : Pth} {l m : List UInt8} {v v' : Value} {o : Obj} (h : QI W p l v w) (hown : w'.ownsRow (W.heap.size + 1) 5 1 v' (l ++ m).length (bytesV (l ++ m))) (hg : (w.alloc o).grownBy w' v.ownBlock) : QI W p (l ++ m) v' w' := by
  have hb : Below (W.heap.size + 1) w w' := ((Below.refl (W.heap.size + 1) w).alloc h.size o).grown hg (by simp; have := h.size; omega) (fun k hk => (h.row.lt k hk).1)
  exact ⟨hown, (hb.block _ (by omega)).trans h.box, h.below.trans (hb.mono (by omega)), Nat.le_trans h.size hb.size⟩
set_option maxHeartbeats 8000000 in
theorem rprint_x (p : Pth) (w : World) : Calls Try.prog 10 #[.agg #[.string (mkS p.1), .string (mkS p.2)]] w (PrPost p w) := by
  have HR := Lib.hid (fun w => rright_x p w)
  have HP := Lib.hid (rx_new (Below.refl w.heap.size w) p)
  by_cases h0 : rightE p = 0
  · have H0 := Lib.hid h0
    rw [h0] at HR
    have hlong := (right_ok h0).1
    simp only [longB, Bool.or_eq_false_iff, decide_eq_false_iff_not] at hlong
    have HA := Lib.hid (fun w => ratoms_x p.1 w (by omega))
    have z1 := mkS_size p.1
    have z2 := mkS_size p.2
    have hT2 := mkS_toList p.2
    have hem2 : p.2.isEmpty = (p.2 == []) := by cases p.2 <;> rfl
    have HTD := Lib.hid (text_dom h0)
    generalize hqb : (p.2 == []) = qb at HTD hem2
    clear h0
    cases qb
    · have hnh := HTD.out.2 rfl
      cases qa : atoms p.1
      · have HC := Lib.hid (text_quoted hnh qa)
        rw [qa] at HA
        clear hnh qa
        go_enter Try.func10, Try.ntmps10
        go_wp2_with fail
        refine (HR.out _).mono ?_
        rintro e w1 ⟨rfl, hb1⟩
        have P1 := Lib.hid (HP.out.next hb1)
        clear hb1
        have k0 := cellOf P1.out.box 0
        have k1 := cellOf P1.out.box 1
        go_wp2_with fail
        refine (HA.out _).mono ?_
        rintro e w2 ⟨rfl, hb2⟩
        have P2 := Lib.hid (P1.out.next hb2)
        clear hb2 k0 k1
        have HQ := Lib.hid (show QI w p [60, 34] (.slice (some ⟨w2.heap.size, 0, none⟩) 2 2) (w2.alloc (.cells #[.int .u8 60, .int .u8 34] 5)) from
          ⟨World.ownsRow_lit w2 #[.int .u8 60, .int .u8 34] 2 (by have := ltOf P2.out.box; omega) (by unfold maxLen; omega) rfl, ((below_box w2 _).block _ (ltOf P2.out.box)).trans P2.out.box, P2.out.below.alloc P2.out.below.size _, by have := ltOf P2.out.box; simp; omega⟩)
        go_wp2_with fail
        go_loopw [5, 6] (fun v i wr => ∃ k : Nat, k ≤ p.1.length ∧ i = .int .i64 k ∧ Hid (QI w p ([60, 34] ++ quoL (p.1.take k)) v wr)) (fun _ i _ => p.1.length - (intOf i).toNat)
        case atStart => exact ⟨0, Nat.zero_le _, rfl, HQ⟩
        case round =>
          obtain ⟨k, hk, rfl, HI⟩ := hrel
          obtain ⟨A, c, hv⟩ := own_slice HI.out.row
          have k0 := cellOf HI.out.box 0
          have k1 := cellOf HI.out.box 1
          by_cases hlt : k < p.1.length
          · obtain ⟨x, hx⟩ : ∃ x : UInt8, (mkS p.1)[k]'(by omega) = x := ⟨_, rfl⟩
            have hX : p.1[k]? = some x := by rw [← hx]; have := Lib.data_getElem? (mkS p.1) k (by omega); rwa [mkS_data] at this
            have HT := Lib.hid (quo_take hX)
            have hql : (quoL (p.1.take k)).length ≤ 200 := by have := quo_len (p.1.take k); rw [List.length_take] at this; omega
            generalize quoL (p.1.take k) = ek at HI HT hql hv
            have hkl : ([60, 34] ++ ek).length ≤ 300 := by simp; omega
            generalize hee : [60, 34] ++ ek = ee at HI hkl hv
            have HEE := Lib.hid hee
            have d1 : ((x.toNat : Int) == 34) = (x == 34) := byte_beq x 34 (by decide) 34 rfl
            have d2 : ((x.toNat : Int) == 92) = (x == 92) := byte_beq x 92 (by decide) 92 rfl
            have HV := Lib.hid (show quoB x = if x == 34 || x == 92 then [92, x] else [x] from rfl)
            generalize quoB x = qb at HT HV
            generalize (x == 34) = q1 at d1 HV
            generalize (x == 92) = q2 at d2 HV
            subst hv
            clear hX hee hql
            cases hq : (q1 || q2)
            · obtain ⟨rfl, rfl⟩ : q1 = false ∧ q2 = false := by simpa using hq
              clear hq
              go_wp2_with (at_builtin; refine app_bytes rfl (.tmp 53) (.tmp 58) rfl (w.heap.size + 1) (.slice A ee.length c) ee rfl (HI.out.row.alloc _) ⟨wr.heap.size, 0, none⟩ 1 1 [x] rfl rfl ?a1 ?a2 ?a3 ?_)
              case a1 => exact cells_new wr [x] _ rfl _ rfl
              case a2 => omega
              case a3 => have := HI.out.size; simp; omega
              intro v1 w3 hown hg
              have HN := Lib.hid (HI.out.more (m := [x]) (by first | exact hown | (rw [List.length_append]; exact hown)) hg)
              clear hown hg k0 k1
              go_wp2_with fail
              go_roundw
              case rel => exact ⟨k + 1, by omega, by go_num, by rw [HT.out, HV.out, ← List.append_assoc, HEE.out]; exact HN⟩
              case measure => simp [intOf]; omega
            · have HVV := Lib.hid (show qb = [92, x] by rw [HV.out, hq]; rfl)
              cases q1 <;> cases q2 <;> simp at hq
              all_goals
                go_wp2_with (at_builtin; refine app_bytes rfl (.tmp 50) (.tmp 51) rfl (w.heap.size + 1) (.slice A ee.length c) ee rfl (HI.out.row.alloc _) ⟨wr.heap.size, 0, none⟩ 1 1 [92] rfl rfl (cells_new wr [92] _ rfl _ rfl) (by omega) (by have := HI.out.size; simp; omega) ?_)
                intro v1 w3 hown hg
                have HN := Lib.hid (HI.out.more (m := [92]) (by first | exact hown | (rw [List.length_append]; exact hown)) hg)
                clear hown hg k0 k1
                have hkl2 : (ee ++ [92]).length ≤ 400 := by simp; omega
                generalize he2 : ee ++ [92] = e2 at HN hkl2
                have HE2 := Lib.hid he2
                obtain ⟨A1, c1, hv1⟩ := own_slice HN.out.row
                subst hv1
                clear he2
                have k0 := cellOf HN.out.box 0
                have k1 := cellOf HN.out.box 1
                go_wp2_with (at_builtin; refine app_bytes rfl (.tmp 53) (.tmp 58) rfl (w.heap.size + 1) (.slice A1 e2.length c1) e2 rfl (HN.out.row.alloc _) ⟨w3.heap.size, 0, none⟩ 1 1 [x] rfl rfl (cells_new w3 [x] _ rfl _ rfl) (by omega) (by have := HN.out.size; simp; omega) ?_)
                intro v2 w4 hown hg
                have HN2 := Lib.hid (HN.out.more (m := [x]) (by first | exact hown | (rw [List.length_append]; exact hown)) hg)
                clear hown hg k0 k1
                go_wp2_with fail
                go_roundw
                case rel => exact ⟨k + 1, by omega, by go_num, by rw [HT.out, HVV.out, ← List.append_assoc, HEE.out]; have := HN2.out; rw [← HE2.out, List.append_assoc] at this; exact this⟩
                case measure => simp [intOf]; omega
          · have hI := HI.out
            rw [List.take_of_length_le (by omega)] at hI hv
            have hcv := conv_own hI.row
            have hcn : (convert 42 9 (.slice (some ⟨wr.heap.size, 0, none⟩) 1 1)).run Try.prog (wr.alloc (.cells #[.int .u8 34] 5)) = .ok (.string (mkS [34])) (wr.alloc (.cells #[.int .u8 34] 5)) := conv_new wr 34 wr.heap.size rfl
            have hq2 := quo_len p.1
            have hz5 : (mkS ([60, 34] ++ quoL p.1)).size = (quoL p.1).length + 2 := by rw [mkS_size]; simp
            have hz6 : (mkS [34]).size = 1 := rfl
            have hc2 := HC.out
            have HB := Lib.hid (hI.below.alloc hI.below.size (.cells #[.int .u8 34] 5))
            have hk0 := (below_box wr (.cells #[.int .u8 34] 5)).cell (p := ⟨w.heap.size, 1, none⟩) (ltOf hI.box)
            rw [k1] at hk0
            generalize [60, 34] ++ quoL p.1 = big at hcv hz5 hc2 hv
            generalize (quoL p.1).length = ql at hq2 hz5
            subst hv
            clear hI
            go_wp2_with fail
            go_ret2
            exact pr_yes H0.out rfl HB.out
      · have HC := Lib.hid (text_plain hnh qa)
        have hcat := HC.out
        rw [qa] at HA
        clear hnh qa
        go_enter Try.func10, Try.ntmps10
        go_wp2_with fail
        refine (HR.out _).mono ?_
        rintro e w1 ⟨rfl, hb1⟩
        have P1 := Lib.hid (HP.out.next hb1)
        clear hb1
        have k0 := cellOf P1.out.box 0
        have k1 := cellOf P1.out.box 1
        go_wp2_with fail
        refine (HA.out _).mono ?_
        rintro e w2 ⟨rfl, hb2⟩
        have P2 := Lib.hid (P1.out.next hb2)
        clear hb2 k0 k1
        have k0 := cellOf P2.out.box 0
        have k1 := cellOf P2.out.box 1
        go_wp2_with fail
        go_ret2
        exact pr_yes H0.out rfl P2.out.below
    · have hcat := text_alone (HTD.out.1 rfl)
      go_enter Try.func10, Try.ntmps10
      go_wp2_with fail
      refine (HR.out _).mono ?_
      rintro e w1 ⟨rfl, hb1⟩
      have P1 := Lib.hid (HP.out.next hb1)
      clear hb1
      have k0 := cellOf P1.out.box 0
      have k1 := cellOf P1.out.box 1
      go_wp2_with fail
      go_ret2
      exact pr_yes H0.out rfl P1.out.below
  · have HV := Lib.hid (fun (w' : World) (hb : Below w.heap.size w w') => pr_no (p := p) h0 hb)
    have d1 : (rightE p != 0) = true := bne_iff_ne.2 h0
    generalize rightE p = n at HR HV d1
    clear h0
    go_enter Try.func10, Try.ntmps10
    go_wp2_with fail
    refine (HR.out _).mono ?_
    rintro e w1 ⟨rfl, hb1⟩
    have P1 := Lib.hid (HP.out.next hb1)
    clear hb1
    go_wp2_with fail
    go_ret2
    exact HV.out _ P1.out.below
end Go.Proofs.Ytamjoleknjmpoaa
