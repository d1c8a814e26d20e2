/-
  The walk of WheelSets.
-/
import Derived.Test.YtmmghdnlppjgbaaWhSets
namespace Go.Proofs.Ytmmghdnlppjgbaa
set_option maxRecDepth 100000
open Go.RowKit
set_option maxHeartbeats 8000000 in
theorem wheelSets_x (v : Value) (l : List Int) (q0 r : Int) (W : World) (y0 : RowAt W v (intsV l)) (_ : ∀ n ∈ l, -9223372036854775808 ≤ n ∧ n ≤ 9223372036854775807) (_ : IntKind.i64.min ≤ q0) (_ : q0 ≤ IntKind.i64.max) (_ : IntKind.i64.min ≤ r) (_ : r ≤ IntKind.i64.max) :
    Calls Try.prog 6 #[v, .int .i64 q0, .int .i64 r] W fun e w' => e = .returned (.bool true) ∧ Below W.heap.size W w' := by
  obtain ⟨A, c, hv, hcap, hc⟩ := y0.ints
  have HR := Lib.hid hc
  subst hv
  clear hc y0
  obtain ⟨N, hN⟩ : ∃ N, l.length = N := ⟨_, rfl⟩
  rw [hN]
  have HNl := Lib.hid hN
  clear hcap hN
  have HAw := Lib.hid (awake_x W)
  by_cases h0 : N = 0
  · go_enter Try.func6, Try.ntmps6
    go_wp2_with fail
    refine HAw.out.mono ?_
    rintro e w1 ⟨rfl, hb⟩
    have d0 : ((N : Int) == 0) = true := by rw [h0]; rfl
    clear h0
    go_wp2_with fail
    go_ret
    exact ⟨rfl, hb⟩
  have d0 : ((N : Int) == 0) = false := beq_eq_false_iff_ne.2 (by omega)
  have d00 : ¬ N = 0 := h0
  by_cases h3 : 60 < N
  · have d3 : decide ((60 : Int) < (N : Int)) = true := decide_eq_true (by omega)
    go_enter Try.func6, Try.ntmps6
    go_wp2_with fail
    refine HAw.out.mono ?_
    rintro e w1 ⟨rfl, hb⟩
    go_wp2_with fail
    go_ret
    exact ⟨rfl, hb⟩
  have d3 : decide ((60 : Int) < (N : Int)) = false := decide_eq_false (by omega)
  by_cases h1 : q0 < 0
  · have d1 : decide (q0 < 0) = true := decide_eq_true h1
    go_enter Try.func6, Try.ntmps6
    go_wp2_with fail
    refine HAw.out.mono ?_
    rintro e w1 ⟨rfl, hb⟩
    go_wp2_with fail
    go_ret
    exact ⟨rfl, hb⟩
  have d1 : decide (q0 < 0) = false := decide_eq_false h1
  by_cases h2 : r < 1
  · have d2 : decide (r < 1) = true := decide_eq_true h2
    go_enter Try.func6, Try.ntmps6
    go_wp2_with fail
    refine HAw.out.mono ?_
    rintro e w1 ⟨rfl, hb⟩
    go_wp2_with fail
    go_ret
    exact ⟨rfl, hb⟩
  have d2 : decide (r < 1) = false := decide_eq_false h2
  by_cases h4 : 1073741824 < r
  · have d4 : decide ((1073741824 : Int) < r) = true := decide_eq_true h4
    go_enter Try.func6, Try.ntmps6
    go_wp2_with fail
    refine HAw.out.mono ?_
    rintro e w1 ⟨rfl, hb⟩
    go_wp2_with fail
    go_ret
    exact ⟨rfl, hb⟩
  have d4 : decide ((1073741824 : Int) < r) = false := decide_eq_false h4
  obtain ⟨kk, hkk, rm⟩ : ∃ kk : Nat, kk < N ∧ Int.tmod q0 (N : Int) = (kk : Int) := by
    obtain ⟨q, rfl⟩ : ∃ q : Nat, q0 = q := ⟨q0.toNat, by omega⟩
    exact ⟨q % N, Nat.mod_lt _ (by omega), Int.ofNat_tmod q N⟩
  obtain ⟨dk, hdk⟩ : ∃ d, l[kk]? = some d := ⟨_, List.getElem?_eq_getElem (by rw [HNl.out]; exact hkk)⟩
  have HN := Lib.hid (show 1 ≤ r ∧ r ≤ 1073741824 by omega)
  have HL := Lib.hid (show 1 ≤ N ∧ N ≤ 60 by omega)
  have HK := Lib.hid (And.intro hkk hdk)
  clear h0 h1 h2 h3 h4 hkk hdk
  go_enter Try.func6, Try.ntmps6
  go_wp2_with fail
  refine HAw.out.mono ?_
  rintro e w1 ⟨rfl, hb⟩
  have HB := Lib.hid hb
  clear hb
  go_wp2_with fail
  refine (new_h (x := 0) HB.out (by decide)).mono ?_
  rintro e w2 ⟨b, O1, rfl, h1, -, -⟩
  have H1 := Lib.hid h1
  clear h1 HB
  go_wp2_with fail
  refine (new_h (x := 0) H1.out.below (by decide)).mono ?_
  rintro e w3 ⟨b2, O2, rfl, h2, hs, hb⟩
  have H2 : Hid (TW W O1 b 0 [] O2 b2 0 [] w3) := Lib.hid ⟨H1.out.keep hb, h2, fun k hk ho => by have := H1.out.pw.lt k hk; have := hs k ho; omega⟩
  clear h2 hs hb H1
  go_wp2_with fail
  go_loopw [12] (fun si wr => ∃ (k : Nat) (M : List En) (O O2 : Nat → Prop), si = .int .i64 k ∧ k ≤ N ∧ Hid (TW W O b 0 M O2 b2 0 M wr ∧ Row 0 l k M ∧ ∀ p ∈ M, p.1 ≤ 1073741824)) (fun si _ => N - (intOf si).toNat)
  case atStart => exact ⟨0, [], O1, O2, rfl, Nat.zero_le _, Lib.hid ⟨H2.out, Row.nil _ _, fun p hp => by simp at hp⟩⟩
  case round =>
    obtain ⟨k, M, O, O2, rfl, hk, HS⟩ := hrel
    have hl := HL.out
    by_cases hlt : k < N
    · obtain ⟨d, hd⟩ : ∃ d, l[k]? = some d := ⟨_, List.getElem?_eq_getElem (by rw [HNl.out]; exact hlt)⟩
      obtain ⟨ad, rfl, hab, c00⟩ := HR.out k d hd
      have c0 : wr.cell? (ad.add k) = some (.int .i64 d) := (HS.out.1.fst.below.cell (by rw [add_block]; exact hab)).trans c00
      have HD := Lib.hid hd
      by_cases g1 : d < 0
      · have e1 : decide (d < 0) = true := decide_eq_true g1
        clear hab c00 hd
        go_wp2_with fail
        go_ret
        exact ⟨rfl, HS.out.1.fst.below⟩
      have e1 : decide (d < 0) = false := decide_eq_false g1
      by_cases g2 : 1073741824 < d
      · have e2 : decide ((1073741824 : Int) < d) = true := decide_eq_true g2
        clear hab c00 hd
        go_wp2_with fail
        go_ret
        exact ⟨rfl, HS.out.1.fst.below⟩
      have e2 : decide ((1073741824 : Int) < d) = false := decide_eq_false g2
      have HC := Lib.hid (And.intro hab c00)
      clear hab c00 hd
      go_wp2_with fail
      refine (set_h (M' := setE M k (max d (0 + 1))) HS.out.1.fst ⟨by omega, by omega⟩ ⟨by omega, by omega⟩ (by rw [HS.out.2.1.len]; omega) rfl).mono ?_
      rintro e w4 ⟨rfl, O3, h3, s3, f3⟩
      have H3 := Lib.hid (HS.out.1.first h3 s3 f3)
      have c0 : w4.cell? (ad.add k) = some (.int .i64 d) := (H3.out.fst.below.cell (by rw [add_block]; exact HC.out.1)).trans HC.out.2
      clear h3 s3 f3
      go_wp2_with fail
      refine (set_h (M' := setE M k (max d (0 + 1))) H3.out.snd ⟨by omega, by omega⟩ ⟨by omega, by omega⟩ (by rw [HS.out.2.1.len]; omega) rfl).mono ?_
      rintro e w5 ⟨rfl, O4, h4, s4, f4⟩
      have H4 := Lib.hid (H3.out.second h4 s4 f4)
      clear h4 s4 f4 c0
      go_wp2_with fail
      go_roundw
      case rel => exact ⟨k + 1, _, O3, O4, by go_num, by omega, Lib.hid ⟨H4.out, HS.out.2.1.next HD.out, fun p hp => by
        rcases setE_mem.1 hp with rfl | ⟨hp, _⟩
        · show max d (0 + 1) ≤ 1073741824; omega
        · exact HS.out.2.2 p hp⟩⟩
      case measure => simp [intOf]; omega
    · have ek : N = k := by omega
      subst ek
      obtain ⟨f, hf⟩ : ∃ f, f = max dk ((0 : Int) + 1) := ⟨_, rfl⟩
      have HM : Hid ((f, (kk : Int)) ∈ M) := Lib.hid (hf ▸ HS.out.2.1.all kk dk HK.out.1 HK.out.2)
      clear hf
      have hrr : max r ((0 : Int) + 1) = r := by have := HN.out; omega
      go_wp2_with fail
      refine (set_h (M' := setE M kk r) HS.out.1.fst ⟨by omega, by have := HK.out.1; omega⟩ ⟨by have := HN.out; omega, by have := HN.out; omega⟩ (by rw [HS.out.2.1.len]; omega) (by rw [hrr])).mono ?_
      rintro e w4 ⟨rfl, O3, h3, s3, f3⟩
      have H3 := Lib.hid (HS.out.1.first h3 s3 f3)
      have hkm : Nm (kk : Int) := by have := HK.out.1; unfold Nm; omega
      clear h3 s3 f3 hrr
      go_wp2_with fail
      refine (cancel_h (M' := delE M kk) (t := true) H3.out.snd hkm rfl (any_mem HM.out)).mono ?_
      rintro e w5 ⟨rfl, O4, h4, s4, f4⟩
      have H4 := Lib.hid (H3.out.second h4 s4 f4)
      clear h4 s4 f4 H3
      go_wp2_with fail
      refine (cancel_h (M' := delE M kk) (t := false) H4.out.snd hkm (del_again _ _) (del_any _ _)).mono ?_
      rintro e w6 ⟨rfl, O5, h5, s5, f5⟩
      have H5 := Lib.hid (H4.out.second h5 s5 f5)
      clear h5 s5 f5 H4
      have HLn : Hid ((delE M kk).length + 1 = N) := Lib.hid (by rw [del_len HS.out.1.fst.pw.ids HM.out, HS.out.2.1.len])
      go_wp2_with fail
      refine (wlen_h (x := (N : Int)) H5.out.fst.pw (by rw [(setE_perm _ _ _).length_eq, List.length_cons, HLn.out])).mono ?_
      rintro e w7 ⟨rfl, rfl⟩
      go_wp2_with fail
      refine (wlen_h (x := (N : Int) - 1) H5.out.snd.pw (by have := HLn.out; omega)).mono ?_
      rintro e w7 ⟨rfl, rfl⟩
      go_wp2_with fail
      have hdue := due_mem H5.out.fst.pw.ids (setE_mem.2 (.inl rfl))
      refine (due_h (x := r) (t := true) H5.out.fst.pw hkm (by rw [hdue]; rfl) (by rw [hdue]; rfl)).mono ?_
      rintro e w7 ⟨rfl, rfl⟩
      clear hdue
      go_wp2_with fail
      refine (due_h (x := 0) (t := false) H5.out.snd.pw hkm (by rw [due_del]; rfl) (by rw [due_del]; rfl)).mono ?_
      rintro e w7 ⟨rfl, rfl⟩
      go_wp2_with fail
      refine (adv_h H5.out.fst (by rw [(setE_perm _ _ _).length_eq, List.length_cons, HLn.out]; omega) (by decide) (by decide) (by decide) (by decide)).mono ?_
      rintro e w8 ⟨A1, c1, m1, k1, O6, rfl, ha, h6, r6, s6, n6, f6⟩
      obtain ⟨rfl, rfl⟩ := adv_all ha (by rw [(setE_perm _ _ _).length_eq, List.length_cons, HLn.out]; omega) (fun p hp => by
        rcases setE_mem.1 hp with rfl | ⟨hp, _⟩
        · show r ≤ _; have := HN.out; omega
        · have := HS.out.2.2 p hp; omega)
      have hx : (((setE M kk r).take (setE M kk r).length).map Prod.snd).length = N := by rw [List.take_length, List.length_map, (setE_perm _ _ _).length_eq, List.length_cons, HLn.out]
      rw [hx] at r6 ⊢
      rw [List.take_length] at r6
      have H6 := Lib.hid (H5.out.first h6 s6 f6)
      have hn5 : ∀ g, (Value.slice A1 N c1).ownBlock = some g → ¬ O5 g := fun g hg ho => by
        have := row_base r6 g hg
        have := H5.out.snd.pw.lt g ho
        omega
      have HX6 := Lib.hid (And.intro r6 hn5)
      have hN60 := HL.out
      clear ha h6 r6 s6 n6 f6 hx hn5
      go_wp2_with fail
      refine (adv_h H6.out.snd (by have := HLn.out; omega) (by decide) (by decide) (by decide) (by decide)).mono ?_
      rintro e w9 ⟨A2, c2, m2, k2, O7, rfl, ha, h7, r7, s7, n7, f7⟩
      obtain ⟨rfl, rfl⟩ := adv_all ha (by have := HLn.out; omega) (fun p hp => by have := HS.out.2.2 p (delE_mem.1 hp).1; omega)
      obtain ⟨L2, hL2⟩ : ∃ L2, (((delE M kk).take (delE M kk).length).map Prod.snd).length = L2 := ⟨_, rfl⟩
      rw [hL2] at r7 ⊢
      have hY : ((delE M kk).take (delE M kk).length).map Prod.snd = ((setE M kk r).map Prod.snd).filter (· != (kk : Int)) := by
        rw [List.take_length, List.filter_map, ← set_del HS.out.1.fst.pw.srt kk r]
        rfl
      rw [hY] at r7 hL2
      have hL3 : L2 + 1 = N := by
        rw [← hL2, ← hY, List.take_length, List.length_map]
        exact HLn.out
      have hXl : ((setE M kk r).map Prod.snd).length = N := by rw [List.length_map, (setE_perm _ _ _).length_eq, List.length_cons, HLn.out]
      have r6 := row_fr HX6.out.1 f7 HX6.out.2
      generalize (setE M kk r).map Prod.snd = X at r6 r7 hL2 hXl
      have HXX := Lib.hid (And.intro hXl hL2)
      have H9 := Lib.hid (And.intro (H6.out.second h7 s7 f7).fst.below (And.intro (own_mono r6 (Nat.zero_le _)) (own_mono r7 (Nat.zero_le _))))
      have hb2 : ((L2 : Int) != (N : Int) - 1) = false := by
        rw [bne_eq_false_iff_eq]; omega
      clear ha h7 r7 s7 n7 f7 r6 hY hXl hL2 H6 HX6 HLn H5
      go_wp2_with fail
      go_loopw [23, 24] (fun sj si wx => ∃ i j : Nat, sj = .int .i64 j ∧ si = .int .i64 i ∧ i ≤ N ∧ j ≤ i ∧ Hid (((X.take i).filter (· != (kk : Int))).length = j) ∧ Hid (Below W.heap.size W wx ∧ wx.ownsRow 0 3 1 (.slice A1 N c1) N (intsR X) ∧ wx.ownsRow 0 3 1 (.slice A2 L2 c2) L2 (intsR (X.filter (· != (kk : Int)))))) (fun _ si _ => N - (intOf si).toNat)
      case atStart => exact ⟨0, 0, rfl, rfl, Nat.zero_le _, Nat.le_refl _, Lib.hid (by simp), H9⟩
      case round =>
        obtain ⟨i, j, rfl, rfl, hi, hji, HJ, HX⟩ := hrel
        by_cases hiN : i < N
        · obtain ⟨x, hx⟩ : ∃ x, X[i]? = some x := ⟨_, List.getElem?_eq_getElem (by rw [HXX.out.1]; exact hiN)⟩
          obtain ⟨g, rfl⟩ := row_head HX.out.2.1 (by omega)
          have x0 := row_get HX.out.2.1 hx
          cases hxk : (x == (kk : Int)) with
          | true =>
            have HJ2 : Hid (((X.take (i + 1)).filter (· != (kk : Int))).length = j) := Lib.hid (by rw [filter_take hx, HJ.out, if_neg (by simp [bne, hxk])]; rfl)
            clear hx
            go_wp2_with fail
            go_roundw
            case rel => exact ⟨i + 1, j, rfl, by go_num, by omega, by omega, HJ2, HX⟩
            case measure => simp [intOf]; omega
          | false =>
            have hxb : (x != (kk : Int)) = true := by simp [bne, hxk]
            have HJ2 : Hid (((X.take (i + 1)).filter (· != (kk : Int))).length = j + 1) := Lib.hid (by rw [filter_take hx, HJ.out, if_pos hxb])
            have hy := filter_at (p := (· != (kk : Int))) hx hxb
            rw [HJ.out] at hy
            have hjl : j < L2 := by have := (List.getElem?_eq_some_iff.1 hy).1; rw [HXX.out.2] at this; exact this
            obtain ⟨g2, rfl⟩ := row_head HX.out.2.2 (by omega)
            have y0 := row_get HX.out.2.2 hy
            have z0 : decide (L2 ≤ j) = false := decide_eq_false (by omega)
            clear hx hxb hy
            go_wp2_with fail
            go_quiet (fail)
            go_wp2_with fail
            go_roundw
            case rel => exact ⟨i + 1, j + 1, by go_num, by go_num, by omega, by omega, HJ2, Lib.hid ⟨below_drewN HX.out.1 _, row_drewN HX.out.2.1 _, row_drewN HX.out.2.2 _⟩⟩
            case measure => simp [intOf]; omega
        · have ei : N = i := by omega
          subst ei
          have hj := HJ.out
          rw [← HXX.out.1, List.take_length, HXX.out.2] at hj
          subst hj
          go_wp2_with fail
          go_ret
          exact ⟨rfl, HX.out.1⟩
end Go.Proofs.Ytmmghdnlppjgbaa
