/-
  The walk of WheelRebuilt.
-/
import Derived.Test.YtmmghdnlppjgbaaWhBoolMap
namespace Go.Proofs.Ytmmghdnlppjgbaa
set_option maxRecDepth 100000
open Go.RowKit
/-- A world with some draws. -/
def Dr (w w' : World) : Prop := ∃ q, w' = w.drewN q
theorem dr0 (w : World) : Dr w w := ⟨0, rfl⟩
theorem dr1 (w : World) : Dr w w.drew := ⟨1, rfl⟩
theorem dr2 (w : World) (q : Nat) : Dr w (w.drewN q) := ⟨q, rfl⟩
theorem dr3 (w : World) (q : Nat) : Dr w (w.drewN q).drew := ⟨q + 1, (World.drewN_drewN w q 1).symm ▸ rfl⟩
theorem dr4 (w : World) (q p : Nat) : Dr w ((w.drewN q).drewN p) := ⟨q + p, World.drewN_drewN w q p⟩
set_option maxHeartbeats 16000000 in
theorem wheelRebuilt_x (s : Int) (v0 : Value) (l : List Ac) (v1 : Value) (ls : List Int) (W : World) (_ : IntKind.i64.min ≤ s) (_ : s ≤ IntKind.i64.max) (y0 : ActsAt W v0 l) (y1 : RowAt W v1 (intsV ls)) (z1 : ∀ n ∈ ls, -9223372036854775808 ≤ n ∧ n ≤ 9223372036854775807) :
    Calls Try.prog 5 #[.int .i64 s, v0, v1] W fun e w' => e = .returned (.bool true) ∧ Below W.heap.size W w' := by
  obtain ⟨A, c, hv, -, hc⟩ := y0
  obtain ⟨A1, c1, hv1, -, hc1⟩ := y1.ints
  have HR := Lib.hid hc
  have HR1 := Lib.hid (And.intro hc1 z1)
  subst hv hv1
  clear hc hc1 y1 z1
  obtain ⟨N, hN⟩ : ∃ N, l.length = N := ⟨_, rfl⟩
  obtain ⟨N1, hN1⟩ : ∃ N, ls.length = N := ⟨_, rfl⟩
  rw [hN, hN1]
  have HNl := Lib.hid (And.intro hN hN1)
  clear hN hN1
  have HAw := Lib.hid (awake_x W)
  by_cases h1 : 60 < N
  · have d0 : decide ((60 : Int) < (N : Int)) = true := decide_eq_true (by omega)
    go_enter Try.func5, Try.ntmps5
    go_wp2_with fail
    refine HAw.out.mono ?_
    rintro e w1 ⟨rfl, hb⟩
    go_wp2_with fail
    go_ret
    exact ⟨rfl, hb⟩
  have d0 : decide ((60 : Int) < (N : Int)) = false := decide_eq_false (by omega)
  by_cases h2 : 60 < N1
  · have d1 : decide ((60 : Int) < (N1 : Int)) = true := decide_eq_true (by omega)
    go_enter Try.func5, Try.ntmps5
    go_wp2_with fail
    refine HAw.out.mono ?_
    rintro e w1 ⟨rfl, hb⟩
    go_wp2_with fail
    go_ret
    exact ⟨rfl, hb⟩
  have d1 : decide ((60 : Int) < (N1 : Int)) = false := decide_eq_false (by omega)
  by_cases h3 : s < 0
  · have d2 : decide (s < 0) = true := decide_eq_true (by exact h3)
    go_enter Try.func5, Try.ntmps5
    go_wp2_with fail
    refine HAw.out.mono ?_
    rintro e w1 ⟨rfl, hb⟩
    go_wp2_with fail
    go_ret
    exact ⟨rfl, hb⟩
  have d2 : decide (s < 0) = false := decide_eq_false (by exact h3)
  by_cases h4 : 1099511627776 < s
  · have d3 : decide ((1099511627776 : Int) < s) = true := decide_eq_true (by exact h4)
    go_enter Try.func5, Try.ntmps5
    go_wp2_with fail
    refine HAw.out.mono ?_
    rintro e w1 ⟨rfl, hb⟩
    go_wp2_with fail
    go_ret
    exact ⟨rfl, hb⟩
  have d3 : decide ((1099511627776 : Int) < s) = false := decide_eq_false (by exact h4)
  have HN := Lib.hid (show 0 ≤ s ∧ s ≤ 1099511627776 by omega)
  have HL := Lib.hid (show N ≤ 60 ∧ N1 ≤ 60 by omega)
  clear h1 h2 h3 h4
  have HMk := Lib.hid make_bools
  go_enter Try.func5, Try.ntmps5
  go_wp2_with fail
  refine HAw.out.mono ?_
  rintro e w1 ⟨rfl, hb⟩
  have HB := Lib.hid hb
  clear hb
  go_wp2_with fail
  refine (new_h HB.out HN.out).mono ?_
  rintro e w2 ⟨b, O1, rfl, h1, -, -⟩
  have hmk := HMk.out w2
  have H1 : Hid (RM W O1 b s [] w2.heap.size [] (w2.alloc (.map #[] 0))) := Lib.hid ⟨h1.keep ((Below.refl _ w2).alloc (Nat.le_refl _) _), JAt.made w2, h1.below.size, fun e => by have := h1.pw.lt _ e; omega⟩
  clear h1 HB
  go_wp2_with fail
  generalize w2.alloc (.map #[] 0) = w3 at H1
  generalize w2.heap.size = fm at H1
  clear hmk
  go_wp2_with fail
  go_loopw [10] (fun si wr => ∃ (i : Nat) (n : Int) (M : List En) (O : Nat → Prop) (K : List (Int × Value)), si = .int .i64 i ∧ i ≤ N ∧ Hid (RM W O b n M fm K wr ∧ RS M K i)) (fun si _ => N - (intOf si).toNat)
  case atStart => exact ⟨0, s, [], O1, [], rfl, Nat.zero_le _, Lib.hid ⟨H1.out, Nat.le_refl _, Nat.le_refl _, fun p hp => by simp at hp, fun q hq => by simp at hq⟩⟩
  case round =>
    obtain ⟨i, n, M, O, K, rfl, hi, HS⟩ := hrel
    have hl := HL.out.1
    by_cases hlt : i < N
    · obtain ⟨ac, hac⟩ : ∃ ac, l[i]? = some ac := ⟨_, List.getElem?_eq_getElem (by rw [HNl.out.1]; exact hlt)⟩
      obtain ⟨ad, rfl, hab, hat⟩ := HR.out i ac hac
      obtain ⟨-, k0, k1, k2, k3, hNm, hNn⟩ := hat.below HS.out.1.hw.below hat.lt
      clear hat hab hac
      have hNi := Lib.hid hNm
      have hnn := Lib.hid hNn
      clear hNm hNn
      obtain ⟨kd, x, nn, bt⟩ := ac
      have k0 : wr.cell? (ad.add (i * 4)) = some (.int .i64 kd) := k0
      have k1 : wr.cell? ⟨(ad.add (i * 4)).block, (ad.add (i * 4)).off + 1, none⟩ = some (.int .i64 x) := k1
      have k2 : wr.cell? ⟨(ad.add (i * 4)).block, (ad.add (i * 4)).off + 2, none⟩ = some (.int .i64 nn) := k2
      have k3 : wr.cell? ⟨(ad.add (i * 4)).block, (ad.add (i * 4)).off + 3, none⟩ = some (.int .i64 bt) := k3
      have hNi : Hid (Nm x) := hNi
      have hnn : Hid (Nm nn) := hnn
      have hlb := newOf wr (.cells #[.int .i64 kd, .int .i64 x, .int .i64 nn, .int .i64 bt] 32)
      have h2 : RM W O b n M fm K (wr.alloc (.cells #[.int .i64 kd, .int .i64 x, .int .i64 nn, .int .i64 bt] 32)) := HS.out.1.keep ((Below.refl _ wr).alloc (Nat.le_refl _) _)
      have hlo : ¬ O wr.heap.size ∧ fm < wr.heap.size := ⟨fun e => by have := HS.out.1.hw.pw.lt _ e; omega, HS.out.1.map.lt⟩
      have HRS := Lib.hid HS.out.2
      have H2 := Lib.hid (And.intro h2 (And.intro hlo hlb))
      clear h2 hlo hlb
      have hNN := HN.out
      by_cases q0 : kd = 0
      · subst q0
        go_wp2_with fail
        clear k0 k1 k2 k3
        generalize wr.alloc (.cells #[.int .i64 0, .int .i64 x, .int .i64 nn, .int .i64 bt] 32) = w4 at H2
        generalize wr.heap.size = lb at H2
        refine (set_any (i := x) (d := nn) H2.out.1.hw hNi.out (by have := HRS.out.few; omega)).mono ?_
        rintro e w5 ⟨v, O5, M5, rfl, h5, s5, f5, l5, m5⟩
        have h6 := H2.out.1.step h5 s5 f5
        have hb5 : w5.heap[lb]? = _ := (f5.block lb (ltOf H2.out.2.2) H2.out.2.1.1).trans H2.out.2.2
        have y1 : w5.cell? ⟨lb, 1, none⟩ = some (.int .i64 x) := cellOf hb5 1
        obtain ⟨w6, hput, hj6, ht6⟩ := h6.map.bool_put (n := x) (.bool true) hNi.out (by have := HRS.out.kfew; omega)
        have H6 := Lib.hid (And.intro (h6.put hj6 ht6) (HRS.out.put (v := .bool true) hNi.out l5 m5))
        clear h5 s5 f5 l5 m5 h6 hb5 hj6 ht6 H2
        go_wp2_with fail
        go_roundw
        case rel => exact ⟨i + 1, n, M5, O5, _, by go_num, by omega, H6⟩
        case measure => simp [intOf]; omega
      have e0 : (kd == 0) = false := beq_eq_false_iff_ne.2 q0
      by_cases q1 : kd = 1
      · subst q1
        go_wp2_with fail
        clear k0 k1 k2 k3
        generalize wr.alloc (.cells #[.int .i64 1, .int .i64 x, .int .i64 nn, .int .i64 bt] 32) = w4 at H2
        generalize wr.heap.size = lb at H2
        refine (cancel_any (i := x) H2.out.1.hw hNi.out).mono ?_
        rintro e w5 ⟨v, O5, M5, rfl, h5, s5, f5, l5, m5⟩
        have H6 := Lib.hid (And.intro (H2.out.1.step h5 s5 f5) (HRS.out.less l5 m5))
        clear h5 s5 f5 l5 m5 H2
        go_wp2_with fail
        go_roundw
        case rel => exact ⟨i + 1, n, M5, O5, K, by go_num, by omega, H6⟩
        case measure => simp [intOf]; omega
      have e1 : (kd == 1) = false := beq_eq_false_iff_ne.2 q1
      by_cases q2 : kd = 2
      · subst q2
        go_wp2_with fail
        clear k0 k1 k2 k3
        generalize wr.alloc (.cells #[.int .i64 2, .int .i64 x, .int .i64 nn, .int .i64 bt] 32) = w4 at H2
        generalize wr.heap.size = lb at H2
        have HNow : Hid (∀ wz, Dr w4 wz → Calls Try.prog 18 #[.pointer (some ⟨b, 0, none⟩)] wz fun e w' => e = .returned (.int .i64 n) ∧ ∃ m, w' = w4.drewN m) := Lib.hid fun wz ⟨q, hq⟩ => by
          subst hq
          exact (wnow_x (H2.out.1.hw.drewN q).pw).mono fun e w' ⟨h1, h2⟩ => ⟨h1, q, h2⟩
        have HTg : Hid (∀ wz, Dr w4 wz → Calls Try.prog 14 #[.int .i64 n, .int .i64 nn] wz fun e w' => e = .returned (.int .i64 (tgt n nn)) ∧ ∃ m, w' = w4.drewN m) := Lib.hid fun wz ⟨q, hq⟩ => by
          subst hq
          exact (target_x n nn (w4.drewN q) H2.out.1.hw.pw.now hnn.out).mono fun e w' ⟨h1, h2⟩ => ⟨h1, q, h2⟩
        have HAd : Hid (∀ wz, Dr w4 wz → Calls Try.prog 15 #[.pointer (some ⟨b, 0, none⟩), .int .i64 (tgt n nn), .int .i64 bt] wz fun e w' => ∃ v, e = .returned v ∧ (w'.cell? ⟨lb, 2, none⟩ = some (.int .i64 nn) ∧ w'.cell? ⟨lb, 3, none⟩ = some (.int .i64 bt)) ∧ ∃ O' n' M', RM W O' b n' M' fm K w' ∧ RS M' K (i + 1)) := Lib.hid fun wz ⟨q, hq⟩ => by
          subst hq
          refine (adv_any (H2.out.1.hw.drewN q) (by have := HRS.out.few; omega)).mono ?_
          rintro e w5 ⟨v, O5, n5, M5, rfl, h5, s5, f5, l5, m5⟩
          have hb5 : w5.heap[lb]? = _ := (f5.block lb (ltOf H2.out.2.2) H2.out.2.1.1).trans H2.out.2.2
          exact ⟨v, rfl, ⟨cellOf hb5 2, cellOf hb5 3⟩, O5, n5, M5, RM.step (w := w4.drewN q) ⟨H2.out.1.hw.drewN q, H2.out.1.map.block rfl, H2.out.1.new, H2.out.1.fo⟩ h5 s5 f5, HRS.out.less l5 m5⟩
        have HCe : Hid (∀ q, (w4.drewN q).cell? ⟨lb, 2, none⟩ = some (.int .i64 nn) ∧ (w4.drewN q).cell? ⟨lb, 3, none⟩ = some (.int .i64 bt)) := Lib.hid fun q => ⟨cellOf H2.out.2.2 2, cellOf H2.out.2.2 3⟩
        clear H2
        go_region_held3 (fun w' => w'.cell? ⟨lb, 2, none⟩ = some (.int .i64 nn) ∧ w'.cell? ⟨lb, 3, none⟩ = some (.int .i64 bt))
          (first | (with_reducible assumption) | (with_reducible exact HCe.out _) | exact HCe.out 1 | exact HCe.out _)
          (first
            | (go_at_call 18; (with_reducible refine (HNow.out _ (by first | exact dr0 _ | exact dr1 _ | exact dr2 _ _ | exact dr3 _ _ | exact dr4 _ _ _)).mono ?_); rintro e w3 ⟨rfl, q, rfl⟩)
            | (go_at_call 14; (with_reducible refine (HTg.out _ (by first | exact dr0 _ | exact dr1 _ | exact dr2 _ _ | exact dr3 _ _ | exact dr4 _ _ _)).mono ?_); rintro e w3 ⟨rfl, q, rfl⟩)
            | (go_at_call 15; (with_reducible refine (HAd.out _ (by first | exact dr0 _ | exact dr1 _ | exact dr2 _ _ | exact dr3 _ _ | exact dr4 _ _ _)).mono ?_); rintro e w3 ⟨v, rfl, g1, g2⟩))
        all_goals
          obtain ⟨O5, n5, M5, h6, r6⟩ := g2
          have H6 := Lib.hid (And.intro h6 r6)
          clear g1 h6 r6 HNow HTg HAd HCe
          go_wp2_with fail
          go_roundw
          case rel => exact ⟨i + 1, n5, M5, O5, K, by go_num, by omega, H6⟩
          case measure => simp [intOf]; omega
      have e2 : (kd == 2) = false := beq_eq_false_iff_ne.2 q2
      go_wp2_with fail
      clear k0 k1 k2 k3
      generalize wr.alloc (.cells #[.int .i64 kd, .int .i64 x, .int .i64 nn, .int .i64 bt] 32) = w4 at H2
      have H6 := Lib.hid (And.intro H2.out.1 (HRS.out.less (Nat.le_refl _) fun p hp => hp))
      go_roundw
      case rel => exact ⟨i + 1, n, M, O, K, by go_num, by omega, H6⟩
      case measure => simp [intOf]; omega
    · have ei : N = i := by omega
      subst ei
      go_wp2_with fail
      refine (wnow_x HS.out.1.hw.pw).mono ?_
      rintro e w4 ⟨rfl, rfl⟩
      go_wp2_with fail
      refine (new_h HS.out.1.hw.below HS.out.1.hw.pw.now).mono ?_
      rintro e w5 ⟨b2, O2, rfl, h2, hs, hb⟩
      have HT : Hid (TW W O b n M O2 b2 n [] w5 ∧ JAt w5 fm K ∧ ¬ O fm ∧ ¬ O2 fm ∧ W.heap.size ≤ fm) := Lib.hid ⟨⟨HS.out.1.hw.keep hb, h2, fun k hk ho => by have := HS.out.1.hw.pw.lt k hk; have := hs k ho; omega⟩, HS.out.1.map.block (hb.block fm HS.out.1.map.lt), HS.out.1.fo, fun e => by have := hs fm e; have := HS.out.1.map.lt; omega, HS.out.1.new⟩
      clear h2 hs hb
      go_wp2_with (at_range; refine wpList_range_bool rfl w5 rfl (.tmp 99) rfl fm K rfl HT.out.2.1 ?_; intro w6 hit hg hsz; have HG := Lib.hid hg; generalize hrr : w5.heap.size = r at hit hsz ⊢; have HRR := Lib.hid hrr; clear hrr; have HIT := Lib.hid hit; have HSZ := Lib.hid hsz; clear hit hg hsz)
      go_frame
      go_loopw [] (fun wx => ∃ (lf : Int → Bool) (cnt : Nat) (M2 : List En) (O2 : Nat → Prop), Hid (RG W O b n M O2 b2 M2 fm r K lf cnt wx)) (fun wx => wx.rangeLeft fm r)
      case atStart =>
        have hb : Below w5.heap.size w5 w6 := (Below.refl _ _).grown HG.out (Nat.le_refl _) fun j hj => by cases hj
        refine ⟨_, _, [], O2, Lib.hid ⟨HIT.out, HT.out.1.keep hb, ?_, ⟨HT.out.2.2.1, HT.out.2.2.2.1⟩, ⟨fun e => ?_, fun e => ?_⟩, fun p => ⟨fun hp => by simp at hp, fun hp => ?_⟩, by simp⟩⟩
        · have := HRR.out; have := HT.out.1.fst.below.size; omega
        · have := HRR.out; have := HT.out.1.fst.pw.lt _ e; omega
        · have := HRR.out; have := HT.out.1.snd.pw.lt _ e; omega
        · obtain ⟨h1, h2⟩ := hp
          obtain ⟨q, hq, e⟩ := HS.out.2.ids p h1
          rw [List.any_eq_false] at h2
          exact absurd (h2 q hq) (by simp [e])
      case round =>
        obtain ⟨lf, cnt, M2, O2, HI⟩ := hrel
        go_wp2_with (at_next; refine wpList_next_ent rfl _ rfl (.tmp 100) rfl fm r cnt _ lf rfl HI.out.jt ?_ ?_)
        · intro hl0
          have hover := HI.out.over hl0
          subst hover
          have H3 := Lib.hid HI.out.tw
          have hfew := Lib.hid HS.out.2.few
          clear hl0
          go_wp2_with fail
          go_loopw [17] (fun si wx => ∃ (i : Nat) (n : Int) (M : List En) (O O2 : Nat → Prop), si = .int .i64 i ∧ i ≤ N1 ∧ Hid (TW W O b n M O2 b2 n M wx ∧ M.length ≤ 60)) (fun si _ => N1 - (intOf si).toNat)
          case atStart => exact ⟨0, n, M2, O, O2, rfl, Nat.zero_le _, Lib.hid ⟨H3.out, by have := hfew.out; omega⟩⟩
          case round =>
            obtain ⟨i, n, M, O, O2, rfl, hi1, HX⟩ := hrel
            have hN1 := HL.out.2
            by_cases hiN : i < N1
            · obtain ⟨d, hd⟩ : ∃ d, ls[i]? = some d := ⟨_, List.getElem?_eq_getElem (by rw [HNl.out.2]; exact hiN)⟩
              obtain ⟨ad1, rfl, hab1, c00⟩ := HR1.out.1 i d hd
              have hdn : Nm d := HR1.out.2 d (List.mem_of_getElem? hd)
              have c0 : wr.cell? (ad1.add i) = some (.int .i64 d) := (HX.out.1.fst.below.cell (by rw [add_block]; exact hab1)).trans c00
              have HNw := Lib.hid (fun q => wnow_x (HX.out.1.fst.drewN q).pw)
              have HTg := Lib.hid (fun q => target_x n d (wr.drewN q) HX.out.1.fst.pw.now hdn)
              clear hab1 c00 hd hdn
              go_wp2_with fail
              go_quiet ((first | (go_at_call 18; exact Calls.quiet_of_same (HNw.out _)) | (go_at_call 14; exact Calls.quiet_of_same (HTg.out _))))
              have HT2 := Lib.hid (HX.out.1.drewN nq)
              generalize wr.drewN nq = w8 at HT2
              clear HNw HTg c0
              go_wp2_with fail
              have hfw := HX.out.2
              by_cases hc : tgt n d < n ∨ 1099511627776 < tgt n d ∨ (3 : Int) < 1 ∨ 1048576 < (3 : Int)
              · refine (adv_no HT2.out.fst.pw hc).mono ?_
                rintro e w9 ⟨rfl, rfl⟩
                go_wp2_with fail
                refine (adv_no HT2.out.snd.pw hc).mono ?_
                rintro e w9 ⟨rfl, rfl⟩
                go_wp2_with fail
                refine (same_x (w := w9) (A := none) (A2 := none) (c := 0) (c2 := 0) (l := []) (B := 0) (B2 := 0) ⟨rfl, .inl ⟨rfl, rfl⟩⟩ ⟨rfl, .inl ⟨rfl, rfl⟩⟩ (by decide)).mono ?_
                rintro e w10 ⟨rfl, hm10⟩
                have H10 : Hid (TW W O b n M O2 b2 n M w10) := Lib.hid (by obtain ⟨m10, rfl⟩ := hm10; exact HT2.out.drewN m10)
                clear hm10 HT2 hc
                obtain ⟨D, hD⟩ : ∃ D : Int, (M.length : Int) = D := ⟨_, rfl⟩
                go_wp2_with fail
                refine (wlen_h (x := D) H10.out.fst.pw hD).mono ?_
                rintro e w11 ⟨rfl, rfl⟩
                go_wp2_with fail
                refine (wlen_h (x := D) H10.out.snd.pw hD).mono ?_
                rintro e w11 ⟨rfl, rfl⟩
                have hbD : (D != D) = false := bne_self_eq_false D
                clear hD
                go_wp2_with fail
                go_roundw
                case rel => exact ⟨i + 1, n, M, O, O2, by go_num, by omega, Lib.hid ⟨H10.out, hfw⟩⟩
                case measure => simp [intOf]; omega
              · refine (adv_h HT2.out.fst (by omega) (by omega) (by omega) (by decide) (by decide)).mono ?_
                rintro e w9 ⟨A3, c3, m, k, O3, rfl, ha, h9, r9, s9, n9, f9⟩
                have H9 := Lib.hid (HT2.out.first h9 s9 f9)
                have HR9 := Lib.hid (And.intro r9 (show ∀ g, (Value.slice A3 ((M.take k).map Prod.snd).length c3).ownBlock = some g → ¬ O2 g from fun g hg ho => by
                  have := row_base r9 g hg
                  have := HT2.out.snd.pw.lt g ho
                  omega))
                have HA := Lib.hid ha
                obtain ⟨E, hE⟩ : ∃ E, ((M.take k).map Prod.snd).length = E := ⟨_, rfl⟩
                have HE := Lib.hid hE
                rw [hE]
                clear ha h9 r9 s9 n9 f9 hE
                go_wp2_with fail
                refine (adv_h H9.out.snd (by omega) (by omega) (by omega) (by decide) (by decide)).mono ?_
                rintro e w10 ⟨A4, c4, m', k', O4, rfl, ha, h10, r10, s10, n10, f10⟩
                obtain ⟨rfl, rfl⟩ := adv_same ha HA.out
                have hsame := same_x (row_fr HR9.out.1 f10 HR9.out.2) r10 (by rw [List.length_map, List.length_take]; omega)
                rw [HE.out] at hsame ⊢
                have HSm := Lib.hid hsame
                have H10 := Lib.hid (H9.out.second h10 s10 f10)
                clear ha h10 r10 s10 n10 f10 hsame HE HR9 HA H9
                go_wp2_with fail
                refine HSm.out.mono ?_
                rintro e w11 ⟨rfl, hm11⟩
                have H11 : Hid (TW W O3 b m' (M.drop k') O4 b2 m' (M.drop k') w11) := Lib.hid (by obtain ⟨m11, rfl⟩ := hm11; exact H10.out.drewN m11)
                clear hm11 H10 HSm
                have hbm : (m' != m') = false := bne_self_eq_false m'
                obtain ⟨D, hD⟩ : ∃ D : Int, ((M.drop k').length : Int) = D := ⟨_, rfl⟩
                have HD := Lib.hid hD
                clear hD
                go_wp2_with fail
                refine (wlen_h (x := D) H11.out.fst.pw HD.out).mono ?_
                rintro e w12 ⟨rfl, rfl⟩
                go_wp2_with fail
                refine (wlen_h (x := D) H11.out.snd.pw HD.out).mono ?_
                rintro e w12 ⟨rfl, rfl⟩
                have hbD : (D != D) = false := bne_self_eq_false D
                go_wp2_with fail
                go_roundw
                case rel => exact ⟨i + 1, m', _, O3, O4, by go_num, by omega, Lib.hid ⟨H11.out, by rw [List.length_drop]; omega⟩⟩
                case measure => simp [intOf]; omega
            · have ei : N1 = i := by omega
              subst ei
              go_wp2_with fail
              go_ret
              exact ⟨rfl, HX.out.1.fst.below⟩
        · intro z ad w7 cnt' hm hl hit hlt hgr hsz hen
          have hz : Nm z := HS.out.2.kn _ hm
          have a1 := HI.out.jt.left_eq
          cases hdue : dueE M z with
          | none =>
            have HG2 := Lib.hid (HI.out.skip hit hlt hgr (due_out hdue))
            have a2 := HG2.out.jt.left_eq
            clear hm hl hit hgr hsz
            go_wp2_with fail
            refine (due_h (x := 0) (t := false) HG2.out.tw.fst.pw hz (by rw [hdue]; rfl) (by rw [hdue]; rfl)).mono ?_
            rintro e w8 ⟨rfl, rfl⟩
            clear hen
            go_wp2_with fail
            go_roundw
            case rel => exact ⟨_, _, M2, O2, HG2⟩
            case measure => omega
          | some f =>
            have hfz := due_in hdue
            have hff := HI.out.tw.fst.pw.f1 _ hfz
            have hgt := HI.out.tw.fst.pw.gt _ hfz
            have hnn := HI.out.tw.fst.pw.now
            have H7 := Lib.hid (HI.out.next hgr)
            have HAdd := Lib.hid (fun O3 w3 h3 hs hf => HI.out.add (O3 := O3) (w3 := w3) hit hlt hgr hfz h3 hs hf)
            simp only at hff hgt
            clear hm hl hit hgr hsz hfz
            go_wp2_with fail
            refine (due_h (x := f) (t := true) H7.out.fst.pw hz (by rw [hdue]; rfl) (by rw [hdue]; rfl)).mono ?_
            rintro e w8 ⟨rfl, rfl⟩
            have hfl : f ≤ 2199023255552 := hff.1
            clear hen
            go_wp2_with fail
            refine (set_h (M' := setE M2 z f) H7.out.snd ⟨hff.2.1, hff.2.2⟩ ⟨by omega, by omega⟩ (by have := HI.out.few; have := HS.out.2.kfew; omega) (by rw [show max f (n + 1) = f by omega])).mono ?_
            rintro e w9 ⟨rfl, O3, h3, s3, f3⟩
            have H9 := Lib.hid (HAdd.out O3 w9 h3 s3 f3)
            have a2 := H9.out.jt.left_eq
            clear h3 s3 f3 HAdd
            go_wp2_with fail
            go_roundw
            case rel => exact ⟨_, _, _, O3, H9⟩
            case measure => omega
end Go.Proofs.Ytmmghdnlppjgbaa
