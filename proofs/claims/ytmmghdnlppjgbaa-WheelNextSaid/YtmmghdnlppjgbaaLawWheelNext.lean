/-
  The walk of WheelNext.
-/
import Derived.Test.YtmmghdnlppjgbaaWhSets
namespace Go.Proofs.Ytmmghdnlppjgbaa
set_option maxRecDepth 100000
open Go.RowKit
/-- What is left of a row of ticks. -/
structure Lft (n0 : Int) (l : List Int) (M : List En) : Prop where
  few : M.length ≤ 60
  at_ : ∀ p ∈ M, ∃ (j : Nat) (d : Int), l[j]? = some d ∧ p = (max d (n0 + 1), (j : Int))
theorem Row.lft {n0 : Int} {l : List Int} {M : List En} (h : Row n0 l l.length M) (hl : l.length ≤ 60) : Lft n0 l M := ⟨by rw [h.len]; exact hl, fun p hp => by obtain ⟨j, d, _, a, e⟩ := h.at_ p hp; exact ⟨j, d, a, e⟩⟩
theorem Lft.drop {n0 : Int} {l : List Int} {M : List En} (h : Lft n0 l M) (k : Nat) : Lft n0 l (M.drop k) := ⟨by rw [List.length_drop]; have := h.few; omega, fun p hp => h.at_ p (List.mem_of_mem_drop hp)⟩
/-- An advance to just ahead of the first one. -/
theorem adv_ahead {p : En} {R : List En} {n m : Int} {k : Nat} (h : AdvP (p :: R) n (p.1 - 1) 1048576 k m) : k = 0 ∧ m = p.1 - 1 := by
  have hk : k = 0 := by
    cases k with
    | zero => rfl
    | succ k => have := h.past p (by simp); have := h.hi; omega
  subst hk
  rcases h.over with e | e
  · exact ⟨rfl, e.1⟩
  · omega
/-- .. and one to it. -/
theorem adv_to {p : En} {R : List En} {n m : Int} {k : Nat} (h : AdvP (p :: R) n p.1 1048576 k m) (hs : Srt (p :: R)) (hf : (p :: R).length ≤ 60) : p.1 = m ∧ 0 < k ∧ k ≤ (p :: R).length ∧ ∀ q ∈ (p :: R).take k, q.1 = p.1 := by
  have hm : m = p.1 := by
    rcases h.over with e | e
    · exact e.1
    · have := h.le; omega
  have hk : 0 < k := by
    cases k with
    | zero => have := h.next p (by simp); omega
    | succ k => omega
  refine ⟨hm.symm, hk, h.le, fun q hq => ?_⟩
  have h1 := h.past q hq
  rcases List.mem_cons.1 (List.mem_of_mem_take hq) with rfl | hq
  · rfl
  · have := (List.pairwise_cons.1 hs).1 q hq
    unfold lt2 at this
    omega
set_option maxHeartbeats 4000000 in
theorem wheelNext_x (s : Int) (v : Value) (l : List Int) (W : World) (_ : IntKind.i64.min ≤ s) (_ : s ≤ IntKind.i64.max) (y1 : RowAt W v (intsV l)) (_ : ∀ n ∈ l, -9223372036854775808 ≤ n ∧ n ≤ 9223372036854775807) :
    Calls Try.prog 7 #[.int .i64 s, v] W fun e w' => e = .returned (.bool true) ∧ Below W.heap.size W w' := by
  obtain ⟨A, c, hv, hcap, hc⟩ := y1.ints
  have HR := Lib.hid hc
  subst hv
  clear hc y1
  have HAw := Lib.hid (awake_x W)
  by_cases h3 : 60 < l.length
  · have d3 : decide ((60 : Int) < (l.length : Int)) = true := decide_eq_true (by omega)
    go_enter Try.func7, Try.ntmps7
    go_wp2_with fail
    refine HAw.out.mono ?_
    rintro e w1 ⟨rfl, hb⟩
    go_wp2_with fail
    go_ret
    exact ⟨rfl, hb⟩
  have d3 : decide ((60 : Int) < (l.length : Int)) = false := decide_eq_false (by omega)
  by_cases h1 : s < 0
  · have d1 : decide (s < 0) = true := decide_eq_true h1
    go_enter Try.func7, Try.ntmps7
    go_wp2_with fail
    refine HAw.out.mono ?_
    rintro e w1 ⟨rfl, hb⟩
    go_wp2_with fail
    go_ret
    exact ⟨rfl, hb⟩
  have d1 : decide (s < 0) = false := decide_eq_false h1
  by_cases h2 : 549755813888 < s
  · have d2 : decide ((549755813888 : Int) < s) = true := decide_eq_true h2
    go_enter Try.func7, Try.ntmps7
    go_wp2_with fail
    refine HAw.out.mono ?_
    rintro e w1 ⟨rfl, hb⟩
    go_wp2_with fail
    go_ret
    exact ⟨rfl, hb⟩
  have d2 : decide ((549755813888 : Int) < s) = false := decide_eq_false h2
  have HN := Lib.hid (show 0 ≤ s ∧ s ≤ 549755813888 by omega)
  have HL := Lib.hid (show l.length ≤ 60 by omega)
  clear h1 h2 h3
  go_enter Try.func7, Try.ntmps7
  go_wp2_with fail
  refine HAw.out.mono ?_
  rintro e w1 ⟨rfl, hb⟩
  have HB := Lib.hid hb
  clear hb
  go_wp2_with fail
  refine (new_h HB.out ⟨HN.out.1, by have := HN.out.2; omega⟩).mono ?_
  rintro e w2 ⟨b, O1, rfl, h1, -, -⟩
  have H1 := Lib.hid h1
  clear h1 HB
  go_wp2_with fail
  go_loopw [7, 8] (fun sl si wr => ∃ (k : Nat) (M : List En) (O : Nat → Prop), sl = .int .i64 k ∧ si = .int .i64 k ∧ k ≤ l.length ∧ Hid (HW W O b s M wr ∧ Row s l k M)) (fun _ si _ => l.length - (intOf si).toNat)
  case atStart => exact ⟨0, [], O1, rfl, rfl, Nat.zero_le _, Lib.hid ⟨H1.out, Row.nil _ _⟩⟩
  case round =>
    obtain ⟨k, M, O, rfl, rfl, hk, HS⟩ := hrel
    have hl := HL.out
    by_cases hlt : k < l.length
    · obtain ⟨d, hd⟩ : ∃ d, l[k]? = some d := ⟨_, List.getElem?_eq_getElem hlt⟩
      obtain ⟨ad, rfl, hab, c00⟩ := HR.out k d hd
      have c0 : wr.cell? (ad.add k) = some (.int .i64 d) := (HS.out.1.below.cell (by rw [add_block]; exact hab)).trans c00
      have HD := Lib.hid hd
      clear hab c00 hd
      by_cases g1 : d < 0
      · have e1 : decide (d < 0) = true := decide_eq_true g1
        go_wp2_with fail
        go_ret
        exact ⟨rfl, HS.out.1.below⟩
      have e1 : decide (d < 0) = false := decide_eq_false g1
      by_cases g2 : 1099511627776 < d
      · have e2 : decide ((1099511627776 : Int) < d) = true := decide_eq_true g2
        go_wp2_with fail
        go_ret
        exact ⟨rfl, HS.out.1.below⟩
      have e2 : decide ((1099511627776 : Int) < d) = false := decide_eq_false g2
      go_wp2_with fail
      refine (set_h (M' := setE M k (max d (s + 1))) HS.out.1 ⟨by omega, by omega⟩ ⟨by omega, by omega⟩ (by rw [HS.out.2.len]; omega) rfl).mono ?_
      rintro e w3 ⟨rfl, O2, h2, -, -⟩
      have H2 := Lib.hid (And.intro h2 (HS.out.2.next HD.out))
      clear h2
      go_wp2_with fail
      go_roundw
      case rel => exact ⟨k + 1, _, O2, by go_num, by go_num, by omega, H2⟩
      case measure => simp [intOf]; omega
    · have ek : k = l.length := by omega
      subst ek
      go_wp2_with fail
      go_loopw [7] (fun sl wr => ∃ (k : Nat) (n : Int) (M : List En) (O : Nat → Prop), sl = .int .i64 k ∧ Hid (HW W O b n M wr ∧ Lft s l M ∧ M.length = k)) (fun sl _ => (intOf sl).toNat)
      case atStart => exact ⟨l.length, s, M, O, rfl, Lib.hid ⟨HS.out.1, HS.out.2.lft HL.out, HS.out.2.len⟩⟩
      case round =>
        obtain ⟨k, n, M, O, rfl, HT⟩ := hrel
        cases M with
        | nil =>
          have ek : k = 0 := HT.out.2.2.symm
          subst ek
          go_wp2_with fail
          refine (next_h (x := 0) (t := false) HT.out.1.pw rfl).mono ?_
          rintro e w3 ⟨rfl, hb⟩
          have HB := Lib.hid (HT.out.1.keep hb).below
          clear hb
          go_wp2_with fail
          go_ret
          exact ⟨rfl, HB.out⟩
        | cons p R =>
          have hk0 : (0 : Int) < k := by have := HT.out.2.2; simp at this; omega
          have hk1 : k ≤ 60 := by have := HT.out.2.2; have := HT.out.2.1.few; omega
          obtain ⟨f, t⟩ := p
          have hnf : n < f := HT.out.1.pw.gt (f, t) (by simp)
          have hnn := HT.out.1.pw.now
          go_wp2_with fail
          refine (next_h (x := f) (t := true) HT.out.1.pw rfl).mono ?_
          rintro e w3 ⟨rfl, hb⟩
          have H3 := Lib.hid (HT.out.1.keep hb)
          clear hb
          have hfn : ¬ f ≤ n := by omega
          go_wp2_with fail
          refine (wnow_x H3.out.pw).mono ?_
          rintro e w4 ⟨rfl, rfl⟩
          by_cases hf : 1099511627776 < f
          · go_wp2_with fail
            go_ret
            exact ⟨rfl, H3.out.below⟩
          go_wp2_with fail
          refine (adv_h H3.out (by have := HT.out.2.1.few; omega) (by omega) (by omega) (by decide) (by decide)).mono ?_
          rintro e w5 ⟨A1, c1, m1, k1, O5, rfl, ha, h5, -, -, -, -⟩
          obtain ⟨rfl, rfl⟩ := adv_ahead (p := (f, t)) ha
          have H5 : Hid (HW W O5 b (f - 1) ((f, t) :: R) w5) := Lib.hid h5
          have hz : ((List.take 0 ((f, t) :: R)).map Prod.snd).length = 0 := rfl
          rw [hz]
          clear ha h5 hz
          go_wp2_with fail
          refine (adv_h H5.out (by have := HT.out.2.1.few; omega) (by omega) (by omega) (by decide) (by decide)).mono ?_
          rintro e w6 ⟨A2, c2, m2, k2, O6, rfl, ha, h6, hr6, -, -, -⟩
          obtain ⟨em, hk2, hk3, hall⟩ := adv_to (p := (f, t)) ha H5.out.pw.srt HT.out.2.1.few
          have em : f = m2 := em
          subst em
          have hlen : (((((f, t) :: R)).take k2).map Prod.snd).length = k2 := by rw [List.length_map, List.length_take]; omega
          have hr7 := own_mono hr6 (Nat.zero_le _)
          rw [hlen] at hr7 ⊢
          have H6 := Lib.hid (And.intro h6 hr7)
          have HA := Lib.hid hall
          have HM := Lib.hid (And.intro H5.out.pw.srt HT.out.2.1)
          have hne : ((k2 : Int) == 0) = false := beq_eq_false_iff_ne.2 (by omega)
          have hk60 : k2 ≤ 60 := by have := HT.out.2.1.few; omega
          have HK := Lib.hid hk3
          clear hr6 hr7 h6 ha hall H5 hlen hk3
          go_wp2_with fail
          go_loopw [17] (fun si wx => ∃ i : Nat, si = .int .i64 i ∧ i ≤ k2 ∧ Hid (HW W O6 b f (((f, t) :: R).drop k2) wx ∧ wx.ownsRow 0 3 1 (.slice A2 k2 c2) k2 (intsR ((((f, t) :: R).take k2).map Prod.snd)))) (fun si _ => k2 - (intOf si).toNat)
          case atStart => exact ⟨0, rfl, Nat.zero_le _, H6⟩
          case round =>
            obtain ⟨i, rfl, hi, HX⟩ := hrel
            by_cases hik : i < k2
            · obtain ⟨q, hq⟩ : ∃ q, ((f, t) :: R)[i]? = some q := ⟨_, List.getElem?_eq_getElem (by have := HK.out; omega)⟩
              have hqt : (((f, t) :: R).take k2)[i]? = some q := by rw [List.getElem?_take_of_lt hik]; exact hq
              have hq1 : q.1 = f := HA.out q (List.mem_of_getElem? hqt)
              obtain ⟨j, d, hd, hqe⟩ := HM.out.2.at_ q (List.mem_of_getElem? hq)
              obtain ⟨g, rfl⟩ := row_head HX.out.2 hk2
              have x0 := row_get HX.out.2 (i := i) (x := q.2) (by rw [List.getElem?_map, hqt]; rfl)
              obtain ⟨ad, rfl, hab, c00⟩ := HR.out j d hd
              have c0 := (HX.out.1.below.cell (p := ad.add j) (by rw [add_block]; exact hab)).trans c00
              have hjl : j < l.length := (List.getElem?_eq_some_iff.1 hd).1
              have hl60 := HL.out
              have hmx : max d (s + 1) = f := by rw [← hq1, hqe]
              have hs0 := HN.out.1
              have hs1 := HN.out.2
              have hmn : (max d (s + 1) != f) = false := by rw [hmx]; exact bne_self_eq_false f
              rw [hqe] at x0
              replace x0 : wr.cell? ⟨g, i, none⟩ = some (.int .i64 (j : Int)) := x0
              have HXs := Lib.hid HX.out
              rcases Nat.eq_zero_or_pos i with hi0 | hi0
              · have z0 : decide (0 < i) = false := decide_eq_false (by omega)
                clear hq hqt hqe hab c00 hd hi0 hq1
                go_wp2_with fail
                go_quiet (fail)
                go_wp2_with fail
                go_roundw
                case rel => exact ⟨i + 1, by go_num, by omega, Lib.hid ⟨HXs.out.1.drewN _, row_drewN HXs.out.2 _⟩⟩
                case measure => simp [intOf]; omega
              · obtain ⟨i, rfl⟩ : ∃ i', i = i' + 1 := ⟨i - 1, by omega⟩
                obtain ⟨q2, hq2⟩ : ∃ q, ((f, t) :: R)[i]? = some q := ⟨_, List.getElem?_eq_getElem (by have := HK.out; omega)⟩
                have hqt2 : (((f, t) :: R).take k2)[i]? = some q2 := by rw [List.getElem?_take_of_lt (by omega)]; exact hq2
                have hq21 : q2.1 = f := HA.out q2 (List.mem_of_getElem? hqt2)
                obtain ⟨j2, d2, -, hqe2⟩ := HM.out.2.at_ q2 (List.mem_of_getElem? hq2)
                have x1 := row_get HX.out.2 (i := i) (x := q2.2) (by rw [List.getElem?_map, hqt2]; rfl)
                rw [hqe2] at x1
                replace x1 : wr.cell? ⟨g, i, none⟩ = some (.int .i64 (j2 : Int)) := x1
                have hjj : ¬ (j : Int) ≤ (j2 : Int) := by
                  have := srt_at HM.out.1 hq2 hq (Nat.lt_succ_self i)
                  rw [hqe2, hqe] at this
                  rw [hqe2] at hq21
                  rw [hqe] at hq1
                  unfold lt2 at this
                  simp only at this hq21 hq1
                  omega
                have z0 : decide ((0 : Int) < (i : Int) + 1) = true := decide_eq_true (by omega)
                clear hq hqt hqe hab c00 hd hi0 hq2 hqt2 hq21 hqe2 hq1
                go_wp2_with fail
                go_quiet (fail)
                go_wp2_with fail
                go_roundw
                case rel => exact ⟨i + 1 + 1, by go_num, by omega, Lib.hid ⟨HXs.out.1.drewN _, row_drewN HXs.out.2 _⟩⟩
                case measure => simp [intOf]; omega
            · have ei : i = k2 := by omega
              subst ei
              have hlk : ((((f, t) :: R).drop i).length : Int) = (k : Int) - i := by rw [List.length_drop, HT.out.2.2]; have := HK.out; have := HT.out.2.2; omega
              go_wp2_with fail
              refine (wlen_h HX.out.1.pw hlk).mono ?_
              rintro e w7 ⟨rfl, rfl⟩
              go_wp2_with fail
              go_roundw
              case rel => exact ⟨k - i, f, _, O6, by go_num, Lib.hid ⟨HX.out.1, HM.out.2.drop i, by omega⟩⟩
              case measure => simp [intOf]; omega
end Go.Proofs.Ytmmghdnlppjgbaa
