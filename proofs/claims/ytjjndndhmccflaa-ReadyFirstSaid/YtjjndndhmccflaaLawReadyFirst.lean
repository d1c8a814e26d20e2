/-
  The walk of the law ReadyFirst.
-/
import Derived.Test.YtjjndndhmccflaaFirK3
import Derived.RegionTactic
namespace Go.Proofs.Ytjjndndhmccflaa
set_option maxRecDepth 100000
open Go.RowKit
def rangeF (f : Bool) (g l : Int) : Bool := !f || decide (g < 1) || decide (1048576 < g) || decide (l < 1) || decide (64 < l)
theorem rangeF_no {f : Bool} {g l : Int} (h : rangeF f g l = false) : f = true ∧ 1 ≤ g ∧ g ≤ 1048576 ∧ 1 ≤ l ∧ l ≤ 64 := by
  unfold rangeF at h
  simp only [Bool.or_eq_false_iff, decide_eq_false_iff_not, Bool.not_eq_false'] at h
  refine ⟨h.1.1.1.1, ?_⟩
  omega
set_option maxHeartbeats 16000000 in
theorem readyFirst_no (g lm : Int) (v : Value) (l : List Ac) (w : World) (hv : ActsAt w v l) (h : rangeF (fewA l) g lm = true) :
    Calls Try.prog 4 #[.int .i64 g, .int .i64 lm, v] w fun e w' => e = .returned (.bool true) ∧ Below w.heap.size w w' := by
  have HA := Lib.hid awake_x
  have H := Lib.hid h
  have HV := Lib.hid hv
  obtain ⟨a0, cap, rfl, hcap, _⟩ := hv
  obtain ⟨f, hf⟩ : ∃ f, fewA l = f := ⟨_, rfl⟩
  rw [hf] at H
  have HFe := Lib.hid hf
  clear h hf
  go_enter Try.func4, Try.ntmps4
  go_wp2_with fail
  refine (HA.out _).mono ?_
  rintro e w1 ⟨rfl, hb1⟩
  have HB1 := Lib.hid hb1
  have hf1 := few_x _ l w1 (HV.out.below hb1)
  rw [HFe.out] at hf1
  have HF := Lib.hid hf1
  clear hb1 HA hf1
  go_wp2_with fail
  refine HF.out.mono ?_
  rintro e w2 ⟨rfl, rfl⟩
  clear HF
  cases f
  · go_wp2_with fail
    go_ret
    exact ⟨rfl, HB1.out⟩
  · go_wp2_with fail
    all_goals first
      | (go_ret; exact ⟨rfl, HB1.out⟩)
      | (exfalso; have := H.out; unfold rangeF at this; simp_all; done)
      | (exfalso; have := H.out; unfold rangeF at this; simp_all; omega)
set_option maxHeartbeats 16000000 in
theorem readyFirst_yes (g lm : Int) (v : Value) (l : List Ac) (w : World) (hv : ActsAt w v l) (h : rangeF (fewA l) g lm = false) :
    Calls Try.prog 4 #[.int .i64 g, .int .i64 lm, v] w fun e w' => e = .returned (.bool true) ∧ Below w.heap.size w w' := by
  obtain ⟨hfew, h1, h2, h3, h4⟩ := rangeF_no h
  obtain ⟨hl60, hd300⟩ := few_a hfew
  have HA := Lib.hid awake_x
  have d1 : decide (g < 1) = false := decide_eq_false (by omega)
  have d2 : decide (1048576 < g) = false := decide_eq_false (by omega)
  have d3 : decide (lm < 1) = false := decide_eq_false (by omega)
  have d4 : decide (64 < lm) = false := decide_eq_false (by omega)
  have hN := rightN_iff.2 ⟨h1, h2, h3, h4, (by omega : (1 : Int) ≤ 4096), (by omega : (4096 : Int) ≤ 4096)⟩
  have HFx := Lib.hid (fun (w1 : World) (hb : Below w.heap.size w w1) => hfew ▸ few_x v l w1 (hv.below hb))
  obtain ⟨a0, cap, rfl, hcap, hat⟩ := hv
  have HW := Lib.hid (And.intro hN (And.intro hat (And.intro (And.intro h1 h2) (And.intro hl60 hd300))))
  obtain ⟨M, hM⟩ : ∃ M, l.length = M := ⟨_, rfl⟩
  rw [hM] at hl60 HFx hcap ⊢
  have HM := Lib.hid hM
  clear h h1 h2 h3 h4 hN hat hfew hd300 hM
  go_enter Try.func4, Try.ntmps4
  go_wp2_with fail
  refine (HA.out _).mono ?_
  rintro e wa ⟨rfl, hba⟩
  have HBa := Lib.hid hba
  have HF := Lib.hid (HFx.out wa hba)
  clear hba HA HFx
  go_wp2_with fail
  refine HF.out.mono ?_
  rintro e w2 ⟨rfl, rfl⟩
  clear HF
  go_wp2_with fail
  refine (new_h HBa.out g lm 4096 HW.out.1).mono ?_
  rintro e wb ⟨b, O, rfl, hq, hbb, _⟩
  have HY0 := Lib.hid (show FY w O b [] (newS g lm 4096) (.slice none 0 0) [] wb from ⟨hq, ER.nil _ _, fun g e => (by cases e), Kept.nil _ _⟩)
  clear hq hbb
  go_wp2_with fail
  go_loopw [9, 10] (fun sv si wr => ∃ k : Nat, k ≤ M ∧ si = .int .i64 k ∧ Hid (∃ O S L, FY w O b [] S sv L wr ∧ FP g lm k S L)) (fun _ si _ => M - (intOf si).toNat)
  case atStart => exact ⟨0, Nat.zero_le _, rfl, Lib.hid ⟨O, _, [], HY0.out, FP.start g lm⟩⟩
  case round =>
    obtain ⟨k, hk, rfl, HI⟩ := hrel
    by_cases hlt : k < M
    · have HLT := Lib.hid hlt
      obtain ⟨O2, S2, L2, hY, hP⟩ := HI.out
      obtain ⟨x, hx⟩ : ∃ x, l[k]? = some x := ⟨_, List.getElem?_eq_getElem (by have := HM.out; omega)⟩
      obtain ⟨A, rfl, hAl, hxa0⟩ := HW.out.2.1 k x hx
      have hxa := hxa0.below hY.q.below hxa0.lt
      have hxd := HW.out.2.2.2.2 x (List.mem_of_getElem? hx)
      obtain ⟨-, c0, c1, c2, c3, c4, c5, c6, hxi, hxn⟩ := hxa
      have HNx := Lib.hid (And.intro hxi (And.intro hxn hxd))
      clear hxi hxn hxd
      obtain ⟨kd, ai, nw, ⟨xi, xd, xp, xa⟩⟩ := x
      dsimp only at c0 c1 c2 c3 c4 c5 c6 HNx
      have hsx := mkS_size xd
      have hkl : (k : Int) < (M : Int) := by omega
      have hk60 : k ≤ 60 := by omega
      have hlb := newOf wr (.cells #[.int .i64 kd, .int .i64 ai, .int .i64 nw, .int .i64 xi, .string (mkS xd), .int .i64 xp, .int .i64 xa] 36)
      have hY2 := (hY.below (below_box wr (.cells #[.int .i64 kd, .int .i64 ai, .int .i64 nw, .int .i64 xi, .string (mkS xd), .int .i64 xp, .int .i64 xa] 36))).add hlb (hY.old (Nat.le_refl _))
      have hlL := hP.len hY.q.ok
      obtain ⟨N, hN⟩ : ∃ N, L2.length = N := ⟨_, rfl⟩
      rw [hN] at hlL
      obtain ⟨Ar, cr, hv9⟩ := hY.row.slice
      rw [hN] at hv9
      subst hv9
      have HGX := Lib.hid (fun gg (hg : (Value.slice Ar N cr).ownBlock = some gg) => (hY.row.lt hg).2)
      have HY := Lib.hid (And.intro hY2 hP)
      have HN := Lib.hid hN
      clear hxa0 hAl hx hlb hY2 hY hP hN hlt HI
      by_cases n1 : nw < -2199023255552
      · have e1 : decide (nw < -2199023255552) = true := decide_eq_true n1
        clear n1
        go_wp2_with fail
        generalize wr.alloc (.cells #[.int .i64 kd, .int .i64 ai, .int .i64 nw, .int .i64 xi, .string (mkS xd), .int .i64 xp, .int .i64 xa] 36) = w4 at HY
        go_roundw
        case rel => exact ⟨k + 1, by have := HLT.out; omega, by go_num, Lib.hid ⟨_, _, _, HY.out.1.less, HY.out.2.next⟩⟩
        case measure => have := HLT.out; simp [intOf]; omega
      by_cases n2 : 2199023255552 < nw
      · have e1 : decide (nw < -2199023255552) = false := decide_eq_false n1
        have e2 : decide (2199023255552 < nw) = true := decide_eq_true n2
        clear n1 n2
        go_wp2_with fail
        generalize wr.alloc (.cells #[.int .i64 kd, .int .i64 ai, .int .i64 nw, .int .i64 xi, .string (mkS xd), .int .i64 xp, .int .i64 xa] 36) = w4 at HY
        go_roundw
        case rel => exact ⟨k + 1, by have := HLT.out; omega, by go_num, Lib.hid ⟨_, _, _, HY.out.1.less, HY.out.2.next⟩⟩
        case measure => have := HLT.out; simp [intOf]; omega
      have e1 : decide (nw < -2199023255552) = false := decide_eq_false n1
      have e2 : decide (2199023255552 < nw) = false := decide_eq_false n2
      have HNW := Lib.hid (And.intro n1 n2)
      clear n1 n2
      by_cases q0 : kd = 0
      · subst q0
        go_wp2_with fail
        generalize wr.alloc (.cells #[.int .i64 0, .int .i64 ai, .int .i64 nw, .int .i64 xi, .string (mkS xd), .int .i64 xp, .int .i64 xa] 36) = w4 at HY
        generalize wr.heap.size = X at HY HGX
        refine (put_h HY.out.1.q ⟨xi, xd, xp, xa⟩ (by have := HY.out.2.n; omega) HNx.out.2.1 (by have := HNx.out.2.2; simp only at this ⊢; omega)).mono ?_
        rintro e wc ⟨rfl, O3, hq3, hs3⟩
        obtain ⟨code, hcode⟩ : ∃ c, putE S2 ⟨xi, xd, xp, xa⟩ = c := ⟨_, rfl⟩
        rw [hcode]
        have hY3 := HY.out.1.step hq3 hs3
        by_cases hc0 : code = 0
        · have hcb : (code == 0) = true := beq_iff_eq.2 hc0
          have hX := (hY3.kp _ (List.mem_cons_self ..)).1
          have z3 := cellOf hX 3
          have z4 := cellOf hX 4
          have z5 := cellOf hX 5
          have z6 := cellOf hX 6
          obtain ⟨Aq, cq, w6, happ, r6, g6, o6⟩ := app_one hY3.row ⟨xi, xd, xp, xa⟩ (by rw [HN.out]; omega) hY3.q.below.size
          rw [HN.out] at happ r6 o6
          have HYn := Lib.hid (And.intro ((hY3.less.below (below_box wc _)).turn g6 r6 o6 (fun p hp => (List.not_mem_nil hp).elim)) (HY.out.2.put (hcode.trans hc0)))
          have HLn := Lib.hid (show (L2 ++ [(⟨xi, xd, xp, xa⟩ : Et)]).length = N + 1 by rw [List.length_append, HN.out]; rfl)
          clear hc0 hcode hX r6 g6 o6 hY3 hq3 hs3 c0 c1 c2 c3 c4 c5 c6
          go_wp2_with (at_builtin; refine wpList_app_run rfl (.tmp 82) (.tmp 85) 56 rfl _ _ _ rfl rfl happ ?_)
          refine (HYn.out.1.lenN HYn.out.2 HLn.out).mono ?_
          rintro e w7 ⟨rfl, rfl⟩
          clear happ
          go_wp2_with fail
          go_roundw
          case rel => exact ⟨k + 1, by have := HLT.out; omega, by go_num, Lib.hid ⟨_, _, _, HYn.out.1, HYn.out.2⟩⟩
          case measure => have := HLT.out; simp [intOf]; omega
        · have hcb : (code == 0) = false := beq_eq_false_iff_ne.2 hc0
          have hsame : putQ S2 ⟨xi, xd, xp, xa⟩ = S2 := by unfold putQ; rw [if_neg (by rw [hcode]; exact hc0)]
          rw [hsame] at hY3
          have HYn := Lib.hid (And.intro hY3.less HY.out.2.next)
          clear hc0 hcode hsame hY3 hq3 hs3 c0 c1 c2 c3 c4 c5 c6
          go_wp2_with fail
          refine (HYn.out.1.lenN HYn.out.2 HN.out).mono ?_
          rintro e w7 ⟨rfl, rfl⟩
          go_wp2_with fail
          go_roundw
          case rel => exact ⟨k + 1, by have := HLT.out; omega, by go_num, Lib.hid ⟨_, _, _, HYn.out.1, HYn.out.2⟩⟩
          case measure => have := HLT.out; simp [intOf]; omega
      have f0 : (kd == 0) = false := beq_eq_false_iff_ne.2 q0
      by_cases q1 : kd = 1
      · subst q1
        exact first_k1 _ _ _ _ _ _ _ _ _ _ _ _ _ _ _ _ _ _ _ _ _ _ _ _ _ _ _ _ _ _ _ _ _ _ _ _ _ _ _ _ _ _ _ _ _ _ _ _ _ _ _ _ _ _ _ _ _ _ _ _ _ _ _ _ _ _ _ _ _ _ _ _ _ _ _ _ _ _ _ _ _ _ _ _ _ _ _ _ _ _ _ _ _ _ _ _ _ _ _ _ _ _ _ _ _ _ _ _ _ _ _ _ _ _ _ _ _ _ _ _ _ _ _ _ _ _ _ _ _ _ _ _ _ _ _ _ _ _ _ _ _ _ _ _ _ _ _ _ _ _ _ _ _ _ _ _ _ _ _ _ _ _ _ _ _ _ _ _ _ _ _ _ _ _ _ _ _ _ _ _ _ _ _ _ _ _ _ _ _ _ _ _ _ _ _ _ _ _ _ _ _ _ _ _ _ _ _ _ _ _ _ _ HLT _ _ _ _ HW _ _ _ _ _ _ c1 c2 c3 c4 c5 c6 hkl hk60 _ hlL _ _ HGX HN e1 e2 HNW c0 HY
      have f1 : (kd == 1) = false := beq_eq_false_iff_ne.2 q1
      by_cases q2 : kd = 2
      · subst q2
        go_wp2_with fail
        generalize wr.alloc (.cells #[.int .i64 2, .int .i64 ai, .int .i64 nw, .int .i64 xi, .string (mkS xd), .int .i64 xp, .int .i64 xa] 36) = w4 at HY
        generalize wr.heap.size = X at HY HGX
        refine (done_h HY.out.1.q ai HNx.out.1).mono ?_
        rintro e wc ⟨rfl, hq3, hs3⟩
        have HYn := Lib.hid (And.intro (HY.out.1.step hq3 hs3).less (HY.out.2.done ai))
        clear hq3 hs3 c0 c1 c2 c3 c4 c5 c6
        go_wp2_with fail
        refine (HYn.out.1.lenN HYn.out.2 HN.out).mono ?_
        rintro e w7 ⟨rfl, rfl⟩
        go_wp2_with fail
        go_roundw
        case rel => exact ⟨k + 1, by have := HLT.out; omega, by go_num, Lib.hid ⟨_, _, _, HYn.out.1, HYn.out.2⟩⟩
        case measure => have := HLT.out; simp [intOf]; omega
      have f2 : (kd == 2) = false := beq_eq_false_iff_ne.2 q2
      by_cases q3 : kd = 3
      · subst q3
        exact first_k3 _ _ _ _ _ _ _ _ _ _ _ _ _ _ _ _ _ _ _ _ _ _ _ _ _ _ _ _ _ _ _ _ _ _ _ _ _ _ _ _ _ _ _ _ _ _ _ _ _ _ _ _ _ _ _ _ _ _ _ _ _ _ _ _ _ _ _ _ _ _ _ _ _ _ _ _ _ _ _ _ _ _ _ _ _ _ _ _ _ _ _ _ _ _ _ _ _ _ _ _ _ _ _ _ _ _ _ _ _ _ _ _ _ _ _ _ _ _ _ _ _ _ _ _ _ _ _ _ _ _ _ _ _ _ _ _ _ _ _ _ _ _ _ _ _ _ _ _ _ _ _ _ _ _ _ _ _ _ _ _ _ _ _ _ _ _ _ _ _ _ _ _ _ _ _ _ _ _ _ _ _ _ _ _ _ _ _ _ _ _ _ _ _ _ _ _ _ _ _ _ _ _ _ _ _ _ _ _ _ _ _ HLT _ _ _ _ _ _ _ _ _ _ c1 c2 c3 c4 c5 c6 hkl hk60 _ hlL _ _ HGX HN e1 e2 c0 HY
      have f3 : (kd == 3) = false := beq_eq_false_iff_ne.2 q3
      go_wp2_with fail
      generalize wr.alloc (.cells #[.int .i64 kd, .int .i64 ai, .int .i64 nw, .int .i64 xi, .string (mkS xd), .int .i64 xp, .int .i64 xa] 36) = w4 at HY
      have HYn := Lib.hid (And.intro HY.out.1.less HY.out.2.next)
      refine (HYn.out.1.lenN HYn.out.2 HN.out).mono ?_
      rintro e w7 ⟨rfl, rfl⟩
      go_wp2_with fail
      go_roundw
      case rel => exact ⟨k + 1, by have := HLT.out; omega, by go_num, Lib.hid ⟨_, _, _, HYn.out.1, HYn.out.2⟩⟩
      case measure => have := HLT.out; simp [intOf]; omega
    · obtain rfl : k = M := by omega
      obtain ⟨O2, S2, L2, hY, hP⟩ := HI.out
      have HB := Lib.hid hY.q.below
      clear hY hP
      go_wp2_with fail
      go_ret
      exact ⟨rfl, HB.out⟩
theorem readyFirst_row (g lm : Int) (v : Value) (l : List Ac) (w : World) (_ : IntKind.i64.min ≤ g) (_ : g ≤ IntKind.i64.max) (_ : IntKind.i64.min ≤ lm) (_ : lm ≤ IntKind.i64.max) (hv : ActsAt w v l) :
    Calls Try.prog 4 #[.int .i64 g, .int .i64 lm, v] w fun e w' => e = .returned (.bool true) ∧ Below w.heap.size w w' := by
  cases h : rangeF (fewA l) g lm with
  | false => exact readyFirst_yes g lm v l w hv h
  | true => exact readyFirst_no g lm v l w hv h
end Go.Proofs.Ytjjndndhmccflaa
