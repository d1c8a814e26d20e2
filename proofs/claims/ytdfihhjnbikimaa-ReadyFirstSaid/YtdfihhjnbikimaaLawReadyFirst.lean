/-
  The walk of the law ReadyFirst.
-/
import Derived.Test.YtdfihhjnbikimaaRdFst
import Derived.RegionTactic
namespace Go.Proofs.Ytdfihhjnbikimaa
set_option maxRecDepth 100000
open Go.RowKit
def rangeF (f : Bool) (g l : Int) : Bool := !f || decide (g < 1) || decide (1048576 < g) || decide (l < 1) || decide (64 < l)
theorem rangeF_no {f : Bool} {g l : Int} (h : rangeF f g l = false) : f = true ∧ 1 ≤ g ∧ g ≤ 1048576 ∧ 1 ≤ l ∧ l ≤ 64 := by
  unfold rangeF at h
  simp only [Bool.or_eq_false_iff, decide_eq_false_iff_not, Bool.not_eq_false'] at h
  refine ⟨h.1.1.1.1, ?_⟩
  omega
set_option maxHeartbeats 16000000 in
theorem readyFirst_no (g lm : Int) (v : Value) (l : List Ac) (w : World) (hv : ActsAt w v l) (h : rangeF (fewA l) g lm = true) :
    Calls Try.prog 5 #[.int .i64 g, .int .i64 lm, v] w fun e w' => e = .returned (.bool true) ∧ Below w.heap.size w w' := by
  have HA := Lib.hid awake_x
  have H := Lib.hid h
  have HV := Lib.hid hv
  obtain ⟨a0, cap, rfl, hcap, _⟩ := hv
  obtain ⟨f, hf⟩ : ∃ f, fewA l = f := ⟨_, rfl⟩
  rw [hf] at H
  have HFe := Lib.hid hf
  clear h hf
  go_enter Try.func5, Try.ntmps5
  go_wp2_with fail
  refine (HA.out _).mono ?_
  rintro e w1 ⟨rfl, hb1⟩
  have HB1 := Lib.hid hb1
  have hf1 := few_x _ l w1 (HV.out.below hb1)
  rw [HFe.out] at hf1
  have HF := Lib.hid hf1
  clear hb1 HA hf1
  go_wp2_with fail
  refine HF.out.mono ?_
  rintro e w2 ⟨rfl, rfl⟩
  clear HF
  cases f
  · go_wp2_with fail
    go_ret
    exact ⟨rfl, HB1.out⟩
  · go_wp2_with fail
    all_goals first
      | (go_ret; exact ⟨rfl, HB1.out⟩)
      | (exfalso; have := H.out; unfold rangeF at this; simp_all; done)
      | (exfalso; have := H.out; unfold rangeF at this; simp_all; omega)
set_option maxHeartbeats 16000000 in
theorem readyFirst_yes (g lm : Int) (v : Value) (l : List Ac) (w : World) (hv : ActsAt w v l) (h : rangeF (fewA l) g lm = false) :
    Calls Try.prog 5 #[.int .i64 g, .int .i64 lm, v] w fun e w' => e = .returned (.bool true) ∧ Below w.heap.size w w' := by
  obtain ⟨hfew, h1, h2, h3, h4⟩ := rangeF_no h
  obtain ⟨hl60, hd300⟩ := few_a hfew
  have HA := Lib.hid awake_x
  have d1 : decide (g < 1) = false := decide_eq_false (by omega)
  have d2 : decide (1048576 < g) = false := decide_eq_false (by omega)
  have d3 : decide (lm < 1) = false := decide_eq_false (by omega)
  have d4 : decide (64 < lm) = false := decide_eq_false (by omega)
  have hN := rightN_iff.2 ⟨h1, h2, h3, h4, (by omega : (1 : Int) ≤ 4096), (by omega : (4096 : Int) ≤ 4096)⟩
  have HFx := Lib.hid (fun (w1 : World) (hb : Below w.heap.size w w1) => hfew ▸ few_x v l w1 (hv.below hb))
  obtain ⟨a0, cap, rfl, hcap, hat⟩ := hv
  have HW := Lib.hid (And.intro hN (And.intro hat (And.intro (And.intro h1 h2) (And.intro hl60 hd300))))
  obtain ⟨M, hM⟩ : ∃ M, l.length = M := ⟨_, rfl⟩
  rw [hM] at hl60 HFx hcap ⊢
  have HM := Lib.hid hM
  clear h h1 h2 h3 h4 hN hat hfew hd300 hM
  go_enter Try.func5, Try.ntmps5
  go_wp2_with fail
  refine (HA.out _).mono ?_
  rintro e wa ⟨rfl, hba⟩
  have HBa := Lib.hid hba
  have HF := Lib.hid (HFx.out wa hba)
  clear hba HA HFx
  go_wp2_with fail
  refine HF.out.mono ?_
  rintro e w2 ⟨rfl, rfl⟩
  clear HF
  go_wp2_with fail
  refine (new_h HBa.out g lm 4096 HW.out.1).mono ?_
  rintro e wb ⟨b, O, rfl, hq, hbb, _⟩
  have HY0 := Lib.hid (show FY w O b [] (newS g lm 4096) (.slice none 0 0) [] wb from ⟨hq, ER.nil _ _, fun g e => (by cases e), Kept.nil _ _⟩)
  clear hq hbb
  go_wp2_with fail
  go_loopw [9, 10] (fun sv si wr => ∃ k : Nat, k ≤ M ∧ si = .int .i64 k ∧ Hid (∃ O S L, FY w O b [] S sv L wr ∧ FP g lm k S L)) (fun _ si _ => M - (intOf si).toNat)
  case atStart => exact ⟨0, Nat.zero_le _, rfl, Lib.hid ⟨O, _, [], HY0.out, FP.start g lm⟩⟩
  case round =>
    obtain ⟨k, hk, rfl, HI⟩ := hrel
    by_cases hlt : k < M
    · have HLT := Lib.hid hlt
      obtain ⟨O2, S2, L2, hY, hP⟩ := HI.out
      obtain ⟨x, hx⟩ : ∃ x, l[k]? = some x := ⟨_, List.getElem?_eq_getElem (by have := HM.out; omega)⟩
      obtain ⟨A, rfl, hAl, hxa0⟩ := HW.out.2.1 k x hx
      have hxa := hxa0.below hY.q.below hxa0.lt
      have hxd := HW.out.2.2.2.2 x (List.mem_of_getElem? hx)
      obtain ⟨-, c0, c1, c2, c3, c4, c5, c6, hxi, hxn⟩ := hxa
      have HNx := Lib.hid (And.intro hxi (And.intro hxn hxd))
      clear hxi hxn hxd
      obtain ⟨kd, ai, nw, ⟨xi, xd, xp, xa⟩⟩ := x
      dsimp only at c0 c1 c2 c3 c4 c5 c6 HNx
      have hsx := mkS_size xd
      have hkl : (k : Int) < (M : Int) := by omega
      have hk60 : k ≤ 60 := by omega
      have hlb := newOf wr (.cells #[.int .i64 kd, .int .i64 ai, .int .i64 nw, .int .i64 xi, .string (mkS xd), .int .i64 xp, .int .i64 xa] 36)
      have hY2 := (hY.below (below_box wr (.cells #[.int .i64 kd, .int .i64 ai, .int .i64 nw, .int .i64 xi, .string (mkS xd), .int .i64 xp, .int .i64 xa] 36))).add hlb (hY.old (Nat.le_refl _))
      have hlL := hP.len hY.q.ok
      obtain ⟨N, hN⟩ : ∃ N, L2.length = N := ⟨_, rfl⟩
      rw [hN] at hlL
      obtain ⟨Ar, cr, hv9⟩ := hY.row.slice
      rw [hN] at hv9
      subst hv9
      have HGX := Lib.hid (fun gg (hg : (Value.slice Ar N cr).ownBlock = some gg) => (hY.row.lt hg).2)
      have HY := Lib.hid (And.intro hY2 hP)
      have HN := Lib.hid hN
      clear hxa0 hAl hx hlb hY2 hY hP hN hlt HI
      by_cases n1 : nw < -2199023255552
      · have e1 : decide (nw < -2199023255552) = true := decide_eq_true n1
        clear n1
        go_wp2_with fail
        generalize wr.alloc (.cells #[.int .i64 kd, .int .i64 ai, .int .i64 nw, .int .i64 xi, .string (mkS xd), .int .i64 xp, .int .i64 xa] 36) = w4 at HY
        go_roundw
        case rel => exact ⟨k + 1, by have := HLT.out; omega, by go_num, Lib.hid ⟨_, _, _, HY.out.1.less, HY.out.2.next⟩⟩
        case measure => have := HLT.out; simp [intOf]; omega
      by_cases n2 : 2199023255552 < nw
      · have e1 : decide (nw < -2199023255552) = false := decide_eq_false n1
        have e2 : decide (2199023255552 < nw) = true := decide_eq_true n2
        clear n1 n2
        go_wp2_with fail
        generalize wr.alloc (.cells #[.int .i64 kd, .int .i64 ai, .int .i64 nw, .int .i64 xi, .string (mkS xd), .int .i64 xp, .int .i64 xa] 36) = w4 at HY
        go_roundw
        case rel => exact ⟨k + 1, by have := HLT.out; omega, by go_num, Lib.hid ⟨_, _, _, HY.out.1.less, HY.out.2.next⟩⟩
        case measure => have := HLT.out; simp [intOf]; omega
      have e1 : decide (nw < -2199023255552) = false := decide_eq_false n1
      have e2 : decide (2199023255552 < nw) = false := decide_eq_false n2
      have HNW := Lib.hid (And.intro n1 n2)
      clear n1 n2
      by_cases q0 : kd = 0
      · subst q0
        go_wp2_with fail
        generalize wr.alloc (.cells #[.int .i64 0, .int .i64 ai, .int .i64 nw, .int .i64 xi, .string (mkS xd), .int .i64 xp, .int .i64 xa] 36) = w4 at HY
        generalize wr.heap.size = X at HY HGX
        refine (put_h HY.out.1.q ⟨xi, xd, xp, xa⟩ (by have := HY.out.2.n; omega) HNx.out.2.1 (by have := HNx.out.2.2; simp only at this ⊢; omega)).mono ?_
        rintro e wc ⟨rfl, O3, hq3, hs3⟩
        obtain ⟨code, hcode⟩ : ∃ c, putE S2 ⟨xi, xd, xp, xa⟩ = c := ⟨_, rfl⟩
        rw [hcode]
        have hY3 := HY.out.1.step hq3 hs3
        by_cases hc0 : code = 0
        · have hcb : (code == 0) = true := beq_iff_eq.2 hc0
          have hX := (hY3.kp _ (List.mem_cons_self ..)).1
          have z3 := cellOf hX 3
          have z4 := cellOf hX 4
          have z5 := cellOf hX 5
          have z6 := cellOf hX 6
          obtain ⟨Aq, cq, w6, happ, r6, g6, o6⟩ := app_one hY3.row ⟨xi, xd, xp, xa⟩ (by rw [HN.out]; omega) hY3.q.below.size
          rw [HN.out] at happ r6 o6
          have HYn := Lib.hid (And.intro ((hY3.less.below (below_box wc _)).turn g6 r6 o6 (fun p hp => (List.not_mem_nil hp).elim)) (HY.out.2.put (hcode.trans hc0)))
          have HLn := Lib.hid (show (L2 ++ [(⟨xi, xd, xp, xa⟩ : Et)]).length = N + 1 by rw [List.length_append, HN.out]; rfl)
          clear hc0 hcode hX r6 g6 o6 hY3 hq3 hs3 c0 c1 c2 c3 c4 c5 c6
          go_wp2_with (at_builtin; refine wpList_app_run rfl (.tmp 82) (.tmp 85) 58 rfl _ _ _ rfl rfl happ ?_)
          refine (HYn.out.1.lenN HYn.out.2 HLn.out).mono ?_
          rintro e w7 ⟨rfl, rfl⟩
          clear happ
          go_wp2_with fail
          go_roundw
          case rel => exact ⟨k + 1, by have := HLT.out; omega, by go_num, Lib.hid ⟨_, _, _, HYn.out.1, HYn.out.2⟩⟩
          case measure => have := HLT.out; simp [intOf]; omega
        · have hcb : (code == 0) = false := beq_eq_false_iff_ne.2 hc0
          have hsame : putQ S2 ⟨xi, xd, xp, xa⟩ = S2 := by unfold putQ; rw [if_neg (by rw [hcode]; exact hc0)]
          rw [hsame] at hY3
          have HYn := Lib.hid (And.intro hY3.less HY.out.2.next)
          clear hc0 hcode hsame hY3 hq3 hs3 c0 c1 c2 c3 c4 c5 c6
          go_wp2_with fail
          refine (HYn.out.1.lenN HYn.out.2 HN.out).mono ?_
          rintro e w7 ⟨rfl, rfl⟩
          go_wp2_with fail
          go_roundw
          case rel => exact ⟨k + 1, by have := HLT.out; omega, by go_num, Lib.hid ⟨_, _, _, HYn.out.1, HYn.out.2⟩⟩
          case measure => have := HLT.out; simp [intOf]; omega
      have f0 : (kd == 0) = false := beq_eq_false_iff_ne.2 q0
      by_cases q1 : kd = 1
      · subst q1
        have mB := make_B (wr.alloc (.cells #[.int .i64 1, .int .i64 ai, .int .i64 nw, .int .i64 xi, .string (mkS xd), .int .i64 xp, .int .i64 xa] 36))
        have hM0 := FM.made HY.out.1
        rw [show (wr.alloc (.cells #[.int .i64 1, .int .i64 ai, .int .i64 nw, .int .i64 xi, .string (mkS xd), .int .i64 xp, .int .i64 xa] 36)).heap.size = wr.heap.size + 1 by simp] at hM0
        have HM0 := Lib.hid hM0
        clear hM0
        have hnow : NowOk nw S2.age := by rw [HY.out.2.age]; exact ⟨by have := HNW.out; omega, by have := HNW.out; omega, HW.out.2.2.1.1, HW.out.2.2.1.2⟩
        have HP := Lib.hid (And.intro HY.out.2 (And.intro HY.out.1.q.ok hnow))
        clear hnow HY
        go_wp2_with fail
        clear mB c0 c1 c2 c3 c4 c5 c6
        generalize (wr.alloc (.cells #[.int .i64 1, .int .i64 ai, .int .i64 nw, .int .i64 xi, .string (mkS xd), .int .i64 xp, .int .i64 xa] 36)).alloc (.map #[] 0) = w5 at HM0
        generalize wr.heap.size = X at HM0 HGX
        go_loopw [13] (fun si wx => ∃ j : Nat, j ≤ N ∧ si = .int .i64 j ∧ Hid (FM w O2 b [(X, .cells #[.int .i64 1, .int .i64 ai, .int .i64 nw, .int .i64 xi, .string (mkS xd), .int .i64 xp, .int .i64 xa] 36 (0, 0))] (X + 1) (frM (frG S2 L2) j) S2 (.slice Ar N cr) L2 wx)) (fun si _ => N - (intOf si).toNat)
        case atStart => exact ⟨0, Nat.zero_le _, rfl, HM0⟩
        case round =>
          obtain ⟨j, hjN, rfl, HJ⟩ := hrel
          by_cases hjl : j < N
          · have HJL := Lib.hid hjl
            have hN60 : N ≤ 60 := by omega
            obtain ⟨y, hy⟩ : ∃ y, L2[j]? = some y := ⟨_, List.getElem?_eq_getElem (by have := HN.out; omega)⟩
            obtain ⟨gB, cap', cur, hv, _, _, hcap2, _⟩ := HJ.out.y.row.form (by have := HN.out; omega)
            rw [HN.out] at hv hcap2
            injection hv with hv1 _ hv3
            subst hv1
            subst hv3
            have hrow := HJ.out.y.row
            have hyk := HP.out.1.okl HP.out.2.1 y (List.mem_of_getElem? hy)
            obtain ⟨cn, hcn⟩ : ∃ c, cnt S2.F y.dest = c := ⟨_, rfl⟩
            obtain ⟨f, hf⟩ : ∃ f, decide (cn < lm) = f := ⟨_, rfl⟩
            have hfr : frG S2 L2 j = f := by unfold frG; rw [hy]; show decide (cnt S2.F y.dest < S2.lim) = f; rw [hcn, HP.out.1.lim, hf]
            have hfl := flying_h HJ.out.y.q y.dest (by omega)
            rw [hcn] at hfl
            have HFl := Lib.hid hfl
            have hjn : Nm (j : Int) := ⟨by omega, by omega⟩
            obtain ⟨w6, run6, j6, t6⟩ := HJ.out.j.putB (n := (j : Int)) (.bool f) hjn (by rw [frM_len]; omega)
            rw [frM_filter, ← hfr] at j6
            have HJ6 := Lib.hid (HJ.out.put (J' := frM (frG S2 L2) (j + 1)) j6 t6)
            rw [← HN.out] at hrow
            have y1 : wr.cell? ⟨gB, j * 4 + 1, none⟩ = some (.string (mkS y.dest)) := hrow.get hy (c := 1) (by omega)
            have hjI : (j : Int) < (N : Int) := by omega
            clear hrow hyk hfl hjn j6 t6 hfr hcn hy
            go_wp2_with fail
            refine HFl.out.mono ?_
            rintro e w7 ⟨rfl, rfl⟩
            go_wp2_with fail
            go_roundw
            case rel => exact ⟨j + 1, by have := HJL.out; omega, by go_num, HJ6⟩
            case measure => have := HJL.out; simp [intOf]; omega
          · obtain rfl : j = N := by omega
            have a2 := cellOf (HJ.out.y.kp _ (List.mem_cons_self ..)).1 2
            have HJ0 := Lib.hid (take_h HJ.out.y.q nw HP.out.2.2)
            go_wp2_with fail
            refine HJ0.out.mono ?_
            rintro e w7 ⟨rfl, hq7, hs7⟩
            have hF7 := HJ.out.step hq7 hs7
            have hlX := hlt (hF7.y.kp _ (List.mem_cons_self ..)).1
            cases htk : takeE S2 nw with
            | none =>
              have h1 : tkE S2 nw = zEt := by unfold tkE; rw [htk]
              have h2 : tkB S2 nw = false := by unfold tkB; rw [htk]; rfl
              rw [h1, h2]
              have HP8 := Lib.hid (And.intro (HP.out.1.takeN htk) (fun i => take_no_free HP.out.1 htk i))
              have HF8 := Lib.hid (hF7.below (below_box w7 (.cells (ecs zEt) 34)))
              clear hF7 hq7 hs7 hlX htk h1 h2 a2
              go_wp2_with fail
              go_loopw [16, 17] (fun sv si wx => ∃ i : Nat, i ≤ j ∧ sv = .int .i64 (-1) ∧ si = .int .i64 i ∧ Hid (FM w O2 b [(X, .cells #[.int .i64 1, .int .i64 ai, .int .i64 nw, .int .i64 xi, .string (mkS xd), .int .i64 xp, .int .i64 xa] 36 (0, 0))] (X + 1) (frM (frG S2 L2) j) (takeQ S2 nw) (.slice Ar j cr) L2 wx)) (fun _ si _ => j - (intOf si).toNat)
              case atStart => exact ⟨0, Nat.zero_le _, rfl, rfl, HF8⟩
              case round =>
                obtain ⟨i, hij, rfl, rfl, HI⟩ := hrel
                have hi60 : i ≤ 60 := by omega
                by_cases hil : i < j
                · have hilI : (i : Int) < (j : Int) := by omega
                  have HIL := Lib.hid hil
                  clear hil
                  go_wp2_with fail
                  go_quiet (fail)
                  go_wp2_with fail
                  go_roundw
                  case rel => exact ⟨i + 1, by have := HIL.out; omega, rfl, by go_num, Lib.hid (HI.out.below (below_drewN (Below.refl _ _) _))⟩
                  case measure => have := HIL.out; simp [intOf]; omega
                · obtain rfl : i = j := by omega
                  go_wp2_with fail
                  go_loopw [18] (fun si wx => ∃ n : Nat, n ≤ i ∧ si = .int .i64 n ∧ Hid (FM w O2 b [(X, .cells #[.int .i64 1, .int .i64 ai, .int .i64 nw, .int .i64 xi, .string (mkS xd), .int .i64 xp, .int .i64 xa] 36 (0, 0))] (X + 1) (frM (frG S2 L2) i) (takeQ S2 nw) (.slice Ar i cr) L2 wx)) (fun si _ => i - (intOf si).toNat)
                  case atStart => exact ⟨0, Nat.zero_le _, rfl, HI⟩
                  case round =>
                    obtain ⟨n, hni, rfl, HJ2⟩ := hrel
                    by_cases hnl : n < i
                    · have hnlI : (n : Int) < (i : Int) := by omega
                      have hn60 : n ≤ 60 := by omega
                      have lk := HJ2.out.j.get_yesB (frM_mem (frG S2 L2) hnl) ⟨by omega, by omega⟩
                      rw [HP8.out.2 n] at lk
                      have HNL := Lib.hid hnl
                      clear hnl
                      go_wp2_with fail
                      go_roundw
                      case rel => exact ⟨n + 1, by have := HNL.out; omega, by go_num, HJ2⟩
                      case measure => have := HNL.out; simp [intOf]; omega
                    · obtain rfl : n = i := by omega
                      go_wp2_with fail
                      refine (HJ2.out.y.less.lenN HP8.out.1 HN.out).mono ?_
                      rintro e w9 ⟨rfl, rfl⟩
                      go_wp2_with fail
                      go_roundw
                      case rel => exact ⟨k + 1, by have := HLT.out; omega, by go_num, Lib.hid ⟨_, _, _, HJ2.out.y.less, HP8.out.1⟩⟩
                      case measure => have := HLT.out; simp [intOf]; omega
            | some x =>
              obtain ⟨x, xn⟩ := x
              have h1 : tkE S2 nw = x := by unfold tkE; rw [htk]
              have h2 : tkB S2 nw = true := by unfold tkB; rw [htk]; rfl
              rw [h1, h2]
              obtain ⟨a, hla, hfa, hne, hrk⟩ := take_is HP.out.1 HP.out.2.1 htk
              have haj : a < j := by have := (List.getElem?_eq_some_iff.1 hla).1; have := HN.out; omega
              have hcn := take_cnt HP.out.1 htk
              have hxo := HP.out.1.okl HP.out.2.1 x (List.mem_of_getElem? hla)
              have her := erase_ent (HP.out.1.ids HP.out.2.1) hla
              have hp8 := HP.out.1.take htk
              rw [show (L2.filter fun y => y.id != (x, xn).1.id) = L2.eraseIdx a from her.symm] at hp8
              have HT := Lib.hid (And.intro hla (And.intro hfa (And.intro hne hrk)))
              have HP8 := Lib.hid (And.intro hp8 (And.intro hcn hxo))
              have haI : (a : Int) < (j : Int) := by omega
              have HAJ := Lib.hid haj
              have hsx2 := mkS_size x.dest
              clear hla hfa hne hrk hcn hxo her hp8 htk haj
              have hsz : w7.heap.size ≠ X + 1 := by have := hF7.j.lt; omega
              have hb8 := hF7.below (below_box w7 (.cells (ecs x) 34))
              have HF8 := Lib.hid (hb8.add (newOf w7 _) (hF7.y.old (Nat.le_refl _)) hsz)
              clear hF7 hq7 hs7 hlX h1 h2 a2 hsz hb8
              go_wp2_with fail
              go_loopw [16, 17] (fun sv si wx => ∃ (i : Nat) (z : Int), i ≤ j ∧ sv = .int .i64 z ∧ si = .int .i64 i ∧ Hid (z = (if a < i then (a : Int) else -1) ∧ FM w O2 b [(w7.heap.size, .cells (ecs x) 34 (0, 0)), (X, .cells #[.int .i64 1, .int .i64 ai, .int .i64 nw, .int .i64 xi, .string (mkS xd), .int .i64 xp, .int .i64 xa] 36 (0, 0))] (X + 1) (frM (frG S2 L2) j) (takeQ S2 nw) (.slice Ar j cr) L2 wx)) (fun _ si _ => j - (intOf si).toNat)
              case atStart => exact ⟨0, -1, Nat.zero_le _, rfl, rfl, Lib.hid ⟨rfl, HF8.out⟩⟩
              case round =>
                obtain ⟨i, z, hij, rfl, rfl, HI⟩ := hrel
                have hi60 : i ≤ 60 := by omega
                by_cases hil : i < j
                · have hilI : (i : Int) < (j : Int) := by omega
                  obtain ⟨y, hy⟩ : ∃ y, L2[i]? = some y := ⟨_, List.getElem?_eq_getElem (by have := HN.out; omega)⟩
                  obtain ⟨gB, cap', cur, hv, _, _, hcap2, _⟩ := HI.out.2.y.row.form (by have := HN.out; omega)
                  rw [HN.out] at hv hcap2
                  injection hv with hv1 _ hv3
                  subst hv1
                  subst hv3
                  have hrow := HI.out.2.y.row
                  rw [← HN.out] at hrow
                  have y0 : wr.cell? ⟨gB, i * 4, none⟩ = some (.int .i64 y.id) := hrow.get hy (c := 0) (by omega)
                  have y1 : wr.cell? ⟨gB, i * 4 + 1, none⟩ = some (.string (mkS y.dest)) := hrow.get hy (c := 1) (by omega)
                  have y2 : wr.cell? ⟨gB, i * 4 + 2, none⟩ = some (.int .i64 y.pri) := hrow.get hy (c := 2) (by omega)
                  have y3 : wr.cell? ⟨gB, i * 4 + 3, none⟩ = some (.int .i64 y.at_) := hrow.get hy (c := 3) (by omega)
                  have hX := (HI.out.2.y.kp _ (List.mem_cons_self ..)).1
                  have x0 := cellOf hX 0
                  have x1 := cellOf hX 1
                  have x2 := cellOf hX 2
                  have x3 := cellOf hX 3
                  have HIL := Lib.hid hil
                  by_cases hia : i = a
                  · have hEq : ∀ w, (Op.equalIn 10000 34 (.agg #[.int .i64 y.id, .string (mkS y.dest), .int .i64 y.pri, .int .i64 y.at_]) (.agg #[.int .i64 x.id, .string (mkS x.dest), .int .i64 x.pri, .int .i64 x.at_])).run Try.prog w = .ok true w := fun w => by
                      have h1 : y = x := by
                        have h2 := HT.out.1
                        rw [← hia, hy] at h2
                        exact Option.some.inj h2
                      have := eqEt y x w
                      rwa [eqE_iff.2 h1] at this
                    have HIA := Lib.hid hia
                    clear hil hy hrow hX hia
                    go_wp2_with fail
                    go_quiet (fail)
                    go_wp2_with fail
                    go_roundw
                    case rel => exact ⟨i + 1, i, by have := HIL.out; omega, rfl, by go_num, Lib.hid ⟨by rw [if_pos (by have := HIA.out; omega), HIA.out], HI.out.2.below (below_drewN (Below.refl _ _) _)⟩⟩
                    case measure => have := HIL.out; simp [intOf]; omega
                  · have hEq : ∀ w, (Op.equalIn 10000 34 (.agg #[.int .i64 y.id, .string (mkS y.dest), .int .i64 y.pri, .int .i64 y.at_]) (.agg #[.int .i64 x.id, .string (mkS x.dest), .int .i64 x.pri, .int .i64 x.at_])).run Try.prog w = .ok false w := fun w => by
                      have := eqEt y x w
                      rwa [eqE_no.2 (HT.out.2.2.1 i y hy hia)] at this
                    have HIA := Lib.hid hia
                    clear hil hy hrow hX hia
                    go_wp2_with fail
                    go_quiet (fail)
                    go_wp2_with fail
                    go_roundw
                    case rel => exact ⟨i + 1, z, by have := HIL.out; omega, rfl, by go_num, Lib.hid ⟨by
                        have h1 := HI.out.1
                        have h2 := HIA.out
                        by_cases h3 : a < i
                        · rw [if_pos (by omega)]; rwa [if_pos h3] at h1
                        · rw [if_neg (by omega)]; rwa [if_neg h3] at h1, HI.out.2.below (below_drewN (Below.refl _ _) _)⟩⟩
                    case measure => have := HIL.out; simp [intOf]; omega
                · obtain rfl : i = j := by omega
                  obtain rfl : z = (a : Int) := by have := HI.out.1; rwa [if_pos HAJ.out] at this
                  have ha60 : a ≤ 60 := by omega
                  have lka := HI.out.2.j.get_yesB (frM_mem (frG S2 L2) HAJ.out) ⟨by omega, by omega⟩
                  rw [HT.out.2.1] at lka
                  have HF9 := Lib.hid HI.out.2
                  clear HI
                  go_wp2_with fail
                  clear lka
                  go_loopw [18] (fun si wx => ∃ n : Nat, n ≤ i ∧ si = .int .i64 n ∧ Hid (FM w O2 b [(w7.heap.size, .cells (ecs x) 34 (0, 0)), (X, .cells #[.int .i64 1, .int .i64 ai, .int .i64 nw, .int .i64 xi, .string (mkS xd), .int .i64 xp, .int .i64 xa] 36 (0, 0))] (X + 1) (frM (frG S2 L2) i) (takeQ S2 nw) (.slice Ar i cr) L2 wx)) (fun si _ => i - (intOf si).toNat)
                  case atStart => exact ⟨0, Nat.zero_le _, rfl, HF9⟩
                  case round =>
                    obtain ⟨n, hni, rfl, HJ2⟩ := hrel
                    by_cases hnl : n < i
                    · have hnlI : (n : Int) < (i : Int) := by omega
                      have hn60 : n ≤ 60 := by omega
                      have lk := HJ2.out.j.get_yesB (frM_mem (frG S2 L2) hnl) ⟨by omega, by omega⟩
                      have HNL := Lib.hid hnl
                      clear hnl
                      cases hfn : frG S2 L2 n with
                      | false =>
                        rw [hfn] at lk
                        clear hfn
                        go_wp2_with fail
                        go_roundw
                        case rel => exact ⟨n + 1, by have := HNL.out; omega, by go_num, HJ2⟩
                        case measure => have := HNL.out; simp [intOf]; omega
                      | true =>
                        rw [hfn] at lk
                        by_cases hna : n = a
                        · have hnb : ((n : Int) == (a : Int)) = true := beq_iff_eq.2 (by omega)
                          clear hfn
                          have HNA := Lib.hid hna
                          clear hna
                          go_wp2_with fail
                          go_roundw
                          case rel => exact ⟨n + 1, by have := HNL.out; omega, by go_num, HJ2⟩
                          case measure => have := HNL.out; simp [intOf]; omega
                        · have hnb : ((n : Int) == (a : Int)) = false := beq_eq_false_iff_ne.2 (by omega)
                          obtain ⟨y, hy⟩ : ∃ y, L2[n]? = some y := ⟨_, List.getElem?_eq_getElem (by have := HN.out; have := HNL.out; omega)⟩
                          obtain ⟨gB, cap', cur, hv, _, _, hcap2, _⟩ := HJ2.out.y.row.form (by have := HN.out; have := HNL.out; omega)
                          rw [HN.out] at hv hcap2
                          injection hv with hv1 _ hv3
                          subst hv1
                          subst hv3
                          have hrow := HJ2.out.y.row
                          rw [← HN.out] at hrow
                          have y0 : wr.cell? ⟨gB, n * 4, none⟩ = some (.int .i64 y.id) := hrow.get hy (c := 0) (by omega)
                          have y1 : wr.cell? ⟨gB, n * 4 + 1, none⟩ = some (.string (mkS y.dest)) := hrow.get hy (c := 1) (by omega)
                          have y2 : wr.cell? ⟨gB, n * 4 + 2, none⟩ = some (.int .i64 y.pri) := hrow.get hy (c := 2) (by omega)
                          have y3 : wr.cell? ⟨gB, n * 4 + 3, none⟩ = some (.int .i64 y.at_) := hrow.get hy (c := 3) (by omega)
                          have hX := (HJ2.out.y.kp _ (List.mem_cons_self ..)).1
                          have hA := (HJ2.out.y.kp _ (List.mem_cons_of_mem _ (List.mem_cons_self ..))).1
                          have hbet := HT.out.2.2.2 n y hy hfn hna
                          have yok := (HP.out.1.okl HP.out.2.1 y (List.mem_of_getElem? hy)).1
                          have hnow := HP.out.2.2
                          rw [HP.out.1.age] at hnow
                          obtain ⟨p, hp⟩ : ∃ p, rk y.pri y.at_ nw g = p := ⟨_, rfl⟩
                          obtain ⟨q, hq⟩ : ∃ q, rk x.pri x.at_ nw g = q := ⟨_, rfl⟩
                          rw [hp, hq] at hbet
                          have Ky := fun w => rankB y nw g yok hnow hp w
                          have Kx := fun w => rankB x nw g HP8.out.2.2.1 hnow hq w
                          obtain ⟨YT, F, f0, hf0, hF1, hF2⟩ := cls wr
                          have : Nonempty YT := ⟨f0⟩
                          have hlg : gB < wr.heap.size := cellLt y0
                          have Y0 : ∀ y', (F y').cell? ⟨gB, n * 4, none⟩ = some (.int .i64 y.id) := fun y' => ((hF1 y').cell (p := ⟨gB, n * 4, none⟩) hlg).trans y0
                          have Y1 : ∀ y', (F y').cell? ⟨gB, n * 4 + 1, none⟩ = some (.string (mkS y.dest)) := fun y' => ((hF1 y').cell (p := ⟨gB, n * 4 + 1, none⟩) hlg).trans y1
                          have Y2 : ∀ y', (F y').cell? ⟨gB, n * 4 + 2, none⟩ = some (.int .i64 y.pri) := fun y' => ((hF1 y').cell (p := ⟨gB, n * 4 + 2, none⟩) hlg).trans y2
                          have Y3 : ∀ y', (F y').cell? ⟨gB, n * 4 + 3, none⟩ = some (.int .i64 y.at_) := fun y' => ((hF1 y').cell (p := ⟨gB, n * 4 + 3, none⟩) hlg).trans y3
                          have X0 : ∀ y', (F y').cell? ⟨w7.heap.size, 0, none⟩ = some (.int .i64 x.id) := fun y' => cellOf (((hF1 y').block _ (hlt hX)).trans hX) 0
                          have X1 : ∀ y', (F y').cell? ⟨w7.heap.size, 1, none⟩ = some (.string (mkS x.dest)) := fun y' => cellOf (((hF1 y').block _ (hlt hX)).trans hX) 1
                          have X2 : ∀ y', (F y').cell? ⟨w7.heap.size, 2, none⟩ = some (.int .i64 x.pri) := fun y' => cellOf (((hF1 y').block _ (hlt hX)).trans hX) 2
                          have X3 : ∀ y', (F y').cell? ⟨w7.heap.size, 3, none⟩ = some (.int .i64 x.at_) := fun y' => cellOf (((hF1 y').block _ (hlt hX)).trans hX) 3
                          have A2 : ∀ y', (F y').cell? ⟨X, 2, none⟩ = some (.int .i64 nw) := fun y' => cellOf (((hF1 y').block _ (hlt hA)).trans hA) 2
                          have Cy := Lib.hid (in_cls hF1 hF2 fun w' _ => Ky w')
                          have Cx := Lib.hid (in_cls hF1 hF2 fun w' _ => Kx w')
                          have H1 := Lib.hid hF1
                          have HBT := Lib.hid hbet
                          clear hF1 hF2 Kx Ky hp hq hlg hX hA hbet yok hnow hrow hy hfn hna y0 y1 y2 y3
                          go_wp2_with fail
                          refine region_in (by kernel_rfl) (by kernel_rfl) F f0 hf0 ?_
                          repeat (go_big_quiet_step ((go_at_call 26; first | (with_reducible exact Cx.out _) | (with_reducible exact Cy.out _))))
                          refine wpQuiet_nil ?_
                          rintro _ ⟨z, rfl⟩
                          have HZ0 := Lib.hid (HJ2.out.below (H1.out z))
                          clear X0 X1 X2 X3 Y0 Y1 Y2 Y3 A2 hf0 lk
                          generalize F z = wz at HZ0
                          have hpq : decide (q < p) = false := decide_eq_false (by have := HBT.out; omega)
                          by_cases hpe : p = q
                          · have hpb : (p == q) = true := beq_iff_eq.2 hpe
                            have hni2 : decide ((n : Int) < (a : Int)) = false := decide_eq_false (by have := HBT.out; omega)
                            have hni3 : ¬ n < a := by have := HBT.out; omega
                            clear hpe
                            go_wp2_with fail
                            go_roundw
                            case rel => exact ⟨n + 1, by have := HNL.out; omega, by go_num, HZ0⟩
                            case measure => have := HNL.out; simp [intOf]; omega
                          · have hpb : (p == q) = false := beq_eq_false_iff_ne.2 hpe
                            clear hpe
                            go_wp2_with fail
                            go_roundw
                            case rel => exact ⟨n + 1, by have := HNL.out; omega, by go_num, HZ0⟩
                            case measure => have := HNL.out; simp [intOf]; omega
                    · obtain rfl : n = i := by omega
                      obtain ⟨gB, cap', cur, hv, _, _, hcap2, _⟩ := HJ2.out.y.row.form (by have := HN.out; have := HAJ.out; omega)
                      rw [HN.out] at hv hcap2
                      injection hv with hv1 _ hv3
                      subst hv1
                      subst hv3
                      have hYq := HJ2.out.y.below ((Below.refl wr.heap.size wr).drew)
                      have hrq := hYq.row
                      rw [← HN.out] at hrq
                      obtain ⟨B2, v1, w1, v2, w9, hA2, r1, r2, e2, b2⟩ := cut_et hrq (k := a) (by rw [HN.out]; exact HAJ.out) (by rw [HN.out]; omega) 58
                      rw [HN.out] at r2
                      obtain ⟨N2, hN2⟩ : ∃ n, (L2.eraseIdx a).length = n := ⟨_, rfl⟩
                      obtain ⟨Aw, cw, hv2⟩ := e2.slice
                      rw [hN2] at hv2
                      subst hv2
                      have hYc := hYq.cut b2 e2
                      have x1 := cellOf (hYc.kp _ (List.mem_cons_self ..)).1 1
                      have HYn := Lib.hid (And.intro hYc hN2)
                      obtain ⟨cz, hcz⟩ : ∃ c, cnt (takeQ S2 nw).F x.dest = c := ⟨_, rfl⟩
                      have hfl := flying_h hYc.q x.dest (by have := HP8.out.2.2.2.2; omega)
                      rw [hcz] at hfl
                      have HFl := Lib.hid hfl
                      have hdz : decide (lm < cz) = false := decide_eq_false (by
                        have h1 : cnt (takeQ S2 nw).F x.dest ≤ lm := HP8.out.2.1
                        rw [hcz] at h1
                        omega)
                      have haN := HAJ.out
                      have hj1 : a ≤ cr := by omega
                      have hj2 : a + 1 ≤ n := by omega
                      have hj3 : a + 1 ≤ cr := by omega
                      have hj4 : IntKind.i64.wrap ((a : Int) + 1) = (a : Int) + 1 := by simp [IntKind.wrap, IntKind.bits, IntKind.signed]; omega
                      have hj5 : (0 : Int) ≤ (a : Int) + 1 := by omega
                      have hj6 : (a : Int) + 1 ≤ (n : Int) := by omega
                      have hj7 : ((a : Int) + 1).toNat = a + 1 := by omega
                      clear hYq hrq e2 b2 hYc hN2 hcz hfl
                      go_wp2_with fail
                      go_region_law (first
                        | (refine step_app_run rfl (.tmp 187) (.tmp 190) 58 rfl _ _ _ (by simp [Act.eval]) (by simp [Act.eval]) r1 ?_)
                        | (refine step_app_run rfl (.tmp 191) (.tmp 195) 58 rfl _ _ _ (by simp [Act.eval]) (by simp [Act.eval]) r2 ?_))
                      go_wp2_with fail
                      refine HFl.out.mono ?_
                      rintro e w10 ⟨rfl, rfl⟩
                      clear r1 r2 hA2
                      go_wp2_with fail
                      refine (HYn.out.1.less.lenN HP8.out.1 HYn.out.2).mono ?_
                      rintro e w11 ⟨rfl, rfl⟩
                      go_wp2_with fail
                      go_roundw
                      case rel => exact ⟨k + 1, by have := HLT.out; omega, by go_num, Lib.hid ⟨_, _, _, HYn.out.1.less, HP8.out.1⟩⟩
                      case measure => have := HLT.out; simp [intOf]; omega
      have f1 : (kd == 1) = false := beq_eq_false_iff_ne.2 q1
      by_cases q2 : kd = 2
      · subst q2
        go_wp2_with fail
        generalize wr.alloc (.cells #[.int .i64 2, .int .i64 ai, .int .i64 nw, .int .i64 xi, .string (mkS xd), .int .i64 xp, .int .i64 xa] 36) = w4 at HY
        generalize wr.heap.size = X at HY HGX
        refine (done_h HY.out.1.q ai HNx.out.1).mono ?_
        rintro e wc ⟨rfl, hq3, hs3⟩
        have HYn := Lib.hid (And.intro (HY.out.1.step hq3 hs3).less (HY.out.2.done ai))
        clear hq3 hs3 c0 c1 c2 c3 c4 c5 c6
        go_wp2_with fail
        refine (HYn.out.1.lenN HYn.out.2 HN.out).mono ?_
        rintro e w7 ⟨rfl, rfl⟩
        go_wp2_with fail
        go_roundw
        case rel => exact ⟨k + 1, by have := HLT.out; omega, by go_num, Lib.hid ⟨_, _, _, HYn.out.1, HYn.out.2⟩⟩
        case measure => have := HLT.out; simp [intOf]; omega
      have f2 : (kd == 2) = false := beq_eq_false_iff_ne.2 q2
      by_cases q3 : kd = 3
      · subst q3
        go_wp2_with fail
        generalize wr.alloc (.cells #[.int .i64 3, .int .i64 ai, .int .i64 nw, .int .i64 xi, .string (mkS xd), .int .i64 xp, .int .i64 xa] 36) = w4 at HY
        generalize wr.heap.size = X at HY HGX
        refine (remove_h HY.out.1.q ai).mono ?_
        rintro e wc ⟨rfl, hq3, hs3⟩
        have HP3 := Lib.hid (And.intro (HY.out.2.remove ai) (And.intro (HY.out.2.ids HY.out.1.q.ok) (HY.out.2.okl HY.out.1.q.ok)))
        have HY3 := Lib.hid (HY.out.1.step hq3 hs3)
        clear hq3 hs3 c0 c1 c2 c3 c4 c5 c6
        go_wp2_with fail
        go_loopw [9, 21] (fun sv si wx => ∃ (j N' : Nat) (Aj : Option Addr) (cj : Nat), N' ≤ N ∧ j ≤ N ∧ sv = .slice Aj N' cj ∧ si = .int .i64 j ∧ Hid (∃ L, L.length = N' ∧ FY w O2 b [(X, .cells #[.int .i64 3, .int .i64 ai, .int .i64 nw, .int .i64 xi, .string (mkS xd), .int .i64 xp, .int .i64 xa] 36 (0, 0))] (removeQ S2 ai) (.slice Aj N' cj) L wx ∧ (∀ gg, (Value.slice Aj N' cj).ownBlock = some gg → gg ≠ X) ∧ ((L = L2 ∧ ∀ (i : Nat) (y : Et), i < j → L2[i]? = some y → y.id ≠ ai) ∨ L = L2.filter fun y => y.id != ai))) (fun _ si _ => N - (intOf si).toNat)
        case atStart => exact ⟨0, N, Ar, cr, Nat.le_refl _, Nat.zero_le _, rfl, rfl, Lib.hid ⟨L2, HN.out, HY3.out, fun gg hg => by have := HGX.out gg hg; omega, .inl ⟨rfl, fun i y h => by omega⟩⟩⟩
        case round =>
          obtain ⟨j, N', Aj, cj, hN', hjN, rfl, rfl, HJ⟩ := hrel
          have hN60 : N' ≤ 60 := by omega
          have hj60 : j ≤ 60 := by omega
          by_cases hjl : j < N'
          · have HJL := Lib.hid hjl
            obtain ⟨L, hL, hY, hnX, hor⟩ := HJ.out
            obtain ⟨y, hy⟩ : ∃ y, L[j]? = some y := ⟨_, List.getElem?_eq_getElem (by omega)⟩
            obtain ⟨gB, cap', cur, hv, _, _, hcap2, _⟩ := hY.row.form (by omega)
            rw [hL] at hv hcap2
            injection hv with hv1 _ hv3
            subst hv1
            subst hv3
            have hrow := hY.row
            rw [← hL] at hrow
            have y0 : wr.cell? ⟨gB, j * 4, none⟩ = some (.int .i64 y.id) := hrow.get hy (c := 0) (by omega)
            have a1 := cellOf (hY.kp _ (List.mem_cons_self ..)).1 1
            have hjI : (j : Int) < (N' : Int) := by omega
            have hcc : N' ≤ cj := hcap2
            by_cases hid : y.id = ai
            · have hib : (y.id == ai) = true := beq_iff_eq.2 hid
              have HE := Lib.hid hid
              clear hid
              go_wp2_with fail
              go_quiet (fail)
              have hYq := hY.below (below_drewN (Below.refl wr.heap.size wr) (nq + 1))
              rw [show wr.drewN (nq + 1) = (wr.drewN nq).drew from rfl] at hYq
              generalize wr.drewN nq = wq at hYq
              go_wp2_with fail
              have hrq := hYq.row
              rw [← hL] at hrq
              obtain ⟨A2, v1, w1, v2, w2, hA2, r1, r2, e2, b2⟩ := cut_et hrq (k := j) (by omega) (by omega) 58
              rw [hL] at r2
              have hj1 : j ≤ cj := by omega
              have hj2 : j + 1 ≤ N' := by omega
              have hj3 : j + 1 ≤ cj := by omega
              have hj4 : IntKind.i64.wrap ((j : Int) + 1) = (j : Int) + 1 := by simp [IntKind.wrap, IntKind.bits, IntKind.signed]; omega
              have hj5 : (0 : Int) ≤ (j : Int) + 1 := by omega
              have hj6 : (j : Int) + 1 ≤ (N' : Int) := by omega
              have hj7 : ((j : Int) + 1).toNat = j + 1 := by omega
              have hyi : (L.map Et.id).Nodup ∧ L.eraseIdx j = L2.filter fun z => z.id != ai := by
                rcases hor with h | h
                · have hn := HP3.out.2.1
                  rw [← h.1] at hn
                  refine ⟨hn, ?_⟩
                  rw [erase_ent hn hy, HE.out, h.1]
                · exfalso
                  have := List.mem_of_getElem? hy
                  rw [h] at this
                  have := (List.mem_filter.1 this).2
                  rw [HE.out] at this
                  simp at this
              obtain ⟨N2, hN2⟩ : ∃ n, (L.eraseIdx j).length = n := ⟨_, rfl⟩
              have hN3 : N2 + 1 = N' := by rw [← hN2, List.length_eraseIdx_of_lt (by omega), hL]; omega
              obtain ⟨Aw, cw, hv2⟩ := e2.slice
              rw [hN2] at hv2
              subst hv2
              have hlX := hlt (hYq.kp _ (List.mem_cons_self ..)).1
              have HYn := Lib.hid (And.intro (hYq.cut b2 e2) (And.intro (show ∀ gg, (Value.slice Aw N2 cw).ownBlock = some gg → gg ≠ X from fun gg hg e => by have := (e2.lt hg).1; omega) (And.intro hyi.2 hN2)))
              have HN3 := Lib.hid hN3
              clear hyi hN2 hN3 hlX e2 b2 hYq hrq hor hnX hY hrow hL hy y0 a1 hib
              go_region_law (first
                | (refine step_app_run rfl (.tmp 229) (.tmp 232) 58 rfl _ _ _ (by simp [Act.eval]) (by simp [Act.eval]) r1 ?_)
                | (refine step_app_run rfl (.tmp 233) (.tmp 237) 58 rfl _ _ _ (by simp [Act.eval]) (by simp [Act.eval]) r2 ?_))
              go_wp2_with fail
              go_roundw
              case rel => exact ⟨j + 1, N2, Aw, cw, by have := HN3.out; omega, by omega, rfl, by go_num, Lib.hid ⟨_, HYn.out.2.2.2, HYn.out.1, HYn.out.2.1, .inr HYn.out.2.2.1⟩⟩
              case measure => have := HJL.out; simp [intOf]; omega
            · have hib : (y.id == ai) = false := beq_eq_false_iff_ne.2 hid
              have HE := Lib.hid hid
              clear hid
              have HJY := Lib.hid (And.intro hY (And.intro hnX hor))
              have HLy := Lib.hid (And.intro hL hy)
              clear hY hnX hor hrow hL hy
              go_wp2_with fail
              go_quiet (fail)
              go_wp2_with fail
              go_roundw
              case rel => exact ⟨j + 1, N', _, cj, hN', by omega, rfl, by go_num, Lib.hid ⟨L, HLy.out.1, HJY.out.1.below (below_drewN (Below.refl wr.heap.size wr) _), HJY.out.2.1, HJY.out.2.2.elim (fun h => .inl ⟨h.1, fun i z hi hz => by
                by_cases e : i = j
                · subst e
                  have := HLy.out.2
                  rw [h.1, hz] at this
                  cases this
                  exact HE.out
                · exact h.2 i z (by omega) hz⟩) .inr⟩⟩
              case measure => have := HJL.out; simp [intOf]; omega
          · obtain ⟨L, hL, hY, hnX, hor⟩ := HJ.out
            have hLf : L = L2.filter fun y => y.id != ai := hor.elim (fun h => by
              rw [h.1]
              symm
              rw [List.filter_eq_self]
              intro z hz
              obtain ⟨i, hi⟩ := List.mem_iff_getElem?.1 hz
              have hil := (List.getElem?_eq_some_iff.1 hi).1
              have := h.2 i z (by rw [h.1] at hL; omega) hi
              simpa using this) id
            subst hLf
            have HYn := Lib.hid (And.intro hY.less (And.intro HP3.out.1 hL))
            clear hY hnX hor hL
            go_wp2_with fail
            refine (HYn.out.1.lenN HYn.out.2.1 HYn.out.2.2).mono ?_
            rintro e w7 ⟨rfl, rfl⟩
            go_wp2_with fail
            go_roundw
            case rel => exact ⟨k + 1, by have := HLT.out; omega, by go_num, Lib.hid ⟨_, _, _, HYn.out.1, HYn.out.2.1⟩⟩
            case measure => have := HLT.out; simp [intOf]; omega
      have f3 : (kd == 3) = false := beq_eq_false_iff_ne.2 q3
      go_wp2_with fail
      generalize wr.alloc (.cells #[.int .i64 kd, .int .i64 ai, .int .i64 nw, .int .i64 xi, .string (mkS xd), .int .i64 xp, .int .i64 xa] 36) = w4 at HY
      have HYn := Lib.hid (And.intro HY.out.1.less HY.out.2.next)
      refine (HYn.out.1.lenN HYn.out.2 HN.out).mono ?_
      rintro e w7 ⟨rfl, rfl⟩
      go_wp2_with fail
      go_roundw
      case rel => exact ⟨k + 1, by have := HLT.out; omega, by go_num, Lib.hid ⟨_, _, _, HYn.out.1, HYn.out.2⟩⟩
      case measure => have := HLT.out; simp [intOf]; omega
    · obtain rfl : k = M := by omega
      obtain ⟨O2, S2, L2, hY, hP⟩ := HI.out
      have HB := Lib.hid hY.q.below
      clear hY hP
      go_wp2_with fail
      go_ret
      exact ⟨rfl, HB.out⟩
theorem readyFirst_row (g lm : Int) (v : Value) (l : List Ac) (w : World) (_ : IntKind.i64.min ≤ g) (_ : g ≤ IntKind.i64.max) (_ : IntKind.i64.min ≤ lm) (_ : lm ≤ IntKind.i64.max) (hv : ActsAt w v l) :
    Calls Try.prog 5 #[.int .i64 g, .int .i64 lm, v] w fun e w' => e = .returned (.bool true) ∧ Below w.heap.size w w' := by
  cases h : rangeF (fewA l) g lm with
  | false => exact readyFirst_yes g lm v l w hv h
  | true => exact readyFirst_no g lm v l w hv h
end Go.Proofs.Ytdfihhjnbikimaa
