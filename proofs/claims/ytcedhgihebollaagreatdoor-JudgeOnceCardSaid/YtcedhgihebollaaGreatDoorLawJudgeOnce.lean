/-
  The walk of JudgeOnce.
-/
import Derived.Test.YtcedhgihebollaaGreatDoorMaEvD
import Derived.Test.YtcedhgihebollaaGreatDoorJgTry
import Derived.Test.YtcedhgihebollaaGreatDoorJgOnceM
import Derived.Test.YtcedhgihebollaaGreatDoorJgInts
import Derived.Test.YtcedhgihebollaaGreatDoorJgAw
import Derived.StillTailTactics
import Derived.Deep.Cut
namespace Go.Proofs.YtcedhgihebollaaGreatDoor.E.J
set_option maxRecDepth 100000
open Go.RowKit Go.Shelf
/-- The law's boxes: plan, message, status, the map of what was told. -/
structure OI (W : World) (p : PJ) (x : EM) (vr vl : Value) (g m : Nat) (pl : Int) (k : Nat) (t : ST) (w : World) : Prop where
  b : PB W p x vr vl w
  t_ : w.heap[g]? = some (.cells (TC t) 41 (0, 0))
  gt : W.heap.size + 1 < g
  map : ∃ a b c n, t.told = bitsJ a b c ∧ n ≤ k ∧ MapIs w m n (mF a b c)
  mt : g < m
  pl_ : t.pl = pl
  tr : 0 ≤ t.tr ∧ t.tr ≤ k
theorem OI.next {W w w' : World} {p : PJ} {x : EM} {vr vl : Value} {g m : Nat} {pl : Int} {k : Nat} {t : ST} (h : OI W p x vr vl g m pl k t w) (hb : Below w.heap.size w w') : OI W p x vr vl g m pl k t w' := by
  obtain ⟨a, b, c, n, h1, h2, h3⟩ := h.map
  exact ⟨h.b.next hb, (hb.block _ (ltOf h.t_)).trans h.t_, h.gt, ⟨a, b, c, n, h1, h2, h3.block (hb.block _ h3.lt)⟩, h.mt, h.pl_, h.tr⟩
theorem OI.more {W w : World} {p : PJ} {x : EM} {vr vl : Value} {g m : Nat} {pl : Int} {k : Nat} {t : ST} (h : OI W p x vr vl g m pl k t w) : OI W p x vr vl g m pl (k + 1) t w := by
  obtain ⟨a, b, c, n, h1, h2, h3⟩ := h.map
  exact ⟨h.b, h.t_, h.gt, ⟨a, b, c, n, h1, by omega, h3⟩, h.mt, h.pl_, h.tr.1, by have := h.tr.2; omega⟩
/-- Within a round: what the status was, too. -/
structure OA (W : World) (p : PJ) (x : EM) (vr vl : Value) (g m g2 k : Nat) (u : Int) (t T : ST) (w : World) : Prop where
  b : PB W p x vr vl w
  t_ : w.heap[g]? = some (.cells (TC T) 41 (0, 0))
  q : w.heap[g2]? = some (.cells (TC t) 41 (0, 0))
  gt : W.heap.size + 1 < g
  map : ∃ a b c n, u = bitsJ a b c ∧ n ≤ k ∧ MapIs w m n (mF a b c)
  mt : g < m
  lt : m < g2
theorem OA.next {W w w' : World} {p : PJ} {x : EM} {vr vl : Value} {g m g2 k : Nat} {u : Int} {t T : ST} (h : OA W p x vr vl g m g2 k u t T w) (hb : Below w.heap.size w w') : OA W p x vr vl g m g2 k u t T w' := by
  obtain ⟨a, b, c, n, h1, h2, h3⟩ := h.map
  exact ⟨h.b.next hb, (hb.block _ (ltOf h.t_)).trans h.t_, (hb.block _ (ltOf h.q)).trans h.q, h.gt, ⟨a, b, c, n, h1, h2, h3.block (hb.block _ h3.lt)⟩, h.mt, h.lt⟩
theorem OA.set {W w w' : World} {p : PJ} {x : EM} {vr vl : Value} {g m g2 k : Nat} {u : Int} {t T T' : ST} (h : OA W p x vr vl g m g2 k u t T w) (hg : w'.heap[g]? = some (.cells (TC T') 41 (0, 0))) (hA : Apart g w.heap.size w w') : OA W p x vr vl g m g2 k u t T' w' := by
  obtain ⟨a, b, c, n, h1, h2, h3⟩ := h.map
  have l1 := h.gt; have l2 := h.mt; have l3 := h.lt
  refine ⟨⟨(hA.block _ (ltOf h.b.pb) (by omega)).trans h.b.pb, (hA.block _ (ltOf h.b.mb) (by omega)).trans h.b.mb, h.b.below.trans (hA.below h.b.below.size (by omega))⟩, hg, (hA.block _ (ltOf h.q) (by omega)).trans h.q, h.gt, ⟨a, b, c, n, h1, h2, h3.block (hA.block _ h3.lt (by omega))⟩, h.mt, h.lt⟩
theorem OA.put {W w w' : World} {p : PJ} {x : EM} {vr vl : Value} {g m g2 k k' n : Nat} {u u' : Int} {t T : ST} {a b c : Bool} (h : OA W p x vr vl g m g2 k u t T w) (hg : w.grownBy w' (some m)) (hu : u' = bitsJ a b c) (hn : n ≤ k') (hm : MapIs w' m n (mF a b c)) : OA W p x vr vl g m g2 k' u' t T w' := by
  have l1 := h.gt; have l2 := h.mt; have l3 := h.lt
  exact ⟨⟨(hg.block _ (ltOf h.b.pb) (fun e => by injection e with e; omega)).trans h.b.pb, (hg.block _ (ltOf h.b.mb) (fun e => by injection e with e; omega)).trans h.b.mb, h.b.below.grown hg h.b.below.size (fun j hj => by injection hj with hj; omega)⟩, (hg.block _ (ltOf h.t_) (fun e => by injection e with e; omega)).trans h.t_, (hg.block _ (ltOf h.q) (fun e => by injection e with e; omega)).trans h.q, h.gt, ⟨a, b, c, n, hu, hn, hm⟩, h.mt, h.lt⟩
theorem OA.oi {W w : World} {p : PJ} {x : EM} {vr vl : Value} {g m g2 k : Nat} {pl : Int} {t T : ST} (h : OA W p x vr vl g m g2 k T.told t T w) (hp : T.pl = pl) (ht : 0 ≤ T.tr ∧ T.tr ≤ k) : OI W p x vr vl g m pl k T w := ⟨h.b, h.t_, h.gt, h.map, h.mt, hp, ht⟩
theorem jstep_load {op : Oper} {a : Act} {w : World} {ops : Array Oper} {K : Act → World → Prop} {Q : Exit → Act → World → Prop} {E : Prop} (hgd : op.guard = none) (ty : TypeId) (x : Operand) (ho : op.op = .load ty x) (ad : Addr) (v : Value) (hx : a.eval x = .pointer (some ad)) (hl : (loadVar ty ad).run Tryz.prog w = .ok v w)
    (h : K (a.put op.dst v) w) : if Region.wanted op (yielded ops a.tmps) = true then Oper.wp Tryz.prog op a w K Q else E := by
  rw [if_pos (by simp [Region.wanted, hgd])]
  unfold Oper.wp
  rw [jload_op op ⟨ho, hx⟩ hl]
  exact h
set_option linter.unusedSimpArgs false
set_option maxHeartbeats 16000000 in
theorem once_x (hA : ∀ w, Calls Tryz.prog 7 #[] w fun e w' => e = .returned (.bool true) ∧ Below w.heap.size w w') (p : PJ) (x : EM) (vr vl : Value) (pl : Int) (vt : Value) (ts : List Int) (vo : Value) (os : List Int) (w : World) (hE : EAt w x vr vl) (hS : ShE x) (hT : RowAt w vt (intsV ts)) (hO : RowAt w vo (intsV os)) (hR : Rdy w) :
    Calls Tryz.prog 3 #[plA p, msA x vr vl, .int .i64 pl, vt, vo] w fun e w' => e = .returned (.bool true) ∧ Below w.heap.size w w' := by
  have HE := Lib.hid hE
  obtain ⟨ra, rcap, rfl, _, _, hrc⟩ := hE.rc
  obtain ⟨ta, tcap, rfl, _, htx⟩ := hT
  obtain ⟨oa, ocap, rfl, _, hox⟩ := hO
  have htl : (intsV ts).length = ts.length := by simp [intsV]
  have hol : (intsV os).length = os.length := by simp [intsV]
  rw [htl, hol]
  have HTX := Lib.hid (show ∀ (i : Nat) (n : Int), ts[i]? = some n → ∃ A, ta = some A ∧ A.block < w.heap.size ∧ w.cell? (A.add i) = some (.int .i64 n) from fun i n hi => htx i _ (by rw [intsV, List.getElem?_map, hi]; rfl))
  have HOX := Lib.hid (show ∀ (i : Nat) (n : Int), os[i]? = some n → ∃ A, oa = some A ∧ A.block < w.heap.size ∧ w.cell? (A.add i) = some (.int .i64 n) from fun i n hi => hox i _ (by rw [intsV, List.getElem?_map, hi]; rfl))
  have H0 := Lib.hid (PB.new w p x (.slice ra x.rc.length rcap) vl)
  have HA := Lib.hid hA
  have HS := Lib.hid hS
  have HR := Lib.hid hR
  have HRC := Lib.hid hrc
  clear hA hE hS hR hrc htx hox htl hol
  generalize hrn : x.rc.length = rn at *
  generalize hN : ts.length = N at *
  generalize hM : os.length = M at *
  have HRN := Lib.hid hrn
  have HN := Lib.hid hN
  have HMN := Lib.hid hM
  clear hrn hN hM
  go_enter Tryz.func3, Tryz.ntmps3
  go_wp2_with fail
  refine (HA.out _).mono ?_
  rintro r w1 ⟨rfl, hb⟩
  have H1 := Lib.hid (H0.out.next hb)
  clear hb H0 HA
  go_wp2_with (((with_reducible refine jis_load (ty := 33) (x := .tmp 6) rfl ?_); refine jload ?_ 33 (.tmp 6) rfl (w.heap.size + 1) 0 33 (EC x (.slice ra rn rcap) vl) (EC x (.slice ra rn rcap) vl) _ rfl H1.out.mb Tryz.underlying33 rfl size_msg (fun j _ => by rw [Nat.zero_add]) ?_; (focus (first | rfl | (go_simp; done)))))
  refine (msmall_x x _ vl _ (HE.out.below H1.out.below) HS.out).mono ?_
  rintro r w2 ⟨q, rfl, hq, hb⟩
  have H2 := Lib.hid (H1.out.next hb)
  have HQ := Lib.hid hq
  clear hb H1 hq
  cases q with
  | false =>
    go_wp2_with fail
    go_ret
    exact ⟨rfl, H2.out.below⟩
  | true =>
  have HF := Lib.hid (HQ.out rfl)
  clear HQ
  rcases Bool.eq_false_or_eq_true (decide ((100 : Int) < (N : Int))) with n1 | n1
  · go_wp2_with fail
    go_ret
    exact ⟨rfl, H2.out.below⟩
  rcases Bool.eq_false_or_eq_true (decide ((1000 : Int) < (M : Int))) with n2 | n2
  · go_wp2_with fail
    go_ret
    exact ⟨rfl, H2.out.below⟩
  go_wp2_with (((with_reducible refine jis_load (ty := 23) (x := .tmp 5) rfl ?_); refine jload ?_ 23 (.tmp 5) rfl (w.heap.size) 0 23 #[.int .i64 p.base, .int .i64 p.most, .int .i64 p.life, .int .i64 p.warn] #[.int .i64 p.base, .int .i64 p.most, .int .i64 p.life, .int .i64 p.warn] _ rfl H2.out.pb Tryz.underlying23 rfl jsize_plan (fun j _ => by rw [Nat.zero_add]) ?_; (focus (first | rfl | (go_simp; done)))))
  refine (jright_x p _).mono ?_
  rintro r w3 ⟨rfl, hb⟩
  have H3 := Lib.hid (H2.out.next hb)
  clear hb H2
  have HNN := Lib.hid (show N ≤ 100 by have := of_decide_eq_false n1; omega)
  clear n1 n2
  by_cases hok : okP p = true
  case neg =>
    rw [if_neg hok]
    go_wp2_with fail
    go_ret
    exact ⟨rfl, H3.out.below⟩
  rw [if_pos hok]
  have HOK := Lib.hid hok
  clear hok
  go_wp2_with (((with_reducible refine jis_load (ty := 33) (x := .tmp 6) rfl ?_); refine jload ?_ 33 (.tmp 6) rfl (w.heap.size + 1) 0 33 (EC x (.slice ra rn rcap) vl) (EC x (.slice ra rn rcap) vl) _ rfl H3.out.mb Tryz.underlying33 rfl size_msg (fun j _ => by rw [Nat.zero_add]) ?_; (focus (first | rfl | (go_simp; done)))))
  refine (right_x x _ vl _ (HE.out.below H3.out.below) HF.out.fit (HR.out.below H3.out.below)).mono ?_
  rintro r w4 ⟨rfl, hb⟩
  have H4 := Lib.hid (H3.out.next hb)
  clear hb H3
  by_cases hen : enE x = 0
  case neg =>
    have he : (enE x == 0) = false := by simpa using hen
    have he2 : (enE x != 0) = true := by simpa using hen
    clear hen
    go_wp2_with fail
    go_ret
    exact ⟨rfl, H4.out.below⟩
  rw [hen]
  have HEN := Lib.hid (en_iff.1 hen)
  clear hen
  have cr : w4.cell? ⟨w.heap.size + 1, 19, none⟩ = some (.slice ra rn rcap) := cellOf H4.out.mb 19
  rcases Bool.eq_false_or_eq_true (decide (pl < 0)) with p1 | p1
  · go_wp2_with fail
    go_ret
    exact ⟨rfl, H4.out.below⟩
  rcases Bool.eq_false_or_eq_true (decide ((rn : Int) ≤ pl)) with p2 | p2
  · go_wp2_with fail
    go_ret
    exact ⟨rfl, H4.out.below⟩
  have HP := Lib.hid (⟨by have := of_decide_eq_false p1; omega, by have := of_decide_eq_false p2; rw [HRN.out]; omega⟩ : 0 ≤ pl ∧ pl < x.rc.length)
  go_upto_region 5 with fail
  clear p1 p2 cr
  obtain ⟨q, rfl⟩ : ∃ q : Nat, pl = q := ⟨pl.toNat, by have := HP.out.1; omega⟩
  have cre : w4.cell? ⟨w.heap.size + 1, 2, none⟩ = some (.int .i64 x.rel) := cellOf H4.out.mb 2
  go_upto_region 6 with (first | (refine wpList_store_blk rfl 41 (.tmp 11) (.tmp 59) rfl w4.heap.size 0 41 (TC zeroT) (TC ⟨(q : Int), [82], 0, x.rel, 0⟩) (TC ⟨(q : Int), [82], 0, x.rel, 0⟩) rfl rfl (newOf w4 _) jsize_st (one_TC _) (Nat.le_of_eq rfl) (whole_TC _ _ rfl) ?_; intro w5 hB5 hA5))
  have H5 := Lib.hid (And.intro (H4.out.next (far_apart hA5)) (And.intro hB5 (show w.heap.size + 1 < w4.heap.size from ltOf H4.out.mb)))
  clear hA5 hB5 H4 cre
  generalize w4.heap.size = g at *
  have hmm := @run_makeMap Tryz.prog
  go_upto_region 7 with fail
  have H6 := Lib.hid (show OI w p x (.slice ra rn rcap) vl g w5.heap.size q 0 ⟨(q : Int), [82], 0, x.rel, 0⟩ (w5.alloc (.map #[] 0)) from ⟨H5.out.1.next (below_box w5 _), ((below_box w5 _).block _ (ltOf H5.out.2.1)).trans H5.out.2.1, H5.out.2.2, ⟨false, false, false, 0, rfl, Nat.le_refl _, (MapIs.made w5).congr (fun s => by unfold mF; simp)⟩, ltOf H5.out.2.1, rfl, ⟨Int.le_refl _, Int.le_refl _⟩⟩)
  clear hmm H5
  generalize w5.alloc (.map #[] 0) = w6 at *
  generalize w5.heap.size = m at *
  have HB := Lib.hid (ok_bd HEN.out)
  go_wp2_with fail
  go_loopw [13] (fun i wr => ∃ k : Nat, k ≤ N ∧ i = .int .i64 k ∧ Hid (∃ t, OI w p x (.slice ra rn rcap) vl g m q k t wr)) (fun i _ => N - (intOf i).toNat)
  case atStart => exact ⟨0, Nat.zero_le _, rfl, Lib.hid ⟨_, H6.out⟩⟩
  case round =>
    obtain ⟨k, hk, rfl, HV⟩ := hrel
    obtain ⟨t, h3⟩ := HV.out
    have HL := Lib.hid h3
    clear h3 HV H6
    by_cases hlt : k < N
    rotate_left
    · go_wp2_with fail
      go_ret
      exact ⟨rfl, HL.out.b.below⟩
    obtain ⟨now, hnow⟩ : ∃ n, ts[k]? = some n := ⟨_, List.getElem?_eq_getElem (by have := HN.out; omega)⟩
    obtain ⟨ta, rfl, hab, hac⟩ := HTX.out k now hnow
    have HTC := Lib.hid (fun w' (h : Below w.heap.size w w') => (h.cell (by rw [add_block]; exact hab)).trans hac)
    have ct := HTC.out _ HL.out.b.below
    have hkl : (k : Int) < (N : Int) := by omega
    have hk0 : (0 : Int) ≤ (k : Int) := by omega
    have HK := Lib.hid (And.intro hlt HNN.out)
    have hk100 : k < 100 := by have := HNN.out; omega
    clear hnow hab hac
    rcases Bool.eq_false_or_eq_true (decide (now < 0)) with n1 | n1
    · go_wp2_with fail
      go_roundw
      case rel => exact ⟨k + 1, by omega, by go_num, Lib.hid ⟨t, HL.out.more⟩⟩
      case measure => simp [intOf]; omega
    rcases Bool.eq_false_or_eq_true (decide ((1099511627776 : Int) < now)) with n2 | n2
    · go_wp2_with fail
      go_roundw
      case rel => exact ⟨k + 1, by omega, by go_num, Lib.hid ⟨t, HL.out.more⟩⟩
      case measure => simp [intOf]; omega
    have HNW := Lib.hid (⟨by have := of_decide_eq_false n1; omega, by have := of_decide_eq_false n2; omega⟩ : 0 ≤ now ∧ now ≤ 1099511627776)
    go_upto_region 11 with fail
    clear n1 n2 ct
    go_upto_region 12 with (first | ((with_reducible refine jis_load (ty := 41) (x := .tmp 11) rfl ?_); refine jload ?_ 41 (.tmp 11) rfl (g) 0 41 (TC t) #[.int .i64 (t).pl, .string (mkS (t).st), .int .i64 (t).tr, .int .i64 (t).ne, .int .i64 (t).told] _ rfl HL.out.t_ Tryz.underlying41 rfl jsize_st (fun j _ => by rw [Nat.zero_add]; rfl) ?_; (focus (first | rfl | (go_simp; done)))) | (refine wpList_store_blk rfl 41 (.tmp 14) (.tmp 79) rfl wr.heap.size 0 41 (TC zeroT) (TC t) (TC t) rfl rfl (newOf wr _) jsize_st (one_TC _) (Nat.le_of_eq rfl) (whole_TC _ _ rfl) ?_; intro w7 hB7 hA7))
    have H7 := Lib.hid (And.intro (HL.out.next (far_apart hA7)) (And.intro hB7 (show m < wr.heap.size by obtain ⟨_, _, _, _, _, _, h⟩ := HL.out.map; exact h.lt)))
    clear hA7 hB7 HL
    generalize wr.heap.size = g2 at *
    go_upto_region 14 with fail
    obtain ⟨o, HO1⟩ : ∃ o, Hid (k < M → os[k]? = some o) := by
      by_cases h : k < M
      · exact ⟨_, Lib.hid fun _ => List.getElem?_eq_getElem (by rw [HMN.out]; exact h)⟩
      · exact ⟨0, Lib.hid fun h' => absurd h' h⟩
    obtain ⟨Q, hQ⟩ : ∃ Q, Q = (decide ((k : Int) < (M : Int)) && ((o == 0) || (decide (2 ≤ o) && decide (o ≤ 5)))) := ⟨_, rfl⟩
    have HQ := Lib.hid hQ
    clear hQ
    go_cut [104] from 80 to 104 (fun c wc => c = .bool Q ∧ wc = w7)
    case first =>
      by_cases d1 : k < M
      rotate_left
      · have HV := Lib.hid (show Q = false by rw [HQ.out, decide_eq_false (show ¬ (k : Int) < (M : Int) by omega)]; rfl)
        go_wp2_with fail
        go_meet
        case rel => exact ⟨congrArg Value.bool HV.out.symm, rfl⟩
      obtain ⟨oa, rfl, hab, hac⟩ := HOX.out k o (HO1.out d1)
      have co := (H7.out.1.b.below.cell (by rw [add_block]; exact hab)).trans hac
      have HV1 := Lib.hid (show Q = ((o == 0) || (decide (2 ≤ o) && decide (o ≤ 5))) by rw [HQ.out, decide_eq_true (show (k : Int) < (M : Int) by omega)]; rfl)
      have d1i : (k : Int) < (M : Int) := by omega
      clear hab hac
      rcases Bool.eq_false_or_eq_true (o == 0) with d2 | d2
      · have HV := Lib.hid (show Q = true by rw [HV1.out, d2]; rfl)
        go_wp2_with fail
        go_meet
        case rel => exact ⟨congrArg Value.bool HV.out.symm, rfl⟩
      rcases Bool.eq_false_or_eq_true (decide (2 ≤ o)) with d3 | d3
      rotate_left
      · have HV := Lib.hid (show Q = false by rw [HV1.out, d2, d3]; rfl)
        go_wp2_with fail
        go_meet
        case rel => exact ⟨congrArg Value.bool HV.out.symm, rfl⟩
      rcases Bool.eq_false_or_eq_true (decide (o ≤ 5)) with d4 | d4
      · have HV := Lib.hid (show Q = true by rw [HV1.out, d2, d3, d4]; rfl)
        go_wp2_with fail
        go_meet
        case rel => exact ⟨congrArg Value.bool HV.out.symm, rfl⟩
      · have HV := Lib.hid (show Q = false by rw [HV1.out, d2, d3, d4]; rfl)
        go_wp2_with fail
        go_meet
        case rel => exact ⟨congrArg Value.bool HV.out.symm, rfl⟩
    case rest =>
    obtain ⟨rfl, hwc⟩ := hcut
    rw [hwc]
    clear hwc
    obtain ⟨E0, HE0⟩ : ∃ E0 : Int, Hid ((t.st = [82] → E0 = 0) ∧ (t.st ≠ [82] → E0 = 9)) := by
      by_cases h : t.st = [82]
      · exact ⟨0, Lib.hid ⟨fun _ => rfl, fun h' => absurd h h'⟩⟩
      · exact ⟨9, Lib.hid ⟨fun h' => absurd h' h, fun _ => rfl⟩⟩
    have HTR := Lib.hid (show 0 ≤ t.tr ∧ t.tr ≤ 900 from ⟨H7.out.1.tr.1, by have := H7.out.1.tr.2; omega⟩)
    have HTO := Lib.hid (show 0 ≤ t.told ∧ t.told ≤ 7 by obtain ⟨a, b, c, n, h1, _⟩ := H7.out.1.map; rw [h1]; exact bits_le a b c)
    have HPL := Lib.hid (show 0 ≤ t.pl ∧ t.pl < x.rc.length by rw [H7.out.1.pl_]; exact HP.out)
    have HTP := Lib.hid (And.intro H7.out.1.pl_ H7.out.1.tr.2)
    have H8 := Lib.hid (show OA w p x (.slice ra rn rcap) vl g m g2 k t.told t t w7 from ⟨H7.out.1.b, H7.out.1.t_, H7.out.2.1, H7.out.1.gt, H7.out.1.map, H7.out.1.mt, H7.out.2.2⟩)
    clear H7
    go_upto_if 104 with fail
    go_cut [15, 16] from 105 to 158 (fun v e wc => ∃ (T : ST) (L : List Txt) (A : Option Addr) (c : Nat), v = .slice A L.length c ∧ e = .int .i64 E0 ∧ Hid (OA w p x (.slice ra rn rcap) vl g m g2 k t.told t T wc ∧ TxtsAt wc (.slice A L.length c) L ∧ AF p x t T L now))
    case first =>
     as_aux_lemma =>
      have Gd := Lib.hid (H8.out.next (Below.refl _ w7).drew)
      have ct := HTC.out _ Gd.out.b.below
      cases Q
      · have HAF := Lib.hid (time_af (p := p) (x := x) (t := t) (now := now) HOK.out HNW.out HPL.out HTR.out)
        have HSS := Lib.hid (fun wr (h : PB w p x (.slice ra rn rcap) vl wr) => show (loadVar 23 ⟨w.heap.size, 0, none⟩).run Tryz.prog wr = .ok (plA p) wr ∧ (loadVar 33 ⟨w.heap.size + 1, 0, none⟩).run Tryz.prog wr = .ok (.agg (EC x (.slice ra rn rcap) vl)) wr ∧ wr.cell? (ta.add k) = some (.int .i64 now) from ⟨jl_plan h.pb, jl_msg h.mb, HTC.out _ h.below⟩)
        have kT := time_x p x (.slice ra rn rcap) vl t now w7.drew (HE.out.below Gd.out.b.below) (by have := HEN.out.rc.2; omega) HB.out HTO.out.1 HTO.out.2
        generalize timeT p x t now = T at kT HAF
        generalize timeL p x t now = L at kT HAF
        generalize mayJ p x t now = code at kT HAF
        obtain rfl : code = E0 := by
          by_cases h : t.st = [82]
          · rw [(HAF.out.2.1 h).1, HE0.out.1 h]
          · rw [HAF.out.2.2 h, HE0.out.2 h]
        have KT := Lib.hid kT
        clear kT ct
        go_upto_region 18 with fail
        refine wp_region_held_drew (S := fun wr => (loadVar 23 ⟨w.heap.size, 0, none⟩).run Tryz.prog wr = .ok (plA p) wr ∧ (loadVar 33 ⟨w.heap.size + 1, 0, none⟩).run Tryz.prog wr = .ok (.agg (EC x (.slice ra rn rcap) vl)) wr ∧ wr.cell? (ta.add k) = some (.int .i64 now)) (by kernel_rfl) (HSS.out _ Gd.out.b) (fun hH => ?_)
        generalize w7.drew = wd at *
        refine wpAnyH_take (i := 0) (oi := { dst := some 132, op := _, type := _, pos := _, after := _, guard := _ }) (v := plA p) rfl (by kernel_rfl) (by kernel_rfl) (by kernel_rfl) (fun _ _ _ h => h) (Or.inl ⟨by kernel_rfl, fun wz hz => jload_op _ ⟨rfl, rfl⟩ hz.1⟩) hH ?_
        try simp only [Act.put, List.setIfInBounds_toArray, List.set_cons_zero, List.set_cons_succ]
        refine wpAnyH_take (i := 1) (oi := { dst := some 133, op := _, type := _, pos := _, after := _, guard := _ }) (v := .agg (EC x (.slice ra rn rcap) vl)) rfl (by kernel_rfl) (by kernel_rfl) (by kernel_rfl) (fun _ _ _ h => h) (Or.inl ⟨by kernel_rfl, fun wz hz => jload_op _ ⟨rfl, rfl⟩ hz.2.1⟩) hH ?_
        try simp only [Act.put, List.setIfInBounds_toArray, List.set_cons_zero, List.set_cons_succ]
        refine wpAnyH_take (i := 3) (oi := { dst := some 135, op := _, type := _, pos := _, after := _, guard := _ }) (v := .slice (some ta) N tcap) rfl (by kernel_rfl) (by kernel_rfl) (by kernel_rfl) (fun _ _ _ h => h) (Or.inl ⟨by kernel_rfl, fun wz hz => by kernel_rfl⟩) hH ?_
        try simp only [Act.put, List.setIfInBounds_toArray, List.set_cons_zero, List.set_cons_succ]
        refine wpAnyH_take (i := 4) (oi := { dst := some 136, op := _, type := _, pos := _, after := _, guard := _ }) (v := .int .i64 k) rfl (by kernel_rfl) (by kernel_rfl) (by kernel_rfl) (fun _ _ _ h => h) (Or.inl ⟨by kernel_rfl, fun wz hz => by kernel_rfl⟩) hH ?_
        try simp only [Act.put, List.setIfInBounds_toArray, List.set_cons_zero, List.set_cons_succ]
        refine wpAnyH_take (i := 5) (oi := { dst := some 137, op := _, type := _, pos := _, after := _, guard := _ }) (v := .pointer (some (ta.add k))) rfl (by kernel_rfl) (by kernel_rfl) (by kernel_rfl) (fun _ _ _ h => h) (Or.inl ⟨by kernel_rfl, fun wz hz => by have h1 := hk0; have h2 := hkl; go_simp⟩) hH ?_
        try simp only [Act.put, List.setIfInBounds_toArray, List.set_cons_zero, List.set_cons_succ]
        refine wpAnyH_take (i := 6) (oi := { dst := some 138, op := _, type := _, pos := _, after := _, guard := _ }) (v := .int .i64 now) rfl (by kernel_rfl) (by kernel_rfl) (by kernel_rfl) (fun _ _ _ h => h) (Or.inl ⟨by kernel_rfl, fun wz hz => by have h1 := hz.2.2; go_simp⟩) hH ?_
        try simp only [Act.put, List.setIfInBounds_toArray, List.set_cons_zero, List.set_cons_succ]
        refine wpAnyH_ready (rs := [2]) (by kernel_rfl) (by simp) ?_
        refine AllReadyH.cons rfl (fun K hK => ?_) AllReadyH.nil
        refine jstep_load rfl 41 (.tmp 11) rfl ⟨g, 0, none⟩ (.agg (TC t)) rfl (jl_st Gd.out.t_) ?_
        refine hK.out _ _ (HSS.out _ Gd.out.b) (fun hHn => ?_)
        clear hK K hH
        have hH := hHn
        clear hHn
        try simp only [Act.put, List.setIfInBounds_toArray, List.set_cons_zero, List.set_cons_succ]
        refine wpAnyH_ready (rs := [7]) (by kernel_rfl) (by simp) ?_
        refine AllReadyH.cons rfl (fun K hK => ?_) AllReadyH.nil
        go_simp
        go_at_call 12
        refine KT.out.mono ?_
        rintro r w8 ⟨v1, rfl, ho, hb⟩
        obtain ⟨A1, C1, rfl⟩ := strs_slice ho
        have G8 := Lib.hid (Gd.out.next hb)
        refine hK.out _ _ (HSS.out _ G8.out.b) (fun hHn => ?_)
        clear hK K hH
        have hH := hHn
        clear hHn
        try simp only [Act.put, List.setIfInBounds_toArray, List.set_cons_zero, List.set_cons_succ]
        refine wpAnyH_take (i := 8) (oi := { dst := some 131, op := _, type := _, pos := _, after := _, guard := _ }) (v := .tuple #[.agg (TC T), .slice A1 L.length C1, .int .i64 code]) rfl (by kernel_rfl) (by kernel_rfl) (by kernel_rfl) (fun _ _ _ h => h) (Or.inl ⟨by kernel_rfl, fun wz hz => by kernel_rfl⟩) hH ?_
        try simp only [Act.put, List.setIfInBounds_toArray, List.set_cons_zero, List.set_cons_succ]
        refine wpAnyH_take (i := 9) (oi := { dst := some 140, op := _, type := _, pos := _, after := _, guard := _ }) (v := .agg (TC T)) rfl (by kernel_rfl) (by kernel_rfl) (by kernel_rfl) (fun _ _ _ h => h) (Or.inl ⟨by kernel_rfl, fun wz hz => by kernel_rfl⟩) hH ?_
        try simp only [Act.put, List.setIfInBounds_toArray, List.set_cons_zero, List.set_cons_succ]
        refine wpAnyH_take (i := 10) (oi := { dst := some 141, op := _, type := _, pos := _, after := _, guard := _ }) (v := .slice A1 L.length C1) rfl (by kernel_rfl) (by kernel_rfl) (by kernel_rfl) (fun _ _ _ h => h) (Or.inl ⟨by kernel_rfl, fun wz hz => by kernel_rfl⟩) hH ?_
        try simp only [Act.put, List.setIfInBounds_toArray, List.set_cons_zero, List.set_cons_succ]
        refine wpAnyH_take (i := 11) (oi := { dst := some 142, op := _, type := _, pos := _, after := _, guard := _ }) (v := .int .i64 code) rfl (by kernel_rfl) (by kernel_rfl) (by kernel_rfl) (fun _ _ _ h => h) (Or.inl ⟨by kernel_rfl, fun wz hz => by kernel_rfl⟩) hH ?_
        try simp only [Act.put, List.setIfInBounds_toArray, List.set_cons_zero, List.set_cons_succ]
        refine wpAnyH_ready (rs := [12]) (by kernel_rfl) (by simp) ?_
        refine AllReadyH.cons rfl (fun K hK => ?_) AllReadyH.nil
        refine jstep_store rfl 41 (.tmp 11) (.tmp 140) rfl g 41 (TC t) (TC T) rfl rfl G8.out.t_ jsize_st (one_TC _) rfl ?_
        intro w9 hB9 hA9
        have G9 := Lib.hid (G8.out.set hB9 hA9)
        have HX9 := Lib.hid (own_txts (own_of ho fun j hj => hA9.block j (ho.lt j hj).2 (by have h1 := (ho.lt j hj).1; have h2 := ltOf Gd.out.t_; omega)))
        refine hK.out _ _ (HSS.out _ G9.out.b) (fun hHn => ?_)
        clear hK K hH
        have hH := hHn
        clear hHn
        try simp only [Act.put, List.setIfInBounds_toArray, List.set_cons_zero, List.set_cons_succ]
        refine wpAnyH_take (i := 13) (oi := { dst := some 15, op := _, type := _, pos := _, after := _, guard := _ }) (v := .slice A1 L.length C1) rfl (by kernel_rfl) (by kernel_rfl) (by kernel_rfl) (fun _ _ _ h => h) (Or.inl ⟨by kernel_rfl, fun wz hz => by kernel_rfl⟩) hH ?_
        try simp only [Act.put, List.setIfInBounds_toArray, List.set_cons_zero, List.set_cons_succ]
        refine wpAnyH_take (i := 14) (oi := { dst := some 16, op := _, type := _, pos := _, after := _, guard := _ }) (v := .int .i64 code) rfl (by kernel_rfl) (by kernel_rfl) (by kernel_rfl) (fun _ _ _ h => h) (Or.inl ⟨by kernel_rfl, fun wz hz => by kernel_rfl⟩) hH ?_
        try simp only [Act.put, List.setIfInBounds_toArray, List.set_cons_zero, List.set_cons_succ]
        refine wpAnyH_done (by kernel_rfl) ?_ _
        by_cases hst : t.st = [82]
        · have hc := HE0.out.1 hst
          have hf := (HAF.out.2.1 hst).2
          subst hc
          clear hst
          have c2 : w9.cell? ⟨g, 2, none⟩ = some (.int .i64 t.tr) := by rw [← hf.1]; exact cellOf G9.out.t_ 2
          have q2 : w9.cell? ⟨g2, 2, none⟩ = some (.int .i64 t.tr) := cellOf G9.out.q 2
          have c3 : w9.cell? ⟨g, 3, none⟩ = some (.int .i64 t.ne) := by rw [← hf.2]; exact cellOf G9.out.t_ 3
          have q3 : w9.cell? ⟨g2, 3, none⟩ = some (.int .i64 t.ne) := cellOf G9.out.q 3
          clear hf
          go_wp2_with fail
          go_meet
          case rel => exact ⟨T, L, A1, C1, rfl, rfl, Lib.hid ⟨G9.out, HX9.out, HAF.out.1⟩⟩
        · have hc := HE0.out.2 hst
          subst hc
          clear hst
          go_wp2_with fail
          go_meet
          case rel => exact ⟨T, L, A1, C1, rfl, rfl, Lib.hid ⟨G9.out, HX9.out, HAF.out.1⟩⟩
      obtain ⟨hkM, ho⟩ : k < M ∧ (o = 0 ∨ 2 ≤ o ∧ o ≤ 5) := by
        have h := HQ.out
        simp at h
        omega
      obtain ⟨oa, rfl, hab, hac⟩ := HOX.out k o (HO1.out hkM)
      have HOC := Lib.hid (fun w' (h : Below w.heap.size w w') => (h.cell (by rw [add_block]; exact hab)).trans hac)
      have hkM2 : (k : Int) < (M : Int) := by omega
      have HAF := Lib.hid (try_af (p := p) (x := x) (t := t) (now := now) (o := o) HOK.out HNW.out HPL.out HTR.out ho)
      have HSS := Lib.hid (fun wr (h : PB w p x (.slice ra rn rcap) vl wr) => show (loadVar 23 ⟨w.heap.size, 0, none⟩).run Tryz.prog wr = .ok (plA p) wr ∧ (loadVar 33 ⟨w.heap.size + 1, 0, none⟩).run Tryz.prog wr = .ok (.agg (EC x (.slice ra rn rcap) vl)) wr ∧ wr.cell? (ta.add k) = some (.int .i64 now) ∧ wr.cell? (oa.add k) = some (.int .i64 o) from ⟨jl_plan h.pb, jl_msg h.mb, HTC.out _ h.below, HOC.out _ h.below⟩)
      have kT := try_x p x (.slice ra rn rcap) vl t now o w7.drew (HE.out.below Gd.out.b.below) (by have := HEN.out.rc.2; omega) HB.out HTO.out.1 HTO.out.2 HTR.out.1
      generalize tryT p x t now o = T at kT HAF
      generalize tryL p x t now o = L at kT HAF
      generalize tryE p x t now o = code at kT HAF
      obtain rfl : code = E0 := by
        by_cases h : t.st = [82]
        · rw [(HAF.out.2.1 h).1, HE0.out.1 h]
        · rw [HAF.out.2.2 h, HE0.out.2 h]
      have KT := Lib.hid kT
      clear kT ho hab hac ct
      go_upto_region 15 with fail
      refine wp_region_held_drew (S := fun wr => (loadVar 23 ⟨w.heap.size, 0, none⟩).run Tryz.prog wr = .ok (plA p) wr ∧ (loadVar 33 ⟨w.heap.size + 1, 0, none⟩).run Tryz.prog wr = .ok (.agg (EC x (.slice ra rn rcap) vl)) wr ∧ wr.cell? (ta.add k) = some (.int .i64 now) ∧ wr.cell? (oa.add k) = some (.int .i64 o)) (by kernel_rfl) (HSS.out _ Gd.out.b) (fun hH => ?_)
      generalize w7.drew = wd at *
      refine wpAnyH_take (i := 0) (oi := { dst := some 106, op := _, type := _, pos := _, after := _, guard := _ }) (v := plA p) rfl (by kernel_rfl) (by kernel_rfl) (by kernel_rfl) (fun _ _ _ h => h) (Or.inl ⟨by kernel_rfl, fun wz hz => jload_op _ ⟨rfl, rfl⟩ hz.1⟩) hH ?_
      try simp only [Act.put, List.setIfInBounds_toArray, List.set_cons_zero, List.set_cons_succ]
      refine wpAnyH_take (i := 1) (oi := { dst := some 107, op := _, type := _, pos := _, after := _, guard := _ }) (v := .agg (EC x (.slice ra rn rcap) vl)) rfl (by kernel_rfl) (by kernel_rfl) (by kernel_rfl) (fun _ _ _ h => h) (Or.inl ⟨by kernel_rfl, fun wz hz => jload_op _ ⟨rfl, rfl⟩ hz.2.1⟩) hH ?_
      try simp only [Act.put, List.setIfInBounds_toArray, List.set_cons_zero, List.set_cons_succ]
      refine wpAnyH_take (i := 3) (oi := { dst := some 109, op := _, type := _, pos := _, after := _, guard := _ }) (v := .slice (some ta) N tcap) rfl (by kernel_rfl) (by kernel_rfl) (by kernel_rfl) (fun _ _ _ h => h) (Or.inl ⟨by kernel_rfl, fun wz hz => by kernel_rfl⟩) hH ?_
      try simp only [Act.put, List.setIfInBounds_toArray, List.set_cons_zero, List.set_cons_succ]
      refine wpAnyH_take (i := 4) (oi := { dst := some 110, op := _, type := _, pos := _, after := _, guard := _ }) (v := .int .i64 k) rfl (by kernel_rfl) (by kernel_rfl) (by kernel_rfl) (fun _ _ _ h => h) (Or.inl ⟨by kernel_rfl, fun wz hz => by kernel_rfl⟩) hH ?_
      try simp only [Act.put, List.setIfInBounds_toArray, List.set_cons_zero, List.set_cons_succ]
      refine wpAnyH_take (i := 5) (oi := { dst := some 111, op := _, type := _, pos := _, after := _, guard := _ }) (v := .pointer (some (ta.add k))) rfl (by kernel_rfl) (by kernel_rfl) (by kernel_rfl) (fun _ _ _ h => h) (Or.inl ⟨by kernel_rfl, fun wz hz => by have h1 := hk0; have h2 := hkl; go_simp⟩) hH ?_
      try simp only [Act.put, List.setIfInBounds_toArray, List.set_cons_zero, List.set_cons_succ]
      refine wpAnyH_take (i := 6) (oi := { dst := some 112, op := _, type := _, pos := _, after := _, guard := _ }) (v := .int .i64 now) rfl (by kernel_rfl) (by kernel_rfl) (by kernel_rfl) (fun _ _ _ h => h) (Or.inl ⟨by kernel_rfl, fun wz hz => by have h1 := hz.2.2.1; go_simp⟩) hH ?_
      try simp only [Act.put, List.setIfInBounds_toArray, List.set_cons_zero, List.set_cons_succ]
      refine wpAnyH_take (i := 7) (oi := { dst := some 113, op := _, type := _, pos := _, after := _, guard := _ }) (v := .slice (some oa) M ocap) rfl (by kernel_rfl) (by kernel_rfl) (by kernel_rfl) (fun _ _ _ h => h) (Or.inl ⟨by kernel_rfl, fun wz hz => by kernel_rfl⟩) hH ?_
      try simp only [Act.put, List.setIfInBounds_toArray, List.set_cons_zero, List.set_cons_succ]
      refine wpAnyH_take (i := 8) (oi := { dst := some 114, op := _, type := _, pos := _, after := _, guard := _ }) (v := .int .i64 k) rfl (by kernel_rfl) (by kernel_rfl) (by kernel_rfl) (fun _ _ _ h => h) (Or.inl ⟨by kernel_rfl, fun wz hz => by kernel_rfl⟩) hH ?_
      try simp only [Act.put, List.setIfInBounds_toArray, List.set_cons_zero, List.set_cons_succ]
      refine wpAnyH_take (i := 9) (oi := { dst := some 115, op := _, type := _, pos := _, after := _, guard := _ }) (v := .pointer (some (oa.add k))) rfl (by kernel_rfl) (by kernel_rfl) (by kernel_rfl) (fun _ _ _ h => h) (Or.inl ⟨by kernel_rfl, fun wz hz => by have h1 := hk0; have h2 := hkM2; go_simp⟩) hH ?_
      try simp only [Act.put, List.setIfInBounds_toArray, List.set_cons_zero, List.set_cons_succ]
      refine wpAnyH_take (i := 10) (oi := { dst := some 116, op := _, type := _, pos := _, after := _, guard := _ }) (v := .int .i64 o) rfl (by kernel_rfl) (by kernel_rfl) (by kernel_rfl) (fun _ _ _ h => h) (Or.inl ⟨by kernel_rfl, fun wz hz => by have h1 := hz.2.2.2; go_simp⟩) hH ?_
      try simp only [Act.put, List.setIfInBounds_toArray, List.set_cons_zero, List.set_cons_succ]
      refine wpAnyH_ready (rs := [2]) (by kernel_rfl) (by simp) ?_
      refine AllReadyH.cons rfl (fun K hK => ?_) AllReadyH.nil
      refine jstep_load rfl 41 (.tmp 11) rfl ⟨g, 0, none⟩ (.agg (TC t)) rfl (jl_st Gd.out.t_) ?_
      refine hK.out _ _ (HSS.out _ Gd.out.b) (fun hHn => ?_)
      clear hK K hH
      have hH := hHn
      clear hHn
      try simp only [Act.put, List.setIfInBounds_toArray, List.set_cons_zero, List.set_cons_succ]
      refine wpAnyH_ready (rs := [11]) (by kernel_rfl) (by simp) ?_
      refine AllReadyH.cons rfl (fun K hK => ?_) AllReadyH.nil
      go_simp
      go_at_call 11
      refine KT.out.mono ?_
      rintro r w8 ⟨v1, rfl, ho, hb⟩
      obtain ⟨A1, C1, rfl⟩ := strs_slice ho
      have G8 := Lib.hid (Gd.out.next hb)
      refine hK.out _ _ (HSS.out _ G8.out.b) (fun hHn => ?_)
      clear hK K hH
      have hH := hHn
      clear hHn
      try simp only [Act.put, List.setIfInBounds_toArray, List.set_cons_zero, List.set_cons_succ]
      refine wpAnyH_take (i := 12) (oi := { dst := some 105, op := _, type := _, pos := _, after := _, guard := _ }) (v := .tuple #[.agg (TC T), .slice A1 L.length C1, .int .i64 code]) rfl (by kernel_rfl) (by kernel_rfl) (by kernel_rfl) (fun _ _ _ h => h) (Or.inl ⟨by kernel_rfl, fun wz hz => by kernel_rfl⟩) hH ?_
      try simp only [Act.put, List.setIfInBounds_toArray, List.set_cons_zero, List.set_cons_succ]
      refine wpAnyH_take (i := 13) (oi := { dst := some 118, op := _, type := _, pos := _, after := _, guard := _ }) (v := .agg (TC T)) rfl (by kernel_rfl) (by kernel_rfl) (by kernel_rfl) (fun _ _ _ h => h) (Or.inl ⟨by kernel_rfl, fun wz hz => by kernel_rfl⟩) hH ?_
      try simp only [Act.put, List.setIfInBounds_toArray, List.set_cons_zero, List.set_cons_succ]
      refine wpAnyH_take (i := 14) (oi := { dst := some 119, op := _, type := _, pos := _, after := _, guard := _ }) (v := .slice A1 L.length C1) rfl (by kernel_rfl) (by kernel_rfl) (by kernel_rfl) (fun _ _ _ h => h) (Or.inl ⟨by kernel_rfl, fun wz hz => by kernel_rfl⟩) hH ?_
      try simp only [Act.put, List.setIfInBounds_toArray, List.set_cons_zero, List.set_cons_succ]
      refine wpAnyH_take (i := 15) (oi := { dst := some 120, op := _, type := _, pos := _, after := _, guard := _ }) (v := .int .i64 code) rfl (by kernel_rfl) (by kernel_rfl) (by kernel_rfl) (fun _ _ _ h => h) (Or.inl ⟨by kernel_rfl, fun wz hz => by kernel_rfl⟩) hH ?_
      try simp only [Act.put, List.setIfInBounds_toArray, List.set_cons_zero, List.set_cons_succ]
      refine wpAnyH_ready (rs := [16]) (by kernel_rfl) (by simp) ?_
      refine AllReadyH.cons rfl (fun K hK => ?_) AllReadyH.nil
      refine jstep_store rfl 41 (.tmp 11) (.tmp 118) rfl g 41 (TC t) (TC T) rfl rfl G8.out.t_ jsize_st (one_TC _) rfl ?_
      intro w9 hB9 hA9
      have G9 := Lib.hid (G8.out.set hB9 hA9)
      have HX9 := Lib.hid (own_txts (own_of ho fun j hj => hA9.block j (ho.lt j hj).2 (by have h1 := (ho.lt j hj).1; have h2 := ltOf Gd.out.t_; omega)))
      refine hK.out _ _ (HSS.out _ G9.out.b) (fun hHn => ?_)
      clear hK K hH
      have hH := hHn
      clear hHn
      try simp only [Act.put, List.setIfInBounds_toArray, List.set_cons_zero, List.set_cons_succ]
      refine wpAnyH_take (i := 17) (oi := { dst := some 15, op := _, type := _, pos := _, after := _, guard := _ }) (v := .slice A1 L.length C1) rfl (by kernel_rfl) (by kernel_rfl) (by kernel_rfl) (fun _ _ _ h => h) (Or.inl ⟨by kernel_rfl, fun wz hz => by kernel_rfl⟩) hH ?_
      try simp only [Act.put, List.setIfInBounds_toArray, List.set_cons_zero, List.set_cons_succ]
      refine wpAnyH_take (i := 18) (oi := { dst := some 16, op := _, type := _, pos := _, after := _, guard := _ }) (v := .int .i64 code) rfl (by kernel_rfl) (by kernel_rfl) (by kernel_rfl) (fun _ _ _ h => h) (Or.inl ⟨by kernel_rfl, fun wz hz => by kernel_rfl⟩) hH ?_
      try simp only [Act.put, List.setIfInBounds_toArray, List.set_cons_zero, List.set_cons_succ]
      refine wpAnyH_done (by kernel_rfl) ?_ _
      by_cases hst : t.st = [82]
      · have hc := HE0.out.1 hst
        have hf := (HAF.out.2.1 hst).2
        subst hc
        clear hst
        have c2 : w9.cell? ⟨g, 2, none⟩ = some (.int .i64 (t.tr + 1)) := by rw [← hf]; exact cellOf G9.out.t_ 2
        have q2 : w9.cell? ⟨g2, 2, none⟩ = some (.int .i64 t.tr) := cellOf G9.out.q 2
        have W1 : IntKind.i64.wrap (t.tr + 1) = t.tr + 1 := IntWalk.i64_in _ (by have := HTR.out; omega)
        clear hf
        go_wp2_with fail
        go_meet
        case rel => exact ⟨T, L, A1, C1, rfl, rfl, Lib.hid ⟨G9.out, HX9.out, HAF.out.1⟩⟩
      · have hc := HE0.out.2 hst
        subst hc
        clear hst
        go_wp2_with fail
        go_meet
        case rel => exact ⟨T, L, A1, C1, rfl, rfl, Lib.hid ⟨G9.out, HX9.out, HAF.out.1⟩⟩
    case rest =>
    obtain ⟨T, L, A1, C1, rfl, rfl, HX⟩ := hcut
    clear H8
    go_upto_region 21 with fail
    have q1 : wc.cell? ⟨g2, 1, none⟩ = some (.string (mkS t.st)) := cellOf HX.out.1.q 1
    have e1 : ((mkS t.st).toList == [82]) = (t.st == [82]) := by rw [mkS_toList]
    by_cases hst : t.st = [82]
    rotate_left
    · have hc := HE0.out.2 hst
      have hl := HX.out.2.2.1 hst
      subst hc hl
      rw [show (t.st == [82]) = false by simpa using hst] at e1
      clear hst
      simp only [List.length_nil]
      go_wp2_with fail
      go_ret
      exact ⟨rfl, HX.out.1.b.below⟩
    have hc := HE0.out.1 hst
    subst hc
    have haf := HX.out.2.2.2 hst
    have HAF := Lib.hid (show T.pl = q ∧ 0 ≤ T.tr ∧ T.tr ≤ t.tr + 1 ∧ (T.st = [82] → now < expJ p x) from ⟨haf.2.1.trans HTP.out.1, haf.2.2⟩)
    have HSD := Lib.hid haf.1
    have HST := Lib.hid hst
    have c0 : wc.cell? ⟨g, 0, none⟩ = some (.int .i64 q) := by rw [← HAF.out.1]; exact cellOf HX.out.1.t_ 0
    rw [show (t.st == [82]) = true by rw [hst]; rfl] at e1
    clear hst haf HE0
    rcases HSD.out with ⟨hL, hT⟩ | ⟨kk, f, hk4, hL, hT, hB2, hn, hask, _, hsts⟩
    · subst hL
      have HZ := Lib.hid (show OA w p x (.slice ra rn rcap) vl g m g2 (k + 1) T.told t T wc by obtain ⟨a, b, c, n, h1, h2, h3⟩ := HX.out.1.map; exact { HX.out.1 with map := ⟨a, b, c, n, hT.trans h1, by omega, h3⟩ })
      clear hT HSD HX
      simp only [List.length_nil]
      go_wp2_with fail
      go_loopw [17] (fun i wr => i = .int .i64 0 ∧ wr = wc) (fun _ _ => 0)
      case atStart => exact ⟨rfl, rfl⟩
      case round =>
        obtain ⟨rfl, rfl⟩ := hrel
        clear q1 e1 c0
        as_aux_lemma =>
        have ct := HTC.out _ HZ.out.b.below
        have c1 : wr.cell? ⟨g, 1, none⟩ = some (.string (mkS T.st)) := cellOf HZ.out.t_ 1
        have eT : ((mkS T.st).toList == [82]) = (T.st == [82]) := by rw [mkS_toList]
        by_cases hT : T.st = [82]
        · have d : decide (expJ p x ≤ now) = false := decide_eq_false (by have := HAF.out.2.2.2 hT; omega)
          rw [show (T.st == [82]) = true by rw [hT]; rfl] at eT
          clear hT
          go_wp2_with (first | ((with_reducible refine jis_load (ty := 23) (x := .tmp 5) rfl ?_); refine jload ?_ 23 (.tmp 5) rfl (w.heap.size) 0 23 #[.int .i64 p.base, .int .i64 p.most, .int .i64 p.life, .int .i64 p.warn] #[.int .i64 p.base, .int .i64 p.most, .int .i64 p.life, .int .i64 p.warn] _ rfl HZ.out.b.pb Tryz.underlying23 rfl jsize_plan (fun j _ => by rw [Nat.zero_add]) ?_; (focus (first | rfl | (go_simp; done)))) | ((with_reducible refine jis_load (ty := 33) (x := .tmp 6) rfl ?_); refine jload ?_ 33 (.tmp 6) rfl (w.heap.size + 1) 0 33 (EC x (.slice ra rn rcap) vl) (EC x (.slice ra rn rcap) vl) _ rfl HZ.out.b.mb Tryz.underlying33 rfl size_msg (fun j _ => by rw [Nat.zero_add]) ?_; (focus (first | rfl | (go_simp; done)))))
          refine (expires_x p x _ vl _ HOK.out HB.out).mono ?_
          rintro r wy ⟨rfl, hb⟩
          have HBY := Lib.hid hb
          clear hb ct c1 eT
          go_wp2_with fail
          go_roundw
          case rel => exact ⟨k + 1, by omega, by go_num, Lib.hid ⟨T, (HZ.out.next HBY.out).oi HAF.out.1 ⟨HAF.out.2.1, by have h1 := HAF.out.2.2.1; have h2 := HTP.out.2; omega⟩⟩⟩
          case measure => simp [intOf]; omega
        · rw [show (T.st == [82]) = false by simpa using hT] at eT
          clear hT
          go_wp2_with fail
          go_roundw
          case rel => exact ⟨k + 1, by omega, by go_num, Lib.hid ⟨T, (HZ.out.next (Below.refl _ _)).oi HAF.out.1 ⟨HAF.out.2.1, by have h1 := HAF.out.2.2.1; have h2 := HTP.out.2; omega⟩⟩⟩
          case measure => simp [intOf]; omega
    subst hL
    obtain ⟨ad, rfl, hab, hcl⟩ : ∃ ad, A1 = some ad ∧ ad.block < wc.heap.size ∧ wc.cell? ad = some (.string (mkS kk.name)) := by
      obtain ⟨a, c, hv, _, _, hx⟩ := HX.out.2.1
      obtain ⟨ad, h1, h2, h3⟩ := hx 0 _ rfl
      injection hv with e1 _ _
      exact ⟨ad, e1.trans h1, h2, by rw [show ad.add 0 = ad from (by unfold Addr.add; first | rfl | exact if_pos rfl | simp)] at h3; exact h3⟩
    obtain ⟨a, b, c, n, hu, hn2, hm⟩ := HX.out.1.map
    rw [hu] at hB2
    obtain ⟨a', b', c', hu', hnone, hupd⟩ := once_step hk4 hB2
    obtain ⟨w1, r1, m1, g1⟩ := hm.put Tryz.underlying42 (by omega) (k := mrgJ kk) (by rcases hk4 with rfl | rfl | rfl | rfl <;> decide) one1
    have l0 := hm.look Tryz.underlying42 (z := .int .i64 0) (by kernel_rfl) (k := mrgJ kk) (by rcases hk4 with rfl | rfl | rfl | rfl <;> decide)
    rw [hnone] at l0
    have l1 := m1.look Tryz.underlying42 (z := .int .i64 0) (by kernel_rfl) (k := mrgJ kk) (by rcases hk4 with rfl | rfl | rfl | rfl <;> decide)
    rw [show updF (mF a b c) (mrgJ kk) one1 (mrgJ kk) = some one1 by unfold updF; exact if_pos rfl] at l1
    rw [show one1 = Value.int .i64 1 from rfl] at r1 l1
    have hne : ad.block ≠ m := fun e => by
      obtain ⟨es, cl, h⟩ := hm.isMap
      simp [World.cell?, e, h] at hcl
    have HZ1 := Lib.hid (HX.out.1.put (k' := k + 1) (u' := T.told) g1 (by rw [hT, hu, hu']) (by omega) (m1.congr hupd))
    have hcl1 : w1.cell? ad = some (.string (mkS kk.name)) := (World.cell?_of_block (g1.block _ hab (fun e => hne (by injection e)))).trans hcl
    have HH := Lib.hid (And.intro hab hcl1)
    obtain ⟨rc, hrc⟩ : ∃ rc, x.rc[q]? = some rc := ⟨_, List.getElem?_eq_getElem (by have := HP.out.2; omega)⟩
    obtain ⟨R, rfl, hRb, hRat⟩ := HRC.out q rc hrc
    have hno : noJ x t = rc.r.no := by
      unfold noJ
      rw [HTP.out.1, Int.toNat_natCast, List.getD_eq_getElem?_getD, hrc]; rfl
    have en : ((mkS rc.r.no).toList == [78]) = false := by
      rw [mkS_toList, ← hno]
      unfold askJ at hask
      simp only [Bool.and_eq_true, Bool.not_eq_true'] at hask
      exact hask.1
    have HRA := Lib.hid (And.intro hRb hRat)
    have hqr : (q : Int) < (rn : Int) := by have h1 := HP.out.2; rw [HRN.out] at h1; exact h1
    have hq0 : (0 : Int) ≤ (q : Int) := by omega
    have HNU := Lib.hid (show P.nullB x.fr = false from hn)
    have g3 : w1.cell? ⟨w.heap.size + 1, 3, none⟩ = some (.string (mkS x.fr.1)) := cellOf HZ1.out.b.mb 3
    have g4 : w1.cell? ⟨w.heap.size + 1, 4, none⟩ = some (.string (mkS x.fr.2)) := cellOf HZ1.out.b.mb 4
    have HS1 := Lib.hid hsts
    clear hu hn2 hm hB2 hu' hnone hupd m1 g1 hab hne hask hrc hRb hRat hno hn hT HSD hsts hcl1
    simp only [List.length_singleton]
    go_wp2_with fail
    go_loopw [17] (fun i wr => (i = .int .i64 0 ∧ wr = wc) ∨ (i = .int .i64 1 ∧ Hid (OA w p x (.slice (some R) rn rcap) vl g m g2 (k + 1) T.told t T wr))) (fun i _ => 1 - (intOf i).toNat)
    case atStart => exact .inl ⟨rfl, rfl⟩
    case round =>
      rcases hrel with ⟨rfl, rfl⟩ | ⟨rfl, HZ⟩
      rotate_left
      · clear q1 e1 c0 r1 l0 l1 hcl g3 g4
        as_aux_lemma =>
        have ct := HTC.out _ HZ.out.b.below
        have c1 : wr.cell? ⟨g, 1, none⟩ = some (.string (mkS T.st)) := cellOf HZ.out.t_ 1
        have eT : ((mkS T.st).toList == [82]) = (T.st == [82]) := by rw [mkS_toList]
        by_cases hT : T.st = [82]
        · have d : decide (expJ p x ≤ now) = false := decide_eq_false (by have := HAF.out.2.2.2 hT; omega)
          rw [show (T.st == [82]) = true by rw [hT]; rfl] at eT
          clear hT
          go_wp2_with (first | ((with_reducible refine jis_load (ty := 23) (x := .tmp 5) rfl ?_); refine jload ?_ 23 (.tmp 5) rfl (w.heap.size) 0 23 #[.int .i64 p.base, .int .i64 p.most, .int .i64 p.life, .int .i64 p.warn] #[.int .i64 p.base, .int .i64 p.most, .int .i64 p.life, .int .i64 p.warn] _ rfl HZ.out.b.pb Tryz.underlying23 rfl jsize_plan (fun j _ => by rw [Nat.zero_add]) ?_; (focus (first | rfl | (go_simp; done)))) | ((with_reducible refine jis_load (ty := 33) (x := .tmp 6) rfl ?_); refine jload ?_ 33 (.tmp 6) rfl (w.heap.size + 1) 0 33 (EC x (.slice (some R) rn rcap) vl) (EC x (.slice (some R) rn rcap) vl) _ rfl HZ.out.b.mb Tryz.underlying33 rfl size_msg (fun j _ => by rw [Nat.zero_add]) ?_; (focus (first | rfl | (go_simp; done)))))
          refine (expires_x p x _ vl _ HOK.out HB.out).mono ?_
          rintro r wy ⟨rfl, hb⟩
          have HBY := Lib.hid hb
          clear hb ct c1 eT
          go_wp2_with fail
          go_roundw
          case rel => exact ⟨k + 1, by omega, by go_num, Lib.hid ⟨T, (HZ.out.next HBY.out).oi HAF.out.1 ⟨HAF.out.2.1, by have h1 := HAF.out.2.2.1; have h2 := HTP.out.2; omega⟩⟩⟩
          case measure => simp [intOf]; omega
        · rw [show (T.st == [82]) = false by simpa using hT] at eT
          clear hT
          go_wp2_with fail
          go_roundw
          case rel => exact ⟨k + 1, by omega, by go_num, Lib.hid ⟨T, (HZ.out.next (Below.refl _ _)).oi HAF.out.1 ⟨HAF.out.2.1, by have h1 := HAF.out.2.2.1; have h2 := HTP.out.2; omega⟩⟩⟩
          case measure => simp [intOf]; omega
      clear q1 e1 c0
      rcases hk4 with rfl | rfl | rfl | rfl
      · as_aux_lemma =>
        rw [show mkS kD.name = { data := #[100, 101, 108, 97, 121, 101, 100] } from rfl] at hcl
        rw [show mkS (mrgJ kD) = { data := #[100, 101, 108, 97, 121, 101, 100] } from rfl] at r1 l0 l1
        have hst2 : T.st = [82] := by
          rcases HS1.out with h | h | h | h
          all_goals first | (exact absurd (congrArg KJ.name h.1) (by decide)) | exact h.2 | exact h.2.trans HST.out
        have HS2 := Lib.hid hst2
        clear hst2
        go_wp2_with fail
        refine (P.null_x x.fr _).mono ?_
        rintro r w2 ⟨rfl, hb⟩
        have HZ := Lib.hid (HZ1.out.next hb)
        have cr : w2.cell? ⟨w.heap.size + 1, 19, none⟩ = some (.slice (some R) rn rcap) := cellOf HZ.out.b.mb 19
        have at3 := HRA.out.2.below HZ.out.b.below (by rw [add_block]; exact HRA.out.1)
        have cn := at3.c2
        have cl2 : w2.cell? ad = some (.string { data := #[100, 101, 108, 97, 121, 101, 100] }) := (hb.cell (by have := HZ1.out; exact (World.block_lt_of_cell? _ _ HH.out.2))).trans HH.out.2
        have cs : w2.cell? ⟨g, 1, none⟩ = some (.string { data := #[82] }) := (cellOf HZ.out.t_ 1).trans (by show some (Value.string (mkS T.st)) = _; rw [HS2.out]; rfl)
        rw [HNU.out]
        clear hb at3 r1 l0 l1 g3 g4 hcl
        go_wp2_with fail
        go_roundw
        case rel => exact .inr ⟨rfl, HZ⟩
        case measure => decide
      · as_aux_lemma =>
        rw [show mkS kF.name = { data := #[102, 97, 105, 108, 101, 100] } from rfl] at hcl
        rw [show mkS (mrgJ kF) = { data := #[102, 97, 105, 108, 101, 100] } from rfl] at r1 l0 l1
        have hst2 : T.st = [70] := by
          rcases HS1.out with h | h | h | h
          all_goals first | (exact absurd (congrArg KJ.name h.1) (by decide)) | exact h.2 | exact h.2.trans HST.out
        have HS2 := Lib.hid hst2
        clear hst2
        go_wp2_with fail
        refine (P.null_x x.fr _).mono ?_
        rintro r w2 ⟨rfl, hb⟩
        have HZ := Lib.hid (HZ1.out.next hb)
        have cr : w2.cell? ⟨w.heap.size + 1, 19, none⟩ = some (.slice (some R) rn rcap) := cellOf HZ.out.b.mb 19
        have at3 := HRA.out.2.below HZ.out.b.below (by rw [add_block]; exact HRA.out.1)
        have cn := at3.c2
        have cl2 : w2.cell? ad = some (.string { data := #[102, 97, 105, 108, 101, 100] }) := (hb.cell (by have := HZ1.out; exact (World.block_lt_of_cell? _ _ HH.out.2))).trans HH.out.2
        have cs : w2.cell? ⟨g, 1, none⟩ = some (.string { data := #[70] }) := (cellOf HZ.out.t_ 1).trans (by show some (Value.string (mkS T.st)) = _; rw [HS2.out]; rfl)
        rw [HNU.out]
        clear hb at3 r1 l0 l1 g3 g4 hcl
        go_wp2_with fail
        go_roundw
        case rel => exact .inr ⟨rfl, HZ⟩
        case measure => decide
      · as_aux_lemma =>
        rw [show mkS kS.name = { data := #[100, 101, 108, 105, 118, 101, 114, 101, 100] } from rfl] at hcl
        rw [show mkS (mrgJ kS) = { data := #[100, 101, 108, 105, 118, 101, 114, 101, 100] } from rfl] at r1 l0 l1
        have hst2 : T.st = [68] := by
          rcases HS1.out with h | h | h | h
          all_goals first | (exact absurd (congrArg KJ.name h.1) (by decide)) | exact h.2 | exact h.2.trans HST.out
        have HS2 := Lib.hid hst2
        clear hst2
        go_wp2_with fail
        refine (P.null_x x.fr _).mono ?_
        rintro r w2 ⟨rfl, hb⟩
        have HZ := Lib.hid (HZ1.out.next hb)
        have cr : w2.cell? ⟨w.heap.size + 1, 19, none⟩ = some (.slice (some R) rn rcap) := cellOf HZ.out.b.mb 19
        have at3 := HRA.out.2.below HZ.out.b.below (by rw [add_block]; exact HRA.out.1)
        have cn := at3.c2
        have cl2 : w2.cell? ad = some (.string { data := #[100, 101, 108, 105, 118, 101, 114, 101, 100] }) := (hb.cell (by have := HZ1.out; exact (World.block_lt_of_cell? _ _ HH.out.2))).trans HH.out.2
        have cs : w2.cell? ⟨g, 1, none⟩ = some (.string { data := #[68] }) := (cellOf HZ.out.t_ 1).trans (by show some (Value.string (mkS T.st)) = _; rw [HS2.out]; rfl)
        rw [HNU.out]
        clear hb at3 r1 l0 l1 g3 g4 hcl
        go_wp2_with fail
        go_roundw
        case rel => exact .inr ⟨rfl, HZ⟩
        case measure => decide
      · as_aux_lemma =>
        rw [show mkS kG.name = { data := #[114, 101, 108, 97, 121, 101, 100] } from rfl] at hcl
        rw [show mkS (mrgJ kG) = { data := #[100, 101, 108, 105, 118, 101, 114, 101, 100] } from rfl] at r1 l0 l1
        have hst2 : T.st = [71] := by
          rcases HS1.out with h | h | h | h
          all_goals first | (exact absurd (congrArg KJ.name h.1) (by decide)) | exact h.2 | exact h.2.trans HST.out
        have HS2 := Lib.hid hst2
        clear hst2
        go_wp2_with fail
        refine (P.null_x x.fr _).mono ?_
        rintro r w2 ⟨rfl, hb⟩
        have HZ := Lib.hid (HZ1.out.next hb)
        have cr : w2.cell? ⟨w.heap.size + 1, 19, none⟩ = some (.slice (some R) rn rcap) := cellOf HZ.out.b.mb 19
        have at3 := HRA.out.2.below HZ.out.b.below (by rw [add_block]; exact HRA.out.1)
        have cn := at3.c2
        have cl2 : w2.cell? ad = some (.string { data := #[114, 101, 108, 97, 121, 101, 100] }) := (hb.cell (by have := HZ1.out; exact (World.block_lt_of_cell? _ _ HH.out.2))).trans HH.out.2
        have cs : w2.cell? ⟨g, 1, none⟩ = some (.string { data := #[71] }) := (cellOf HZ.out.t_ 1).trans (by show some (Value.string (mkS T.st)) = _; rw [HS2.out]; rfl)
        rw [HNU.out]
        clear hb at3 r1 l0 l1 g3 g4 hcl
        go_wp2_with fail
        go_roundw
        case rel => exact .inr ⟨rfl, HZ⟩
        case measure => decide
end Go.Proofs.YtcedhgihebollaaGreatDoor.E.J
