/-
  The walk of the law PathJoins.
-/
import Derived.Test.YtamjoleknjmpoaaOpenPaths
import Derived.Test.YtamjoleknjmpoaaPtTwo
namespace Go.Proofs.Ytamjoleknjmpoaa
open Go.RowKit
/-- Paths as the cells of a row. -/
def psV (ps : List Pth) : List Value := ps.flatMap fun p => [.string (mkS p.1), .string (mkS p.2)]
theorem psV_length (ps : List Pth) : (psV ps).length = ps.length * 2 := by
  induction ps with
  | nil => rfl
  | cons p r ih => simp [psV] at ih ⊢; omega
theorem psV_at : ∀ (ps : List Pth) (i : Nat) (p : Pth), ps[i]? = some p → (psV ps)[i * 2]? = some (.string (mkS p.1)) ∧ (psV ps)[i * 2 + 1]? = some (.string (mkS p.2))
  | [], _, _, h => by simp at h
  | q :: r, 0, p, h => by simp at h; subst h; exact ⟨rfl, rfl⟩
  | q :: r, i + 1, p, h => by
    have := psV_at r i p (by simpa using h)
    rw [show (i + 1) * 2 = i * 2 + 1 + 1 by omega]
    exact this
theorem psV_of : ∀ (ps : List Pth) (j : Nat) (u : Value), (psV ps)[j]? = some u → ∃ i p, ps[i]? = some p ∧ ((j = i * 2 ∧ u = .string (mkS p.1)) ∨ (j = i * 2 + 1 ∧ u = .string (mkS p.2)))
  | [], _, _, h => by simp [psV] at h
  | q :: r, 0, u, h => by
    have : (psV (q :: r))[0]? = some (.string (mkS q.1)) := rfl
    rw [this] at h; injection h with h
    exact ⟨0, q, rfl, .inl ⟨rfl, h.symm⟩⟩
  | q :: r, 1, u, h => by
    have : (psV (q :: r))[1]? = some (.string (mkS q.2)) := rfl
    rw [this] at h; injection h with h
    exact ⟨0, q, rfl, .inr ⟨rfl, h.symm⟩⟩
  | q :: r, j + 2, u, h => by
    obtain ⟨i, p, hi, h1⟩ := psV_of r j u h
    refine ⟨i + 1, p, by simpa using hi, ?_⟩
    rcases h1 with ⟨e, hu⟩ | ⟨e, hu⟩
    · exact .inl ⟨by omega, hu⟩
    · exact .inr ⟨by omega, hu⟩
theorem Try.infoP : (Try.prog.info? 23).map (fun i => (i.zero, i.size, i.bytes)) = some (some (.agg #[.string ⟨#[]⟩, .string ⟨#[]⟩]), 2, 32) := by kernel_rfl
/-- append of paths that came in, none too, onto an empty row of the call's own. -/
theorem app_paths {w : World} {ops : Array Oper} {rest : List Oper} {o : Oper} {a : Act} {Q : Exit → Act → World → Prop} (hgd : o.guard = none) (s x : Operand)
    (ho : o.op = .call { callee := .builtin .append, args := #[s, x], argTypes := #[44, 44] }) (base : Nat) (v u : Value) (ps : List Pth) (hs : a.eval s = v) (hx : a.eval x = u)
    (hown : w.ownsRow base 23 2 v 0 []) (hat : PathsAt w u ps) (hnil : NilOk u) (h9 : ps.length ≤ 1000000) (hbase : base ≤ w.heap.size)
    (h : ∀ v' w', w'.ownsRow base 23 2 v' ps.length (psV ps) → w.grownBy w' v.ownBlock → wpList Try.prog ops Q rest (a.put o.dst v') w') :
    wpList Try.prog ops Q (o :: rest) a w := by
  obtain ⟨i0, hi, hz0, hz1, hz2⟩ := info_parts Try.infoP
  obtain ⟨A, c, rfl, hc⟩ := hat
  have hone : ∀ u ∈ psV ps, u.oneCell' = true := by
    intro u hu
    obtain ⟨l, _, hl⟩ := List.mem_flatMap.1 hu
    simp at hl
    rcases hl with rfl | rfl <;> rfl
  have hfin : ∀ v' w', w'.ownsRow base 23 2 v' (0 + ps.length) ([] ++ psV ps) → w.grownBy w' v.ownBlock → wpList Try.prog ops Q rest (a.put o.dst v') w' := fun v' w' h1 h2 => h v' w' (by rwa [Nat.zero_add, List.nil_append] at h1) h2
  cases A with
  | some ad =>
    refine wpList_append_own_at w hgd s x 44 ho base 23 i0 (.agg #[.string ⟨#[]⟩, .string ⟨#[]⟩]) 2 32 Try.underlying44 hi hz0 hz1 hz2 rfl (by decide) v 0 [] hs hown ad ps.length c (psV ps) hx (psV_length ps) ?_ hone (by unfold maxLen; omega) (by omega) hbase fun v' w' h1 h2 _ _ => hfin v' w' h1 h2
    intro j u hu
    obtain ⟨i, p, hp, h1⟩ := psV_of ps j u hu
    obtain ⟨A, e, _, c0, c1⟩ := hc i p hp
    injection e with e
    subst e
    rcases h1 with ⟨rfl, rfl⟩ | ⟨rfl, rfl⟩
    · exact c0
    · rw [add_succ]; exact c1
  | none =>
    have hps : ps = [] := by
      cases ps with
      | nil => rfl
      | cons p r => obtain ⟨_, e, _⟩ := hc 0 p rfl; cases e
    subst hps
    obtain rfl := hnil _ _ rfl
    refine wpList_plain hgd fun K hK' => ?_
    have hrun := run_append_owned_none (P := Try.prog) w base 44 o.type 23 i0 2 Try.underlying44 hi v 0 [] hown
    unfold Oper.wp
    simp [execOp, ho, resolve, invoke, builtin, hs, hx, hrun, Result.andThen]
    exact hK' _ _ (hfin v w (by simpa [psV] using hown) (World.grownBy.refl _ _))
theorem own_paths {w : World} {B : Nat} {v : Value} {ps : List Pth} (h : w.ownsRow B 23 2 v ps.length (psV ps)) : PathsAt w v ps := by
  rcases h.2 with ⟨rfl, h0⟩ | ⟨g, cap, cur, rfl, _⟩
  · have hps : ps = [] := List.eq_nil_of_length_eq_zero h0
    subst hps
    exact ⟨none, 0, rfl, fun i p hi => by simp at hi⟩
  · refine ⟨_, cap, rfl, fun i p hi => ?_⟩
    obtain ⟨h1, h2⟩ := psV_at ps i p hi
    refine ⟨_, rfl, (h.lt g rfl).2, h.cells rfl _ _ h1, ?_⟩
    rw [← add_succ]
    exact h.cells rfl _ _ h2
theorem own_empty (w : World) : (w.alloc (.cells #[] 23)).ownsRow w.heap.size 23 2 (.slice (some ⟨w.heap.size, 0, none⟩) 0 0) 0 [] := World.ownsRow_lit w #[] 0 (Nat.le_refl _) (Nat.zero_le _) rfl
theorem joinE_snoc (l : List Pth) (p : Pth) : joinE (l ++ [p]) = if joinE l = 0 then rightE p else joinE l := by
  induction l with
  | nil => by_cases h : rightE p = 0 <;> simp [joinE, h]
  | cons q r ih =>
    rw [List.cons_append, joinE, joinE]
    by_cases h : rightE q = 0
    · rw [if_pos h, if_pos h]; exact ih
    · rw [if_neg h, if_neg h, if_neg h]
theorem joinE_take {l : List Pth} {k : Nat} {p : Pth} (h : l[k]? = some p) : joinE (l.take (k + 1)) = if joinE (l.take k) = 0 then rightE p else joinE (l.take k) := by
  obtain ⟨hk, e⟩ := List.getElem?_eq_some_iff.1 h
  rw [List.take_succ_eq_append_getElem hk, e, joinE_snoc]
theorem joinE_all {l : List Pth} (h : joinE l = 0) : ∀ p ∈ l, rightE p = 0 := by
  induction l with
  | nil => simp
  | cons q r ih =>
    rw [joinE] at h
    split at h
    · rename_i h0
      intro p hp
      rcases List.mem_cons.1 hp with rfl | hp
      · exact h0
      · exact ih h p hp
    · rename_i h0; exact absurd h h0
theorem joinT_drop {l : List Pth} {k : Nat} {p : Pth} (h : l[k]? = some p) : joinT (l.drop k) = textL p ++ joinG (l.drop (k + 1)) := by
  obtain ⟨hk, e⟩ := List.getElem?_eq_some_iff.1 h
  rw [List.drop_eq_getElem_cons hk, e]
  rfl
theorem joinG_drop {l : List Pth} {k : Nat} (h : k < l.length) : joinG (l.drop k) = 32 :: joinT (l.drop k) := by
  rw [List.drop_eq_getElem_cons h]
  rfl
theorem joinG_len (l : List Pth) (h : ∀ p ∈ l, rightE p = 0) : (joinG l).length ≤ 401 * l.length := by
  induction l with
  | nil => simp [joinG]
  | cons q r ih =>
    have h1 := ih fun p hp => h p (by simp [hp])
    have h2 := text_len (h q (by simp))
    simp [joinG]
    omega
theorem joinG_nil {l : List Pth} {k : Nat} (h : l.length ≤ k) : joinG (l.drop k) = [] := by rw [List.drop_eq_nil_of_le h]; rfl
/-- One path of a slice, in a later world. -/
theorem PathsAt.get {W w : World} {v : Value} {ps : List Pth} (h : PathsAt W v ps) (hb : Below W.heap.size W w) {i : Nat} {p : Pth} (hi : ps[i]? = some p) {a : Option Addr} {n cap : Nat} (hv : v = .slice a n cap) :
    ∃ A, a = some A ∧ w.cell? (A.add (i * 2)) = some (.string (mkS p.1)) ∧ w.cell? ⟨(A.add (i * 2)).block, (A.add (i * 2)).off + 1, none⟩ = some (.string (mkS p.2)) := by
  obtain ⟨a', cap', hv', hc⟩ := h
  subst hv
  injection hv' with h1 h2 h3
  subst h1
  obtain ⟨A, ha, hA, c0, c1⟩ := hc i p hi
  have e : (A.add (i * 2)).block < W.heap.size := by rw [add_block]; exact hA
  exact ⟨A, ha, (hb.cell e).trans c0, (hb.cell (p := ⟨(A.add (i * 2)).block, (A.add (i * 2)).off + 1, none⟩) e).trans c1⟩
/-- What holds in the law's first loop. -/
structure J1 (W : World) (ps : List Pth) (k : Nat) (w : World) : Prop where
  short : ∀ q ∈ ps.take k, q.1.length ≤ 500 ∧ q.2.length ≤ 500
  below : Below W.heap.size W w
theorem J1.more {W w w' : World} {ps : List Pth} {k : Nat} {p : Pth} (h : J1 W ps k w) (hp : ps[k]? = some p) (h1 : p.1.length ≤ 500) (h2 : p.2.length ≤ 500) (hb : Below w.heap.size w w') : J1 W ps (k + 1) w' := by
  obtain ⟨hk, e⟩ := List.getElem?_eq_some_iff.1 hp
  refine ⟨fun q hq => ?_, below_next h.below hb⟩
  rw [List.take_succ_eq_append_getElem hk, e] at hq
  rcases List.mem_append.1 hq with hq | hq
  · exact h.short q hq
  · simp at hq; subst hq; exact ⟨h1, h2⟩
set_option maxRecDepth 100000 in
set_option maxHeartbeats 8000000 in
theorem pathJoins_x (v : Value) (ps : List Pth) (w : World) (hv : PathsAt w v ps ∧ NilOk v) :
    Calls Try.prog 6 #[v] w fun e w' => e = .returned (.bool true) ∧ Below w.heap.size w w' := by
  have HA := Lib.hid awake_x
  have HV := Lib.hid hv.1
  have HN := Lib.hid hv.2
  obtain ⟨a, cap, rfl, _⟩ := hv.1
  clear hv
  by_cases h30 : 30 < ps.length
  · have d1 : decide ((30 : Int) < (ps.length : Int)) = true := decide_eq_true (by omega)
    go_enter Try.func6, Try.ntmps6
    go_wp2_with fail
    refine (HA.out _).mono ?_
    rintro e w1 ⟨rfl, hb1⟩
    go_wp2_with fail
    go_ret
    exact ⟨rfl, hb1⟩
  have d1 : decide ((30 : Int) < (ps.length : Int)) = false := decide_eq_false (by omega)
  go_enter Try.func6, Try.ntmps6
  go_wp2_with fail
  refine (HA.out _).mono ?_
  rintro e w1 ⟨rfl, hb1⟩
  have HB1 := Lib.hid hb1
  clear hb1
  go_wp2_with fail
  go_loopw [3, 4] (fun f i wr => ∃ k : Nat, k ≤ ps.length ∧ i = .int .i64 k ∧ f = .int .i64 (joinE (ps.take k)) ∧ Hid (J1 w ps k wr)) (fun _ i _ => ps.length - (intOf i).toNat)
  case atStart => exact ⟨0, Nat.zero_le _, rfl, rfl, ⟨fun q hq => by simp at hq, HB1.out⟩⟩
  case round =>
    obtain ⟨k, hk, rfl, rfl, HJ⟩ := hrel
    by_cases hlt : k < ps.length
    · obtain ⟨p, hp⟩ : ∃ p : Pth, ps[k]? = some p := ⟨_, List.getElem?_eq_getElem hlt⟩
      have HP := Lib.hid hp
      obtain ⟨A, rfl, c0, c1⟩ := HV.out.get HJ.out.below hp rfl
      have c1' : wr.cell? (A.add (k * 2 + 1)) = some (.string (mkS p.2)) := by rw [add_succ]; exact c1
      have c1'' : wr.cell? ((A.add (k * 2)).add 1) = some (.string (mkS p.2)) := by rw [Go.Deep.add_add]; exact c1'
      have z1 := mkS_size p.1
      have z2 := mkS_size p.2
      have HT := Lib.hid (joinE_take hp)
      clear hp
      by_cases h1 : 500 < p.1.length
      · have d2 : decide ((500 : Int) < (p.1.length : Int)) = true := decide_eq_true (by omega)
        go_wp2_with fail
        go_ret
        exact ⟨rfl, HJ.out.below⟩
      have d2 : decide ((500 : Int) < (p.1.length : Int)) = false := decide_eq_false (by omega)
      by_cases h2 : 500 < p.2.length
      · have d3 : decide ((500 : Int) < (p.2.length : Int)) = true := decide_eq_true (by omega)
        go_wp2_with fail
        go_ret
        exact ⟨rfl, HJ.out.below⟩
      have d3 : decide ((500 : Int) < (p.2.length : Int)) = false := decide_eq_false (by omega)
      have HR := Lib.hid (fun w => riG_x p w (by omega) (by omega))
      have HM := Lib.hid (fun w' hb => HJ.out.more (w' := w') HP.out (by omega) (by omega) hb)
      by_cases h0 : joinE (ps.take k) = 0
      · have e0 : (joinE (ps.take k) == 0) = true := beq_iff_eq.2 h0
        have HS := Lib.hid (show joinE (ps.take (k + 1)) = rightE p by rw [HT.out, if_pos h0])
        clear h0
        go_wp2_with fail
        refine (HR.out _).mono ?_
        rintro e w2 ⟨rfl, hb⟩
        have HJ2 := Lib.hid (HM.out _ hb)
        clear hb
        go_wp2_with fail
        go_roundw
        case rel => exact ⟨k + 1, by omega, by go_num, by rw [HS.out], HJ2⟩
        case measure => simp [intOf]; omega
      · have e0 : (joinE (ps.take k) == 0) = false := beq_eq_false_iff_ne.2 h0
        have HS := Lib.hid (show joinE (ps.take (k + 1)) = joinE (ps.take k) by rw [HT.out, if_neg h0])
        clear h0
        go_wp2_with fail
        refine (HR.out _).mono ?_
        rintro e w2 ⟨rfl, hb⟩
        have HJ2 := Lib.hid (HM.out _ hb)
        clear hb
        go_wp2_with fail
        go_roundw
        case rel => exact ⟨k + 1, by omega, by go_num, by rw [HS.out], HJ2⟩
        case measure => simp [intOf]; omega
    · obtain rfl : k = ps.length := by omega
      have hsh := HJ.out.short
      rw [List.take_length] at hsh ⊢
      have HSH := Lib.hid hsh
      have HB2 := Lib.hid HJ.out.below
      have HO := Lib.hid (own_empty wr)
      have HV2 := Lib.hid (HV.out.below (HB2.out.alloc HB2.out.size (.cells #[] 23)))
      clear hsh
      go_wp2_with (at_builtin; refine app_paths rfl (.tmp 48) (.tmp 49) rfl wr.heap.size (.slice (some ⟨wr.heap.size, 0, none⟩) 0 0) (.slice a ps.length cap) ps rfl rfl HO.out HV2.out HN.out (by omega) (by simp) ?_; intro v' w2 hown hg)
      have HW2 := Lib.hid (show Below w.heap.size w w2 from (HB2.out.alloc HB2.out.size _).grown hg (by have := HB2.out.size; simp; omega) (fun k hk => by have := (HO.out.lt k hk).1; have := HB2.out.size; omega))
      have HJ2 := Lib.hid (join_x v' ps w2 (own_paths hown) (by omega) HSH.out)
      unfold JoPost at HJ2
      clear hown hg
      refine HJ2.out.mono ?_
      rintro e w3 ⟨rfl, hb⟩
      have HB3 := Lib.hid (below_next HW2.out hb)
      clear hb
      by_cases h0 : joinE ps = 0
      · have HALL := Lib.hid (joinE_all h0)
        have HVV := Lib.hid (show joinV ps = joinT (ps.drop 0) by rw [joinV, if_pos h0, List.drop_zero])
        rw [h0, HVV.out]
        clear h0
        go_wp2_with fail
        go_loopw [6, 8] (fun t i wr => ∃ k : Nat, k ≤ ps.length ∧ i = .int .i64 k ∧ t = .string (mkS (joinT (ps.drop k))) ∧ Hid (Below w.heap.size w wr)) (fun _ i _ => ps.length - (intOf i).toNat)
        case atStart => exact ⟨0, Nat.zero_le _, rfl, rfl, HB3⟩
        case round =>
          obtain ⟨k, hk, rfl, rfl, HB⟩ := hrel
          by_cases hlt : k < ps.length
          · obtain ⟨p, hp⟩ : ∃ p : Pth, ps[k]? = some p := ⟨_, List.getElem?_eq_getElem hlt⟩
            have HP := Lib.hid hp
            have hr0 := HALL.out p (List.mem_of_getElem? hp)
            have HTD := Lib.hid (joinT_drop hp)
            have hgl := joinG_len (ps.drop (k + 1)) (fun q hq => HALL.out q (List.mem_of_mem_drop hq))
            rw [List.length_drop] at hgl
            have HPA := Lib.hid (fun w => paT_x hr0 (joinG (ps.drop (k + 1))) (by omega) w)
            have hne := fun w => eqT p w
            rw [HTD.out]
            clear hp hr0 HTD
            by_cases hlast : k + 1 < ps.length
            · obtain ⟨jt, hjt⟩ : ∃ jt, joinT (ps.drop (k + 1)) = jt := ⟨_, rfl⟩
              obtain ⟨g, hg⟩ : ∃ g, joinG (ps.drop (k + 1)) = g := ⟨_, rfl⟩
              have hgj : g = 32 :: jt := by rw [← hg, ← hjt]; exact joinG_drop hlast
              rw [hg] at hgl HPA ⊢
              have HJT := Lib.hid hjt
              have hz : (mkS g).size = jt.length + 1 := by rw [mkS_size, hgj, List.length_cons]
              have hx0 : (mkS g)[0]'(by omega) = 32 := mkS_get (by omega) (by rw [hgj]; rfl)
              have hex : (mkS g).extract 1 (jt.length + 1) = mkS jt := by rw [mkS_extract, hgj]; simp
              have htl : jt.length ≤ 100000 := by rw [hgj, List.length_cons] at hgl; omega
              have d5 : decide ((k : Int) + 1 < (ps.length : Int)) = true := decide_eq_true (by omega)
              generalize textL p ++ g = tg at HPA ⊢
              clear hjt hg hgj hgl
              go_wp2_with fail
              refine (HPA.out _).mono ?_
              rintro e w4 ⟨rfl, hb⟩
              have X4 := Lib.hid (pb_new (below_next HB.out hb) p)
              clear hb
              obtain ⟨A, rfl, c0, c1⟩ := HV.out.get X4.out.below HP.out rfl
              have x0 := cellOf X4.out.box 0
              have x1 := cellOf X4.out.box 1
              have i0 : (0 : Int) ≤ (k : Int) := by omega
              have i1 : (k : Int) < (ps.length : Int) := by omega
              go_wp2_with fail
              go_quiet (fail)
              have HF := Lib.hid (below_drewN X4.out.below nq)
              clear c0 c1 x0 x1 i0 i1
              go_wp2_with fail
              go_roundw
              case rel => exact ⟨k + 1, by omega, by go_num, by rw [HJT.out], HF⟩
              case measure => simp [intOf]; omega
            · have HG := Lib.hid (joinG_nil (l := ps) (k := k + 1) (by omega))
              have HTN := Lib.hid (show joinT (ps.drop (k + 1)) = [] by rw [List.drop_eq_nil_of_le (by omega)]; rfl)
              have d5 : decide ((k : Int) + 1 < (ps.length : Int)) = false := decide_eq_false (by omega)
              rw [HG.out] at HPA ⊢
              generalize textL p ++ [] = tg at HPA ⊢
              go_wp2_with fail
              refine (HPA.out _).mono ?_
              rintro e w4 ⟨rfl, hb⟩
              have X4 := Lib.hid (pb_new (below_next HB.out hb) p)
              clear hb
              obtain ⟨A, rfl, c0, c1⟩ := HV.out.get X4.out.below HP.out rfl
              have x0 := cellOf X4.out.box 0
              have x1 := cellOf X4.out.box 1
              have i0 : (0 : Int) ≤ (k : Int) := by omega
              have i1 : (k : Int) < (ps.length : Int) := by omega
              go_wp2_with fail
              go_quiet (fail)
              have HF := Lib.hid (below_drewN X4.out.below nq)
              clear c0 c1 x0 x1 i0 i1
              go_wp2_with fail
              go_roundw
              case rel => exact ⟨k + 1, by omega, by go_num, by rw [HTN.out], HF⟩
              case measure => simp [intOf]; omega
          · have HTN := Lib.hid (show joinT (ps.drop k) = [] by rw [List.drop_eq_nil_of_le (by omega)]; rfl)
            rw [HTN.out, mkS_nil]
            go_wp2_with fail
            go_ret
            exact ⟨rfl, HB.out⟩
      · have d7 : (joinE ps != 0) = true := bne_iff_ne.2 h0
        have HVV := Lib.hid (show joinV ps = [] by rw [joinV, if_neg h0])
        rw [HVV.out, mkS_nil]
        clear h0
        go_wp2_with fail
        go_ret
        exact ⟨rfl, HB3.out⟩
end Go.Proofs.Ytamjoleknjmpoaa
