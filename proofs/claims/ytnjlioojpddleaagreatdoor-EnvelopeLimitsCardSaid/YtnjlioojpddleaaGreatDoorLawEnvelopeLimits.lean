import Derived.Test.YtnjlioojpddleaaGreatDoorMaEvD
import Derived.StillTailTactics
namespace Go.Proofs.YtnjlioojpddleaaGreatDoor.E
set_option maxRecDepth 100000
open Go.RowKit Go.Shelf
theorem MB.far {W w w' : World} {o : Obj} {x : EM} {vr vl : Value} (h : MB W x vr vl w) (hA : Apart w.heap.size (w.alloc o).heap.size (w.alloc o) w') : MB W x vr vl w' := h.next (far_apart hA)
def pk (l : List Rc) (i : Nat) : Rc := l.getD (i % l.length) ⟨([], []), zeroR⟩
def pks (l : List Rc) (k : Nat) : List Rc := (List.range k).map (pk l)
theorem pks_len (l : List Rc) (k : Nat) : (pks l k).length = k := by simp [pks]
theorem pks_more (l : List Rc) (k : Nat) : pks l (k + 1) = pks l k ++ [pk l k] := by simp [pks, List.range_succ]
theorem pk_get {l : List Rc} (h : 0 < l.length) (i : Nat) : l[i % l.length]? = some (pk l i) := by
 have := Nat.mod_lt i h
 rw [pk, List.getD_eq_getElem?_getD, List.getElem?_eq_getElem this]; rfl
theorem pks_mem {l : List Rc} (h : 0 < l.length) {k : Nat} {c : Rc} (hc : c ∈ pks l k) : c ∈ l := by
 obtain ⟨i, _, rfl⟩ := List.mem_map.1 hc
 exact List.mem_of_getElem? (pk_get h i)
structure LB (W : World) (x : EM) (vr vl : Value) (M : Nat) (l : List Rc) (v : Value) (w : World) : Prop where
 mb : MB W x vr vl w
 box : w.heap[M]? = some (.cells (EC x v vl) 45 (0, 0))
 row : w.ownsRow (M + 1) 58 5 v l.length (rcV l)
 lt : W.heap.size < M
theorem LB.next {W w w' : World} {x : EM} {vr vl : Value} {M : Nat} {l : List Rc} {v : Value} (h : LB W x vr vl M l v w) (hb : Below w.heap.size w w') : LB W x vr vl M l v w' :=
 ⟨h.mb.next hb, (hb.block _ (ltOf h.box)).trans h.box, own_below h.row hb, h.lt⟩
theorem LB.drew {W w : World} {x : EM} {vr vl : Value} {M : Nat} {l : List Rc} {v : Value} (h : LB W x vr vl M l v w) : LB W x vr vl M l v w.drew := h.next (below_drewN (Below.refl _ w) 1)
theorem LB.app {W w w' : World} {x : EM} {vr vl : Value} {M : Nat} {l l' : List Rc} {v v' : Value} {n : Nat} (h : LB W x vr vl M l v w) (hown : w'.ownsRow (M + 1) 58 5 v' n (rcV l')) (hn : n = l'.length) (hg : w.grownBy w' v.ownBlock) : LB W x vr vl M l' v' (w'.setCell ⟨M, 19, none⟩ v') := by
 subst hn
 have hlt := ltOf h.box
 have hW := h.lt
 have hne : ∀ k, v.ownBlock = some k → M + 1 ≤ k := fun k hk => (h.row.lt k hk).1
 have hb : Below (M + 1) w w' := (Below.refl (M + 1) w).grown hg hlt (fun k hk => hne k hk)
 have hbox := (hb.block M (by omega)).trans h.box
 have hb2 : Below M w (w'.setCell ⟨M, 19, none⟩ v') := Below.setCell (hb.mono (show M ≤ M + 1 by omega)) (p := ⟨M, 19, none⟩) (Nat.le_refl M) _
 refine ⟨⟨(hb2.block _ h.lt).trans h.mb.box, h.mb.below.trans (hb2.mono (by omega))⟩, ?_, ?_, h.lt⟩
 ·have := setOf hbox 19 v'
  rwa [EC_set] at this
 ·exact own_of hown fun k hk => Below.heap_setCell w' ⟨M, 19, none⟩ v' k (fun e => by have h1 := (hown.lt k hk).1; have e' : k = M := e; omega)
theorem LB.mid {W w w' : World} {x : EM} {vr vl : Value} {M : Nat} {l : List Rc} {v : Value} (h : LB W x vr vl M l v w) (hg : w.grownBy w' v.ownBlock) : w'.heap[M]? = some (.cells (EC x v vl) 45 (0, 0)) :=
 (hg.block M (ltOf h.box) (fun e => by have := (h.row.lt M e.symm).1; omega)).trans h.box
theorem LB.start {W w w' : World} {o : Obj} {x : EM} {vr vl : Value} (h : MB W x vr vl w) (hb : w'.heap[w.heap.size]? = some (.cells (EC x vr vl) 45 (0, 0))) (hA : Apart w.heap.size (w.alloc o).heap.size (w.alloc o) w') : LB W x vr vl w.heap.size [] nilS (w'.setCell ⟨w.heap.size, 19, none⟩ nilS) := by
 have hlt := ltOf h.box
 have hb2 : Below w.heap.size w (w'.setCell ⟨w.heap.size, 19, none⟩ nilS) := Below.setCell (far_apart hA) (p := ⟨w.heap.size, 19, none⟩) (Nat.le_refl _) _
 refine ⟨h.next hb2, ?_, ⟨rfl, .inl ⟨rfl, rfl⟩⟩, hlt⟩
 have := setOf hb 19 nilS
 rwa [EC_set] at this
theorem step_rcs {w : World} {ops : Array Oper} {o : Oper} {a : Act} {K : Act → World → Prop} {Q : Exit → Act → World → Prop} {E : Prop} (hgd : o.guard = none) (s x : Operand)
  (ho : o.op = .call { callee := .builtin .append, args := #[s, x], argTypes := #[42, 42] }) (base : Nat) (v : Value) (l : List Rc) (hs : a.eval s = v) (hown : w.ownsRow base 58 5 v l.length (rcV l))
  (A : Addr) (c : Rc) (n : Nat) (hx : a.eval x = .slice (some A) 1 n) (hb : ∀ j u, (RC c).toList[j]? = some u → w.cell? (A.add j) = some u) (h9 : l.length ≤ 1000000) (hbase : base ≤ w.heap.size)
  (h : ∀ g cap w', w'.ownsRow base 58 5 (.slice (some ⟨g, 0, none⟩) (l.length + 1) cap) (l.length + 1) (rcV (l ++ [c])) → w.grownBy w' v.ownBlock → K (a.put o.dst (.slice (some ⟨g, 0, none⟩) (l.length + 1) cap)) w') :
  if Region.wanted o (yielded ops a.tmps) = true then Oper.wp Tryz.prog o a w K Q else E := by
 obtain ⟨i0, hi, hz0, hz1, hz2⟩ := info_parts Tryz.infoRc
 refine step_append_lies w hgd s x 42 ho base 58 i0 _ 5 80 Tryz.underlying42 hi hz0 hz1 hz2 rfl (by decide) v l.length (rcV l) hs hown A 1 n (RC c).toList hx rfl hb ?_ (by decide) (by unfold maxLen; omega) (by omega) hbase _ rfl ?_
 ·intro u hu
  have hu' : u ∈ [Value.string (mkS c.p.1), .string (mkS c.p.2), .string (mkS c.r.no), .string (mkS c.r.kind), .string (mkS c.r.oc)] := hu
  simp only [List.mem_cons, List.not_mem_nil, or_false] at hu'
  rcases hu' with rfl | rfl | rfl | rfl | rfl <;> rfl
 ·intro g cap w' h1 h2 _ _
  refine h g cap w' ?_ h2
  rw [rcV_append]
  simpa [rcV] using h1
structure JB (W : World) (x : EM) (vr vl : Value) (M M9 M10 : Nat) (l : List Rc) (v : Value) (e9 e10 : Array Value) (w : World) : Prop where
 lb : LB W x vr vl M l v w
 b9 : w.heap[M9]? = some (.cells e9 45 (0, 0))
 b10 : w.heap[M10]? = some (.cells e10 45 (0, 0))
theorem JB.next {W w w' : World} {x : EM} {vr vl : Value} {M M9 M10 : Nat} {l : List Rc} {v : Value} {e9 e10 : Array Value} (h : JB W x vr vl M M9 M10 l v e9 e10 w) (hb : Below w.heap.size w w') : JB W x vr vl M M9 M10 l v e9 e10 w' := ⟨h.lb.next hb, (hb.block _ (ltOf h.b9)).trans h.b9, (hb.block _ (ltOf h.b10)).trans h.b10⟩
theorem en_rc {x : EM} (h : enE x = 0) {l : List Rc} (hl : ∀ c ∈ l, c ∈ x.rc) : (enE { x with rc := l } == 0) = (decide (1 ≤ l.length) && decide (l.length ≤ 8)) := by
 obtain ⟨a1, a2, a3, a4, a5, a6, a7⟩ := en_iff.1 h
 rw [Bool.eq_iff_iff, beq_iff_eq, en_iff, Bool.and_eq_true, decide_eq_true_eq, decide_eq_true_eq]
 constructor
 ·intro hh; exact hh.rc
 ·intro hh
  refine ⟨a1, a2, a3, fun c hc => ?_, hh, a6, a7⟩
  rcases List.mem_cons.1 hc with rfl | hc
  ·exact a4 _ (by simp [cmds]; exact .inl rfl)
  ·obtain ⟨d, hd, rfl⟩ := List.mem_map.1 hc
   exact a4 _ (List.mem_cons_of_mem _ (List.mem_map.2 ⟨d, hl d hd, rfl⟩))
theorem en_rel {x : EM} (h : enE x = 0) (k : Int) : (enE { x with rel := x.at_ + k } == 0) = (decide (0 ≤ k) && decide (k ≤ 1048576)) := by
 obtain ⟨a1, a2, a3, a4, a5, a6, a7⟩ := en_iff.1 h
 rw [Bool.eq_iff_iff, beq_iff_eq, en_iff, Bool.and_eq_true, decide_eq_true_eq, decide_eq_true_eq]
 constructor
 ·intro hh
  have := hh.rel
  simp only at this
  omega
 ·intro hh
  exact ⟨a1, a2, ⟨by simp only; omega, by simp only; omega⟩, a4, a5, a6, a7⟩
theorem en_ls {x : EM} (h : enE x = 0) : enE { x with ls := [] } = 0 := by
 obtain ⟨a1, a2, a3, a4, a5, a6, a7⟩ := en_iff.1 h
 exact en_iff.2 ⟨a1, a2, a3, a4, a5, (by decide +kernel : L.wrongOf 998 (bs []) = 0), (by decide +kernel : (L.dataOf (bs [])).length ≤ 4096)⟩
set_option maxHeartbeats 16000000 in
theorem envelopeLimits_x (x : EM) (vr vl : Value) (n later : Int) (w : World) (hR : Rdy w) (hE : EAt w x vr vl) (hS : ShE x) (c0 : -9223372036854775808 ≤ n) (c1 : n ≤ 9223372036854775807) (c2 : -9223372036854775808 ≤ later) (c3 : later ≤ 9223372036854775807) : Calls Tryz.prog 6 #[.agg (EC x vr vl), .int .i64 n, .int .i64 later] w fun e w' => e = .returned (.bool true) ∧ Below w.heap.size w w' := by
 obtain ⟨ra, rc, rfl⟩ := hE.rc.slice
 obtain ⟨lb, ld, rfl⟩ := txts_slice hE.ls
 generalize hrn : x.rc.length = rn at *
 generalize hlm : x.ls.length = lm at *
 have HM := Lib.hid (MB.new w x (.slice ra rn rc) (.slice lb lm ld))
 have HR := Lib.hid (fun w' (h : Below w.heap.size w w') => hR.below h)
 have HE := Lib.hid (fun w' (h : Below w.heap.size w w') => hE.below h)
 have HSM := Lib.hid (fun w' (h : Below w.heap.size w w') => msmall_x x _ _ w' (hE.below h) hS)
 have HRN := Lib.hid hrn
 unfold SmPost at HSM
 clear hR hE hS hrn hlm
 go_enter Tryz.func6, Tryz.ntmps6
 go_wp2_with fail
 refine (awake_x _ (HR.out _ HM.out.below)).mono ?_
 rintro e w1 ⟨rfl, hb⟩
 have HM1 := Lib.hid (HM.out.next hb)
 clear hb HM
 go_wp2_with (first | ((with_reducible refine is_load (ty := 45) (x := .tmp 3) rfl ?_); refine wpList_load_blk rfl 45 (.tmp 3) rfl w.heap.size 0 45 (EC x (.slice ra rn rc) (.slice lb lm ld)) (EC x (.slice ra rn rc) (.slice lb lm ld)) _ rfl HM1.out.box Tryz.underlying45 rfl size_msg (fun j _ => by rw [Nat.zero_add]) ?_))
 refine (HSM.out _ HM1.out.below).mono ?_
 rintro e w2 ⟨q, rfl, hq, hb⟩
 have HM2 := Lib.hid (HM1.out.next hb)
 have HQ := Lib.hid hq
 clear hb HM1 hq HSM
 cases q
 ·go_wp2_with fail
  go_ret
  exact ⟨rfl, HM2.out.below⟩
 have HS := Lib.hid (HQ.out rfl)
 clear HQ
 by_cases k1 : n < 0
 ·go_wp2_with fail
  go_ret
  exact ⟨rfl, HM2.out.below⟩
 by_cases k2 : 20 < n
 ·go_wp2_with fail
  go_ret
  exact ⟨rfl, HM2.out.below⟩
 by_cases k3 : later < -1099511627776
 ·go_wp2_with fail
  go_ret
  exact ⟨rfl, HM2.out.below⟩
 by_cases k4 : 1099511627776 < later
 ·go_wp2_with fail
  go_ret
  exact ⟨rfl, HM2.out.below⟩
 obtain ⟨n, rfl⟩ := int_nat (show 0 ≤ n by omega)
 have HP := Lib.hid (right_x x _ _ w2 (HE.out _ HM2.out.below) HS.out.fit (HR.out _ HM2.out.below))
 go_wp2_with (first | ((with_reducible refine is_load (ty := 45) (x := .tmp 3) rfl ?_); refine wpList_load_blk rfl 45 (.tmp 3) rfl w.heap.size 0 45 (EC x (.slice ra rn rc) (.slice lb lm ld)) (EC x (.slice ra rn rc) (.slice lb lm ld)) _ rfl HM2.out.box Tryz.underlying45 rfl size_msg (fun j _ => by rw [Nat.zero_add]) ?_))
 refine HP.out.mono ?_
 rintro e w3 ⟨rfl, hb⟩
 have HM3 := Lib.hid (HM2.out.next hb)
 clear hb HM2 HP
 by_cases he : enE x = 0
 ·have H0 := Lib.hid he
  have hrl := (en_iff.1 he).rc
  rw [HRN.out] at hrl
  have hat := (en_iff.1 he).at_
  rw [he]
  clear he
  go_upto_region 8 with (first | ((with_reducible refine is_load (ty := 45) (x := .tmp 3) rfl ?_); refine wpList_load_blk rfl 45 (.tmp 3) rfl w.heap.size 0 45 (EC x (.slice ra rn rc) (.slice lb lm ld)) (EC x (.slice ra rn rc) (.slice lb lm ld)) _ rfl HM3.out.box Tryz.underlying45 rfl size_msg (fun j _ => by rw [Nat.zero_add]) ?_) | ((with_reducible refine is_store (ty := 45) (x := .tmp 7) (y := .tmp 35) rfl ?_); refine wpList_store_blk rfl 45 (.tmp 7) (.tmp 35) rfl w3.heap.size 0 45 (EC zeroE nilS nilS) (EC x (.slice ra rn rc) (.slice lb lm ld)) (EC x (.slice ra rn rc) (.slice lb lm ld)) rfl rfl (newOf w3 _) size_msg (one_ECs _ _ _ _ _ _ _) (Nat.le_of_eq rfl) (whole_EC _ _ _ _ rfl) ?_; intro v1 hB1 hA1))
  have HLB := Lib.hid (LB.start HM3.out hB1 hA1)
  have c19 : v1.cell? ⟨w3.heap.size, 19, none⟩ = some (.slice ra rn rc) := cellOf hB1 19
  have f19 := freeOf hB1 19
  clear hB1 hA1 HM3
  generalize w3.heap.size = M at HLB c19 f19 ⊢
  go_wp2_with fail
  generalize hv1 : (v1.setCell ⟨M, 19, none⟩ (.slice none 0 0)) = v2
  have HLB2 := Lib.hid (show LB w x (.slice ra rn rc) (.slice lb lm ld) M [] nilS v2 from hv1 ▸ HLB.out)
  clear hv1 HLB c19 f19
  go_loopw [8] (fun i wr => ∃ k : Nat, k ≤ n ∧ i = .int .i64 k ∧ Hid (∃ v, LB w x (.slice ra rn rc) (.slice lb lm ld) M (pks x.rc k) v wr)) (fun i _ => n - (intOf i).toNat)
  case atStart => exact ⟨0, Nat.zero_le _, rfl, _, HLB2.out⟩
  case round =>
   obtain ⟨k, hk, rfl, HV⟩ := hrel
   obtain ⟨v, h3⟩ := HV.out
   have HL := Lib.hid h3
   clear h3 HV HLB2
   obtain ⟨A1, cp, hvs⟩ : ∃ A c, v = .slice A k c := by have := own_slice HL.out.row; rwa [pks_len] at this
   subst hvs
   by_cases hlt : k < n
   ·obtain ⟨a', cap', hve, hcc, hnn, hcx⟩ := (HE.out _ HL.out.mb.below).rc
    injection hve with e1 e2 e3
    subst e1 e3
    clear e2
    have hgt := pk_get (l := x.rc) (by rw [HRN.out]; omega) k
    rw [HRN.out] at hgt
    obtain ⟨A, rfl, hab, ⟨al, d0, d1, d2, d3, d4⟩⟩ := hcx _ _ hgt
    have c19 : wr.cell? ⟨M, 19, none⟩ = some (.slice A1 k cp) := cellOf HL.out.box 19
    have f19 := freeOf HL.out.box 19
    have b19 : wr.cell? ⟨w.heap.size, 19, none⟩ = some (.slice (some A) rn rc) := cellOf HL.out.mb.box 19
    have qm : ((k : Int)).tmod (rn : Int) = ((k % rn : Nat) : Int) := rfl
    have hn0 : ¬ rn = 0 := by omega
    have hml := Nat.mod_lt k (show 0 < rn by omega)
    have HPM := Lib.hid (pks_more x.rc k)
    have hpl := pks_len x.rc k
    clear hgt hcx hnn hcc
    generalize pk x.rc k = c at d0 d1 d2 d3 d4 HPM
    generalize k % rn = r at qm hml d0 d1 d2 d3 d4 al
    generalize pks x.rc k = P at HL HPM hpl
    go_wp2_with fail
    subst hpl
    have hb5 := rc_cells wr.drew c
    have HN := Lib.hid (HL.out.drew.next ((Below.refl _ wr.drew).alloc (Nat.le_refl _) (.cells (RC c) 58)))
    have hlm5 : P.length ≤ 1000000 := by omega
    have c19a : (wr.alloc (.cells #[.string (mkS c.p.1), .string (mkS c.p.2), .string (mkS c.r.no), .string (mkS c.r.kind), .string (mkS c.r.oc)] 58)).cell? ⟨M, 19, none⟩ = some (.slice A1 P.length cp) := cellOf (HL.out.next ((Below.refl _ wr).alloc (Nat.le_refl _) (.cells (RC c) 58))).box 19
    go_region_law ((refine step_rcs rfl (.tmp 43) (.tmp 53) rfl (M + 1) (.slice A1 P.length cp) P rfl (HL.out.drew.row.alloc _) ⟨wr.heap.size, 0, none⟩ c 1 rfl hb5 hlm5 (by have := ltOf HN.out.box; simp at this ⊢; omega) ?_; intro g cap w2 k1 k2; have K1 := Lib.hid k1; have K2 := Lib.hid k2; have hbx := HN.out.mid k2; have c19' : w2.cell? ⟨M, 19, none⟩ = some (.slice A1 P.length cp) := cellOf hbx 19; have f19' := freeOf hbx 19; clear k1 k2 hbx))
    all_goals
     have HL3 := Lib.hid (HN.out.app (l' := P ++ [c]) K1.out (by simp) K2.out)
     clear K1 K2 c19' f19'
     go_wp2_with fail
     go_roundw
    all_goals first | exact ⟨P.length + 1, by omega, by go_num, _, by rw [HPM.out]; exact HL3.out⟩ | (simp [intOf]; omega)
   ·have hke : k = n := by omega
    subst hke
    go_upto_region 14 with (first | ((with_reducible refine is_load (ty := 45) (x := .tmp 3) rfl ?_); refine wpList_load_blk rfl 45 (.tmp 3) rfl w.heap.size 0 45 (EC x (.slice ra rn rc) (.slice lb lm ld)) (EC x (.slice ra rn rc) (.slice lb lm ld)) _ rfl HL.out.mb.box Tryz.underlying45 rfl size_msg (fun j _ => by rw [Nat.zero_add]) ?_) | ((with_reducible refine is_store (ty := 45) (x := .tmp 9) (y := .tmp 56) rfl ?_); refine wpList_store_blk rfl 45 (.tmp 9) (.tmp 56) rfl wr.heap.size 0 45 (EC zeroE nilS nilS) (EC x (.slice ra rn rc) (.slice lb lm ld)) (EC x (.slice ra rn rc) (.slice lb lm ld)) rfl rfl (newOf wr _) size_msg (one_ECs _ _ _ _ _ _ _) (Nat.le_of_eq rfl) (whole_EC _ _ _ _ rfl) ?_; intro v2 hB2 hA2))
    have hb3 := far_apart hA2
    have HL3 := Lib.hid (HL.out.next hb3)
    have q1 : v2.cell? ⟨w.heap.size, 1, none⟩ = some (.int .i64 x.at_) := cellOf HL3.out.mb.box 1
    have q2 : v2.cell? ⟨wr.heap.size, 2, none⟩ = some (.int .i64 x.rel) := cellOf hB2 2
    have q3 := freeOf hB2 2
    have q4 : IntKind.i64.wrap (x.at_ + later) = x.at_ + later := IntWalk.i64_in _ (by omega)
    have HB9 := Lib.hid (show (v2.setCell ⟨wr.heap.size, 2, none⟩ (.int .i64 (x.at_ + later))).heap[wr.heap.size]? = some (.cells (EC { x with rel := x.at_ + later } (.slice ra rn rc) (.slice lb lm ld)) 45 (0, 0)) from setOf hB2 2 _)
    have HL4 := Lib.hid (HL.out.next (Below.setCell hb3 (p := ⟨wr.heap.size, 2, none⟩) (Nat.le_refl _) (.int .i64 (x.at_ + later))))
    clear hb3 hB2 hA2 HL3 HL
    generalize wr.heap.size = M9 at HB9 HL4 q2 q3 ⊢
    go_upto_region 15 with fail
    generalize (v2.setCell ⟨M9, 2, none⟩ (.int .i64 (x.at_ + later))) = w5 at HB9 HL4 ⊢
    clear q1 q2 q3 q4
    go_upto_region 16 with (first | ((with_reducible refine is_load (ty := 45) (x := .tmp 3) rfl ?_); refine wpList_load_blk rfl 45 (.tmp 3) rfl w.heap.size 0 45 (EC x (.slice ra rn rc) (.slice lb lm ld)) (EC x (.slice ra rn rc) (.slice lb lm ld)) _ rfl HL4.out.mb.box Tryz.underlying45 rfl size_msg (fun j _ => by rw [Nat.zero_add]) ?_) | ((with_reducible refine is_store (ty := 45) (x := .tmp 10) (y := .tmp 62) rfl ?_); refine wpList_store_blk rfl 45 (.tmp 10) (.tmp 62) rfl w5.heap.size 0 45 (EC zeroE nilS nilS) (EC x (.slice ra rn rc) (.slice lb lm ld)) (EC x (.slice ra rn rc) (.slice lb lm ld)) rfl rfl (newOf w5 _) size_msg (one_ECs _ _ _ _ _ _ _) (Nat.le_of_eq rfl) (whole_EC _ _ _ _ rfl) ?_; intro v3 hB3 hA3))
    have hb6 := far_apart hA3
    have q2 : v3.cell? ⟨w5.heap.size, 20, none⟩ = some (.slice lb lm ld) := cellOf hB3 20
    have q3 := freeOf hB3 20
    have hb7 := Below.setCell hb6 (p := ⟨w5.heap.size, 20, none⟩) (Nat.le_refl _) nilS
    have HB10 := Lib.hid (show (v3.setCell ⟨w5.heap.size, 20, none⟩ nilS).heap[w5.heap.size]? = some (.cells (EC { x with ls := [] } (.slice ra rn rc) nilS) 45 (0, 0)) from setOf hB3 20 _)
    have HL5 := Lib.hid (HL4.out.next hb7)
    have HB9' := Lib.hid ((hb7.block _ (ltOf HB9.out)).trans HB9.out)
    clear hb6 hb7 hB3 hA3 HL4 HB9
    generalize w5.heap.size = M10 at HB10 HL5 HB9' q2 q3 ⊢
    go_upto_region 17 with fail
    generalize hw7 : v3.setCell ⟨M10, 20, none⟩ (.slice none 0 0) = w7
    rw [show v3.setCell ⟨M10, 20, none⟩ nilS = w7 from hw7] at HB10 HL5 HB9'
    clear hw7 q2 q3
    have HJ := Lib.hid (show (JB w x (.slice ra rn rc) (.slice lb lm ld) M M9 M10 (pks x.rc k) (.slice A1 k cp) (EC { x with rel := x.at_ + later } (.slice ra rn rc) (.slice lb lm ld)) (EC { x with ls := [] } (.slice ra rn rc) nilS) w7) from ⟨HL5.out, HB9'.out, HB10.out⟩)
    clear HL5 HB9' HB10
    have h0 := H0.out
    have e1 := en_rc h0 (l := pks x.rc k) (fun c hc => pks_mem (by rw [HRN.out]; omega) hc)
    have e2 := en_rel h0 later
    have e3 := en_ls h0
    rw [pks_len] at e1
    have f0 := HS.out.fit
    have hk8 : k ≤ 20 := by omega
    have HP1 := Lib.hid (fun w' (h : Hid ((JB w x (.slice ra rn rc) (.slice lb lm ld) M M9 M10 (pks x.rc k) (.slice A1 k cp) (EC { x with rel := x.at_ + later } (.slice ra rn rc) (.slice lb lm ld)) (EC { x with ls := [] } (.slice ra rn rc) nilS) w'))) => (right_x { x with rc := pks x.rc k } (.slice A1 k cp) (.slice lb lm ld) w' ⟨own_rcs h.out.lb.row, (HE.out _ h.out.lb.mb.below).ls⟩ ⟨f0.fr, fun c hc => f0.rc c (pks_mem (by rw [HRN.out]; omega) hc), (by rw [show (({ x with rc := pks x.rc k } : EM).rc) = pks x.rc k from rfl, pks_len]; omega), f0.ls, f0.ln⟩ (HR.out _ h.out.lb.mb.below)).mono fun e w2 (q : e = .returned (.int .i64 (enE { x with rc := pks x.rc k })) ∧ Below w'.heap.size w' w2) => show e = .returned (.int .i64 (enE { x with rc := pks x.rc k })) ∧ Hid ((JB w x (.slice ra rn rc) (.slice lb lm ld) M M9 M10 (pks x.rc k) (.slice A1 k cp) (EC { x with rel := x.at_ + later } (.slice ra rn rc) (.slice lb lm ld)) (EC { x with ls := [] } (.slice ra rn rc) nilS) w2)) from ⟨q.1, h.out.next q.2⟩)
    have HP2 := Lib.hid (fun w' (h : Hid ((JB w x (.slice ra rn rc) (.slice lb lm ld) M M9 M10 (pks x.rc k) (.slice A1 k cp) (EC { x with rel := x.at_ + later } (.slice ra rn rc) (.slice lb lm ld)) (EC { x with ls := [] } (.slice ra rn rc) nilS) w'))) => (right_x { x with rel := x.at_ + later } (.slice ra rn rc) (.slice lb lm ld) w' ⟨(HE.out _ h.out.lb.mb.below).rc, (HE.out _ h.out.lb.mb.below).ls⟩ ⟨f0.fr, f0.rc, f0.rn, f0.ls, f0.ln⟩ (HR.out _ h.out.lb.mb.below)).mono fun e w2 (q : e = .returned (.int .i64 (enE { x with rel := x.at_ + later })) ∧ Below w'.heap.size w' w2) => show e = .returned (.int .i64 (enE { x with rel := x.at_ + later })) ∧ Hid ((JB w x (.slice ra rn rc) (.slice lb lm ld) M M9 M10 (pks x.rc k) (.slice A1 k cp) (EC { x with rel := x.at_ + later } (.slice ra rn rc) (.slice lb lm ld)) (EC { x with ls := [] } (.slice ra rn rc) nilS) w2)) from ⟨q.1, h.out.next q.2⟩)
    have HP3 := Lib.hid (fun w' (h : Hid ((JB w x (.slice ra rn rc) (.slice lb lm ld) M M9 M10 (pks x.rc k) (.slice A1 k cp) (EC { x with rel := x.at_ + later } (.slice ra rn rc) (.slice lb lm ld)) (EC { x with ls := [] } (.slice ra rn rc) nilS) w'))) => (right_x { x with ls := [] } (.slice ra rn rc) nilS w' ⟨(HE.out _ h.out.lb.mb.below).rc, txts_nil w'⟩ ⟨f0.fr, f0.rc, f0.rn, (by show (L.joinB (bs [])).length ≤ 1000000000; decide +kernel), (by show (0 : Nat) ≤ 1000000; omega)⟩ (HR.out _ h.out.lb.mb.below)).mono fun e w2 (q : e = .returned (.int .i64 (enE { x with ls := [] })) ∧ Below w'.heap.size w' w2) => show e = .returned (.int .i64 0) ∧ Hid ((JB w x (.slice ra rn rc) (.slice lb lm ld) M M9 M10 (pks x.rc k) (.slice A1 k cp) (EC { x with rel := x.at_ + later } (.slice ra rn rc) (.slice lb lm ld)) (EC { x with ls := [] } (.slice ra rn rc) nilS) w2)) from ⟨q.1.trans (by rw [e3]), h.out.next q.2⟩)
    clear e3 f0 h0 H0 HS HE HR
    generalize enE { x with rc := pks x.rc k } = n1 at e1 HP1
    generalize enE { x with rel := x.at_ + later } = n2 at e2 HP2
    clear hlt hk hat hrl
    have E1 : ((n1 == 0) = true ∧ 1 ≤ (k : Int) ∧ (k : Int) ≤ 8) ∨ ((n1 == 0) = false ∧ ¬ 1 ≤ (k : Int)) ∨ ((n1 == 0) = false ∧ 1 ≤ (k : Int) ∧ ¬ (k : Int) ≤ 8) := by
     by_cases a1 : 1 ≤ k
     ·by_cases a2 : k ≤ 8
      ·exact .inl ⟨by rw [e1]; simp [a1, a2], by omega, by omega⟩
      ·exact .inr (.inr ⟨by rw [e1]; simp [a2], by omega, by omega⟩)
     ·exact .inr (.inl ⟨by rw [e1]; simp [a1], by omega⟩)
    have E2 : ((n2 == 0) = true ∧ 0 ≤ later ∧ later ≤ 1048576) ∨ ((n2 == 0) = false ∧ ¬ 0 ≤ later) ∨ ((n2 == 0) = false ∧ 0 ≤ later ∧ ¬ later ≤ 1048576) := by
     by_cases a1 : 0 ≤ later
     ·by_cases a2 : later ≤ 1048576
      ·exact .inl ⟨by rw [e2]; simp [a1, a2], by omega, by omega⟩
      ·exact .inr (.inr ⟨by rw [e2]; simp [a2], by omega, by omega⟩)
     ·exact .inr (.inl ⟨by rw [e2]; simp [a1], by omega⟩)
    clear e1 e2 hk8
    rcases E1 with ⟨a1, a2, a3⟩ | ⟨a1, a2⟩ | ⟨a1, a2, a3⟩
    all_goals rcases E2 with ⟨b1, b2, b3⟩ | ⟨b1, b2⟩ | ⟨b1, b2, b3⟩
    all_goals
     go_wp2_with (first | ((with_reducible refine is_load (ty := 45) (x := .tmp 7) rfl ?_); refine wpList_load_want ?_ 45 (.tmp 7) rfl M 0 45 (EC x (.slice A1 k cp) (.slice lb lm ld)) (EC x (.slice A1 k cp) (.slice lb lm ld)) _ rfl HJ.out.lb.box Tryz.underlying45 rfl size_msg (fun j _ => by rw [Nat.zero_add]) ?_; (focus (first | rfl | (go_simp; done)))))
     refine (HP1.out _ HJ).mono ?_
     rintro e w8 ⟨rfl, g8⟩
     go_wp2_with (first | ((with_reducible refine is_load (ty := 45) (x := .tmp 9) rfl ?_); refine wpList_load_want ?_ 45 (.tmp 9) rfl M9 0 45 (EC { x with rel := x.at_ + later } (.slice ra rn rc) (.slice lb lm ld)) (EC { x with rel := x.at_ + later } (.slice ra rn rc) (.slice lb lm ld)) _ rfl g8.out.b9 Tryz.underlying45 rfl size_msg (fun j _ => by rw [Nat.zero_add]) ?_; (focus (first | rfl | (go_simp; done)))))
     refine (HP2.out _ g8).mono ?_
     rintro e w9 ⟨rfl, g9⟩
     go_wp2_with (first | ((with_reducible refine is_load (ty := 45) (x := .tmp 10) rfl ?_); refine wpList_load_want ?_ 45 (.tmp 10) rfl M10 0 45 (EC { x with ls := [] } (.slice ra rn rc) nilS) (EC { x with ls := [] } (.slice ra rn rc) nilS) _ rfl g9.out.b10 Tryz.underlying45 rfl size_msg (fun j _ => by rw [Nat.zero_add]) ?_; (focus (first | rfl | (go_simp; done)))))
     refine (HP3.out _ g9).mono ?_
     rintro e w10 ⟨rfl, g10⟩
     go_wp2_with fail
     go_ret
     exact ⟨by first | rfl | (simp; omega) | (simp; done), g10.out.lb.mb.below⟩
 ·have hne : (enE x != 0) = true := by rw [bne_iff_ne]; exact he
  clear he
  generalize enE x = n2 at hne ⊢
  go_wp2_with fail
  go_ret
  exact ⟨rfl, HM3.out.below⟩
end Go.Proofs.YtnjlioojpddleaaGreatDoor.E
