import Derived.Test.YtojpkbonioglbaaGreatDoorMaRtW
import Derived.BigQuiet
import Derived.Deep.OwnRows
import Derived.Test.YtojpkbonioglbaaGreatDoorMaRtP
namespace Go.Proofs.YtojpkbonioglbaaGreatDoor.E.T
set_option maxRecDepth 100000
open Go.RowKit Go.Shelf
set_option linter.unusedSimpArgs false
theorem tregion {P : Program} {id : Nat} {Q : Exit → Act → World → Prop} {a : Act} {w : World} {l : List Oper} (hm : P.follows .mixedOrders = true) (hB : Region.lexB .any l.toArray = true) {Y : Type} (F : Y → World) (y0 : Y) (hy : F y0 = w.drew)
  (h : wpQuiet P l.toArray (fun w' => ∃ y, w' = F y) (fun a' => ∀ w', (∃ y, w' = F y) → Q .normal a' w') l a) : (Code.region id l.toArray true).wp P Q a w :=
 wp_region_quiet (C := fun w' => ∃ y, w' = F y) hm hB ⟨y0, hy.symm⟩ (by simpa using h)
theorem tcls (w0 : World) : ∃ (Y : Type) (F : Y → World) (y0 : Y), F y0 = w0.drew ∧ (∀ y, Below w0.heap.size w0 (F y)) ∧ (∀ w', Below w0.heap.size w0 w' → ∃ y, w' = F y) :=
 ⟨{w' // Below w0.heap.size w0 w'}, Subtype.val, ⟨w0.drew, (Below.refl _ _).drew⟩, rfl, fun y => y.2, fun w' h => ⟨⟨w', h⟩, rfl⟩⟩
theorem tin_cls {Y : Type} {F : Y → World} {w0 : World} (h1 : ∀ y, Below w0.heap.size w0 (F y)) (h2 : ∀ w', Below w0.heap.size w0 w' → ∃ y, w' = F y) {f : FuncId} {args : Array Value} {v : Value} (H : ∀ w', Below w0.heap.size w0 w' → Calls Tryz.prog f args w' fun e w'' => e = .returned v ∧ Below w'.heap.size w' w'') (y : Y) :
  Calls Tryz.prog f args (F y) fun e w' => e = .returned v ∧ ∃ y, w' = F y :=
 (H (F y) (h1 y)).mono fun _ _ ⟨he, hb⟩ => ⟨he, h2 _ (below_next (h1 y) hb)⟩
theorem tis_load {P : Program} {ops : Array Oper} {rest : List Oper} {op : Oper} {a : Act} {w : World} {Q : Exit → Act → World → Prop} {ty : TypeId} {x : Operand} (_ : op.op = .load ty x) (h : wpList P ops Q (op :: rest) a w) : wpList P ops Q (op :: rest) a w := h
theorem tload {P : Program} {ops : Array Oper} {rest : List Oper} {op : Oper} {a : Act} {w : World} {Q : Exit → Act → World → Prop} (hw : Region.wanted op (yielded ops a.tmps) = true) (ty : TypeId) (x : Operand) (ho : op.op = .load ty x) (b o : Nat) (t : TypeId) (cs vs : Array Value) (d : TypeDesc) (hx : a.eval x = .pointer (some ⟨b, o, none⟩)) (hb : w.heap[b]? = some (.cells cs t (0, 0)))
  (hu : P.underlying ty = some d) (hd : d.isRow = true) (hi : (P.info? ty).map (·.size) = some vs.size) (hc : ∀ j, j < vs.size → cs[o + j]? = vs[j]?)
  (h : wpList P ops Q rest (a.put op.dst (.agg vs)) w) : wpList P ops Q (op :: rest) a w := by
 refine wpList_step fun K hK => ?_
 rw [if_pos hw]
 refine wp_load_mid ty x ho b o hx vs.toList d (fun j v hv => ?_) hu hd (by simpa using hi) (hK _ _ (by simpa using h))
 rw [cellOf hb]
 rw [Array.getElem?_toList] at hv
 rw [hc j (Array.getElem?_eq_some_iff.1 hv).1]; exact hv
def I3 (e : E3) : Prop := R.I64 e.1 ∧ R.I64 e.2.1 ∧ R.I64 e.2.2
set_option maxHeartbeats 4000000 in
theorem dotted_x (e : E3) (w : World) (h : I3 e) (hR : R.Ready w) : Calls Tryz.prog 59 #[.agg #[.int .i64 e.1, .int .i64 e.2.1, .int .i64 e.2.2]] w fun x w' => x = .returned (.string (mkS (dots e))) ∧ Below w.heap.size w w' := by
 obtain ⟨e1, e2, e3⟩ := e
 obtain ⟨h1, h2, h3⟩ := h
 have hb := below_box w (.cells #[.int .i64 e1, .int .i64 e2, .int .i64 e3] 35)
 have hbx := newOf w (.cells #[.int .i64 e1, .int .i64 e2, .int .i64 e3] 35)
 have l1 := R.itoa_len h1
 have l2 := R.itoa_len h2
 have l3 := R.itoa_len h3
 have s1 := mkS_size (Lib.itoa e1)
 have s2 := mkS_size (Lib.itoa e2)
 have s3 := mkS_size (Lib.itoa e3)
 have HD := Lib.hid (show dots (e1, e2, e3) = Lib.itoa e1 ++ [46] ++ Lib.itoa e2 ++ [46] ++ Lib.itoa e3 by unfold dots; simp)
 have HR0 := Lib.hid (R.ready_below hR hb)
 obtain ⟨Y, F, f0, hf0, hF1, hF2⟩ := tcls (w.alloc (.cells #[.int .i64 e1, .int .i64 e2, .int .i64 e3] 35))
 have X0 : ∀ y, (F y).cell? ⟨w.heap.size, 0, none⟩ = some (.int .i64 e1) := fun y => cellOf (((hF1 y).block _ (ltOf hbx)).trans hbx) 0
 have X1 : ∀ y, (F y).cell? ⟨w.heap.size, 1, none⟩ = some (.int .i64 e2) := fun y => cellOf (((hF1 y).block _ (ltOf hbx)).trans hbx) 1
 have X2 : ∀ y, (F y).cell? ⟨w.heap.size, 2, none⟩ = some (.int .i64 e3) := fun y => cellOf (((hF1 y).block _ (ltOf hbx)).trans hbx) 2
 have C1 := Lib.hid (tin_cls hF1 hF2 fun w' hb' => R.itoa_x e1 h1 w' (R.ready_below HR0.out hb'))
 have C2 := Lib.hid (tin_cls hF1 hF2 fun w' hb' => R.itoa_x e2 h2 w' (R.ready_below HR0.out hb'))
 have C3 := Lib.hid (tin_cls hF1 hF2 fun w' hb' => R.itoa_x e3 h3 w' (R.ready_below HR0.out hb'))
 have HF1 := Lib.hid hF1
 have HB := Lib.hid hb
 have hNE : Nonempty Y := ⟨f0⟩
 rw [HD.out]
 clear hF1 hF2 hR hbx hb h1 h2 h3 HD
 generalize Lib.itoa e1 = t1 at *
 generalize Lib.itoa e2 = t2 at *
 generalize Lib.itoa e3 = t3 at *
 go_enter Tryz.func59, Tryz.ntmps59
 go_upto_region 1 with fail
 refine tregion (by kernel_rfl) (by kernel_rfl) F f0 hf0 ?_
 repeat (go_big_quiet_step (first | (go_at_call 22; (first | (with_reducible exact C1.out _) | (with_reducible exact C2.out _) | (with_reducible exact C3.out _)))))
 refine wpQuiet_nil ?_
 rintro _ ⟨z, rfl⟩
 go_wp2_with fail
 go_ret
 exact ⟨ret_str (by rw [show (⟨#[46]⟩ : ByteArray) = mkS [46] from rfl]; simp only [mkS_cat]), below_next HB.out (HF1.out z)⟩
theorem tstep_look {op : Oper} {a : Act} {w : World} {ops : Array Oper} {K : Act → World → Prop} {Q : Exit → Act → World → Prop} {E : Prop} (hgd : op.guard = none) (t : TypeId) (m k : Operand) (b : Bool) (ho : op.op = .lookup t m k b) (v : Value) (hl : (Instr.lookup t (a.eval m) (a.eval k) b).run Tryz.prog w = .ok v w)
  (h : K (a.put op.dst v) w) : if Region.wanted op (yielded ops a.tmps) = true then Oper.wp Tryz.prog op a w K Q else E := by
 rw [if_pos (by simp [Region.wanted, hgd])]
 unfold Oper.wp
 simp [execOp, ho, hl, Result.andThen]
 exact h
theorem cls_look {w : World} {M : Nat} (h : MapIs w M 4 clsF) (s : Txt) (hs : s.length ≤ 1000000000) (b : Bool) : (Instr.lookup 80 (.map (some M)) (.string (mkS s)) b).run Tryz.prog w = .ok (if b then .tuple #[.int .i64 ((clsK s).getD 0), .bool (clsK s).isSome] else .int .i64 ((clsK s).getD 0)) w := by
 cases b
 ·have k := h.look Tryz.underlying80 (z := .int .i64 0) (by kernel_rfl) hs
  rw [k]
  unfold clsF
  cases clsK s <;> rfl
 ·have k := h.look_ok Tryz.underlying80 (z := .int .i64 0) (by kernel_rfl) hs
  rw [k]
  unfold clsF
  cases clsK s <;> rfl
theorem jE_rp (r : RT) (vr vl vt : Value) : ∀ j, j < (#[.int .i64 r.rp.code, .int .i64 r.rp.e.1, .int .i64 r.rp.e.2.1, .int .i64 r.rp.e.2.2, vt] : Array Value).size → (RE r vr vl vt)[26 + j]? = (#[.int .i64 r.rp.code, .int .i64 r.rp.e.1, .int .i64 r.rp.e.2.1, .int .i64 r.rp.e.2.2, vt] : Array Value)[j]? := by
 intro j hj
 have hj' : j < 5 := hj
 match j, hj' with
 | 0, _ => rfl
 | 1, _ => rfl
 | 2, _ => rfl
 | 3, _ => rfl
 | 4, _ => rfl
 | j + 5, h => omega
structure RP (w : World) (r : RT) (vr vl vt : Value) : Prop where
 at_ : RAt w r vr vl vt
 fit : FitE r.x
 rdy : Rdy w
 ri : R.RI r.rp.code r.rp.e
 tn : r.rp.text.length ≤ 1000000000000000
 tl : ∀ t ∈ r.rp.text, t.length ≤ 1000000000000000
 kl : r.kind.length ≤ 1000000000
 rn : r.x.rc.length ≤ 1000000
theorem RP.below {w w' : World} {r : RT} {vr vl vt : Value} (h : RP w r vr vl vt) (hb : Below w.heap.size w w') : RP w' r vr vl vt := ⟨h.at_.below hb, h.fit, h.rdy.below hb, h.ri, h.tn, h.tl, h.kl, h.rn⟩
set_option maxHeartbeats 8000000 in
theorem rright_x (r : RT) (vr vl vt : Value) (w : World) (hP : RP w r vr vl vt) : Calls Tryz.prog 17 #[rtA r vr vl vt] w fun e w' => e = .returned (.int .i64 (rtE r)) ∧ Below w.heap.size w w' := by
 have HB := Lib.hid (RB.new w r vr vl vt)
 have HK := Lib.hid hP.kl
 have HP := Lib.hid hP
 obtain ⟨ra, rcap, rfl, _, _, _⟩ := hP.at_.e.rc
 clear hP
 go_enter Tryz.func17, Tryz.ntmps17
 go_upto_region 1 with fail
 rw [show w.alloc (.cells #[.string (mkS r.kind), .int .i64 r.x.id, .int .i64 r.x.at_, .int .i64 r.x.rel, .string (mkS r.x.fr.1), .string (mkS r.x.fr.2), .bool r.x.m.hs, .bool r.x.m.hf, .bool r.x.m.hu, .bool r.x.m.hb, .bool r.x.m.hp, .int .i64 r.x.m.sz, .int .i64 r.x.m.fo, .int .i64 r.x.m.un, .int .i64 r.x.m.by_, .int .i64 r.x.m.pr, .string (mkS r.x.m.body), .string (mkS r.x.m.ret), .string (mkS r.x.m.env), .string (mkS r.x.m.mode), (.slice ra r.x.rc.length rcap), vl, .int .i64 r.pl, .int .i64 r.now, .int .i64 r.til, .string (mkS r.host), .int .i64 r.rp.code, .int .i64 r.rp.e.1, .int .i64 r.rp.e.2.1, .int .i64 r.rp.e.2.2, vt] 39) = w.alloc (.cells (RE r (.slice ra r.x.rc.length rcap) vl vt) 39) from rfl]
 generalize w.alloc (.cells (RE r (.slice ra r.x.rc.length rcap) vl vt) 39) = w1 at *
 have HS := Lib.hid (fun wr (h : RB w r (.slice ra r.x.rc.length rcap) vl vt wr) => show wr.cell? ⟨w.heap.size, 0, none⟩ = some (.string (mkS r.kind)) from cellOf h.box 0)
 go_cut [3, 4] from 8 (fun _ a wc => a = .bool (clsK r.kind).isSome ∧ Hid (RB w r (.slice ra r.x.rc.length rcap) vl vt wc))
 case first =>
  have Gd := Lib.hid (HB.out.next (Below.refl _ _).drew)
  refine wp_region_held_drew (S := fun wr => wr.cell? ⟨w.heap.size, 0, none⟩ = some (.string (mkS r.kind))) (by kernel_rfl) (HS.out _ Gd.out) (fun hH => ?_)
  generalize w1.drew = wd at *
  refine wpAnyH_take (i := 1) (oi := { dst := some 10, op := _, type := _, pos := _, after := _, guard := _ }) (v := .pointer (some ⟨w.heap.size, 0, none⟩)) rfl (by kernel_rfl) (by kernel_rfl) (by kernel_rfl) (fun _ _ _ h => h) (Or.inl ⟨by kernel_rfl, fun wz hz => by kernel_rfl⟩) hH ?_
  try simp only [Act.put, List.setIfInBounds_toArray, List.set_cons_zero, List.set_cons_succ]
  refine wpAnyH_take (i := 2) (oi := { dst := some 11, op := _, type := _, pos := _, after := _, guard := _ }) (v := .string (mkS r.kind)) rfl (by kernel_rfl) (by kernel_rfl) (by kernel_rfl) (fun _ _ _ h => h) (Or.inl ⟨by kernel_rfl, fun wz hz => by have h1 := hz; go_simp⟩) hH ?_
  try simp only [Act.put, List.setIfInBounds_toArray, List.set_cons_zero, List.set_cons_succ]
  refine wpAnyH_ready (rs := [0]) (by kernel_rfl) (by simp) ?_
  refine AllReadyH.cons rfl (fun K hK => ?_) AllReadyH.nil
  go_simp
  go_at_call 37
  refine (classes_x _).mono ?_
  rintro x w2 ⟨M, rfl, hb, hm⟩
  have G2 := Lib.hid (Gd.out.next hb)
  have HL := Lib.hid (cls_look hm r.kind HK.out true)
  clear hb hm
  refine hK.out _ _ (HS.out _ G2.out) (fun hHn => ?_)
  clear hK K hH
  have hH := hHn
  clear hHn
  try simp only [Act.put, List.setIfInBounds_toArray, List.set_cons_zero, List.set_cons_succ]
  refine wpAnyH_ready (rs := [3]) (by kernel_rfl) (by simp) ?_
  refine AllReadyH.cons rfl (fun K hK => ?_) AllReadyH.nil
  refine tstep_look rfl 80 (.tmp 9) (.tmp 11) true rfl _ HL.out ?_
  refine hK.out _ _ (HS.out _ G2.out) (fun hHn => ?_)
  clear hK K hH
  have hH := hHn
  clear hHn
  try simp only [Act.put, List.setIfInBounds_toArray, List.set_cons_zero, List.set_cons_succ]
  refine wpAnyH_take (i := 4) (oi := { dst := some 8, op := _, type := _, pos := _, after := _, guard := _ }) (v := .tuple #[.int .i64 ((clsK r.kind).getD 0), .bool (clsK r.kind).isSome]) rfl (by kernel_rfl) (by kernel_rfl) (by kernel_rfl) (fun _ _ _ h => h) (Or.inl ⟨by kernel_rfl, fun wz hz => by kernel_rfl⟩) hH ?_
  try simp only [Act.put, List.setIfInBounds_toArray, List.set_cons_zero, List.set_cons_succ]
  refine wpAnyH_take (i := 5) (oi := { dst := some 13, op := _, type := _, pos := _, after := _, guard := _ }) (v := .int .i64 ((clsK r.kind).getD 0)) rfl (by kernel_rfl) (by kernel_rfl) (by kernel_rfl) (fun _ _ _ h => h) (Or.inl ⟨by kernel_rfl, fun wz hz => by kernel_rfl⟩) hH ?_
  try simp only [Act.put, List.setIfInBounds_toArray, List.set_cons_zero, List.set_cons_succ]
  refine wpAnyH_take (i := 6) (oi := { dst := some 14, op := _, type := _, pos := _, after := _, guard := _ }) (v := .bool (clsK r.kind).isSome) rfl (by kernel_rfl) (by kernel_rfl) (by kernel_rfl) (fun _ _ _ h => h) (Or.inl ⟨by kernel_rfl, fun wz hz => by kernel_rfl⟩) hH ?_
  try simp only [Act.put, List.setIfInBounds_toArray, List.set_cons_zero, List.set_cons_succ]
  refine wpAnyH_take (i := 7) (oi := { dst := some 3, op := _, type := _, pos := _, after := _, guard := _ }) (v := .int .i64 ((clsK r.kind).getD 0)) rfl (by kernel_rfl) (by kernel_rfl) (by kernel_rfl) (fun _ _ _ h => h) (Or.inl ⟨by kernel_rfl, fun wz hz => by kernel_rfl⟩) hH ?_
  try simp only [Act.put, List.setIfInBounds_toArray, List.set_cons_zero, List.set_cons_succ]
  refine wpAnyH_take (i := 8) (oi := { dst := some 4, op := _, type := _, pos := _, after := _, guard := _ }) (v := .bool (clsK r.kind).isSome) rfl (by kernel_rfl) (by kernel_rfl) (by kernel_rfl) (fun _ _ _ h => h) (Or.inl ⟨by kernel_rfl, fun wz hz => by kernel_rfl⟩) hH ?_
  try simp only [Act.put, List.setIfInBounds_toArray, List.set_cons_zero, List.set_cons_succ]
  refine wpAnyH_done (by kernel_rfl) ?_ _
  go_wp2_with fail
  go_meet
  case rel => exact ⟨rfl, G2⟩
 case rest =>
 obtain ⟨rfl, HG⟩ := hcut
 clear HB HS HK
 by_cases hk : clsK r.kind = none
 ·have HV := Lib.hid (show (10 : Int) = rtE r by unfold rtE; rw [if_pos hk])
  rw [show (clsK r.kind).isSome = false by rw [hk]; rfl]
  clear hk
  go_wp2_with fail
  go_ret
  exact ⟨ret_int HV.out, HG.out.below⟩
 rw [show (clsK r.kind).isSome = true by cases h : clsK r.kind with | none => exact absurd h hk | some _ => rfl]
 have HK := Lib.hid hk
 clear hk
 have c22 : wc.cell? ⟨w.heap.size, 22, none⟩ = some (.int .i64 r.pl) := cellOf HG.out.box 22
 have c23 : wc.cell? ⟨w.heap.size, 23, none⟩ = some (.int .i64 r.now) := cellOf HG.out.box 23
 have c24 : wc.cell? ⟨w.heap.size, 24, none⟩ = some (.int .i64 r.til) := cellOf HG.out.box 24
 have c20 : wc.cell? ⟨w.heap.size, 20, none⟩ = some (.slice ra r.x.rc.length rcap) := cellOf HG.out.box 20
 have wl : IntKind.i64.wrap ((r.x.rc.length : Int) - 1) = (r.x.rc.length : Int) - 1 := IntWalk.i64_in _ (by have := HP.out.rn; omega)
 go_wp2_with fail
 refine (within_x r.now 0 1099511627776 _).mono ?_
 rintro e w' ⟨rfl, rfl⟩
 rcases Bool.eq_false_or_eq_true (inR r.now 0 1099511627776) with h1 | h1
 rotate_left
 ·have HV := Lib.hid (show (1 : Int) = rtE r by unfold rtE; rw [if_neg HK.out, h1, Bool.false_and, if_pos rfl])
  rw [h1]
  clear h1
  go_wp2_with fail
  go_ret
  exact ⟨ret_int HV.out, HG.out.below⟩
 rw [h1]
 have H1 := Lib.hid h1
 clear h1
 go_wp2_with fail
 refine (within_x r.til 0 2199023255552 _).mono ?_
 rintro e w' ⟨rfl, rfl⟩
 rcases Bool.eq_false_or_eq_true (inR r.til 0 2199023255552) with h1 | h1
 rotate_left
 ·have HV := Lib.hid (show (1 : Int) = rtE r by unfold rtE; rw [if_neg HK.out, H1.out, h1, Bool.false_and, Bool.and_false, if_pos rfl])
  rw [h1]
  clear h1
  go_wp2_with fail
  go_ret
  exact ⟨ret_int HV.out, HG.out.below⟩
 rw [h1]
 have H2 := Lib.hid h1
 clear h1
 go_wp2_with fail
 refine (within_x r.pl 0 ((r.x.rc.length : Int) - 1) _).mono ?_
 rintro e w' ⟨rfl, rfl⟩
 rcases Bool.eq_false_or_eq_true (inR r.pl 0 ((r.x.rc.length : Int) - 1)) with h1 | h1
 rotate_left
 ·have HV := Lib.hid (show (1 : Int) = rtE r by unfold rtE; rw [if_neg HK.out, H1.out, H2.out, h1, Bool.and_false, Bool.and_false, if_pos rfl])
  rw [h1]
  clear h1
  go_wp2_with fail
  go_ret
  exact ⟨ret_int HV.out, HG.out.below⟩
 rw [h1]
 have HR3 := Lib.hid (show (inR r.now 0 1099511627776 && (inR r.til 0 2199023255552 && inR r.pl 0 ((r.x.rc.length : Int) - 1))) = true by rw [H1.out, H2.out, h1]; rfl)
 clear h1 H1 H2 c20 c22 c23 c24 wl
 go_wp2_with (first | ((with_reducible refine tis_load (ty := 34) (x := .tmp 38) rfl ?_); refine tload ?_ 34 (.tmp 38) rfl w.heap.size 1 39 (RE r (.slice ra r.x.rc.length rcap) vl vt) (EC r.x (.slice ra r.x.rc.length rcap) vl) _ rfl HG.out.box Tryz.underlying34 rfl size_msg (jE_msg r (.slice ra r.x.rc.length rcap) vl vt) ?_; (focus (first | rfl | (go_simp; done)))))
 refine (right_x r.x _ vl _ (HP.out.at_.e.below HG.out.below) HP.out.fit (HP.out.rdy.below HG.out.below)).mono ?_
 rintro e w2 ⟨rfl, hb⟩
 have HG2 := Lib.hid (HG.out.next hb)
 clear hb HG
 by_cases hen : enE r.x = 0
 case neg =>
  have HV := Lib.hid (show enE r.x = rtE r by unfold rtE; rw [if_neg HK.out, HR3.out, if_neg (by decide), if_pos hen])
  have he2 : (enE r.x != 0) = true := by simpa using hen
  have he3 : (enE r.x == 0) = false := by simpa using hen
  clear hen
  go_wp2_with fail
  go_ret
  exact ⟨ret_int HV.out, HG2.out.below⟩
 rw [hen]
 have HEN := Lib.hid hen
 clear hen
 have f4 : w2.cell? ⟨w.heap.size, 4, none⟩ = some (.string (mkS r.x.fr.1)) := cellOf HG2.out.box 4
 have f5 : w2.cell? ⟨w.heap.size, 5, none⟩ = some (.string (mkS r.x.fr.2)) := cellOf HG2.out.box 5
 go_wp2_with fail
 refine (P.null_x r.x.fr _).mono ?_
 rintro e w3 ⟨rfl, hb⟩
 have HG3 := Lib.hid (HG2.out.next hb)
 clear hb HG2 f4 f5
 rcases Bool.eq_false_or_eq_true (P.nullB r.x.fr) with hu | hu
 ·have HV := Lib.hid (show (9 : Int) = rtE r by unfold rtE; rw [if_neg HK.out, HR3.out, if_neg (by decide), HEN.out, if_neg (by decide), if_pos hu])
  rw [hu]
  clear hu
  go_wp2_with fail
  go_ret
  exact ⟨ret_int HV.out, HG3.out.below⟩
 rw [hu]
 have HNU := Lib.hid hu
 clear hu
 have c25 : w3.cell? ⟨w.heap.size, 25, none⟩ = some (.string (mkS r.host)) := cellOf HG3.out.box 25
 go_wp2_with fail
 refine (P.domain_x r.host _).mono ?_
 rintro e w4 ⟨rfl, hb⟩
 have HG4 := Lib.hid (HG3.out.next hb)
 clear hb HG3 c25
 have d25 : w4.cell? ⟨w.heap.size, 25, none⟩ = some (.string (mkS r.host)) := cellOf HG4.out.box 25
 have ee : ((mkS (P.domainV r.host)).toList == (mkS r.host).toList) = (P.domainV r.host == r.host) := mkS_eqb _ _
 by_cases hd : P.domainE r.host = 0
 case neg =>
  have HV := Lib.hid (show (2 : Int) = rtE r by unfold rtE; rw [if_neg HK.out, HR3.out, if_neg (by decide), HEN.out, if_neg (by decide), HNU.out, if_neg (by decide), if_pos]; rw [show (P.domainE r.host == 0) = false by simpa using hd]; rfl)
  have he2 : (P.domainE r.host != 0) = true := by simpa using hd
  have he3 : (P.domainE r.host == 0) = false := by simpa using hd
  clear hd ee
  go_wp2_with fail
  go_ret
  exact ⟨ret_int HV.out, HG4.out.below⟩
 rw [hd]
 have HD := Lib.hid hd
 clear hd
 rcases Bool.eq_false_or_eq_true (P.domainV r.host == r.host) with hv | hv
 rotate_left
 ·have HV := Lib.hid (show (2 : Int) = rtE r by unfold rtE; rw [if_neg HK.out, HR3.out, if_neg (by decide), HEN.out, if_neg (by decide), HNU.out, if_neg (by decide), if_pos]; rw [hv]; simp)
  rw [hv] at ee
  clear hv
  go_wp2_with fail
  go_ret
  exact ⟨ret_int HV.out, HG4.out.below⟩
 have HV2 := Lib.hid (show rtE r = if r.rp.code = 0 then 0 else rpRight r.rp by unfold rtE; rw [if_neg HK.out, HR3.out, if_neg (by decide), HEN.out, if_neg (by decide), HNU.out, if_neg (by decide), if_neg]; rw [HD.out, hv]; decide)
 rw [hv] at ee
 clear hv
 go_wp2_with (first | ((with_reducible refine tis_load (ty := 39) (x := .tmp 1) rfl ?_); refine tload ?_ 39 (.tmp 1) rfl w.heap.size 0 39 (RE r (.slice ra r.x.rc.length rcap) vl vt) (RE r (.slice ra r.x.rc.length rcap) vl vt) _ rfl HG4.out.box Tryz.underlying39 rfl size_rt (fun j _ => by rw [Nat.zero_add]) ?_; (focus (first | rfl | (go_simp; done)))))
 refine (replied_x r _ vl vt _).mono ?_
 rintro e w5 ⟨rfl, hb⟩
 have HG5 := Lib.hid (HG4.out.next hb)
 clear hb HG4 d25 ee
 by_cases hc : r.rp.code = 0
 ·have HV := Lib.hid (show (0 : Int) = rtE r by rw [HV2.out, if_pos hc])
  rw [show (r.rp.code != 0) = false by rw [hc]; rfl]
  clear hc
  go_wp2_with fail
  go_ret
  exact ⟨ret_int HV.out, HG5.out.below⟩
 have HV := Lib.hid (show rpRight r.rp = rtE r by rw [HV2.out, if_neg hc])
 rw [show (r.rp.code != 0) = true by simpa using hc]
 clear hc
 go_wp2_with (first | ((with_reducible refine tis_load (ty := 37) (x := .tmp 64) rfl ?_); refine tload ?_ 37 (.tmp 64) rfl w.heap.size 26 39 (RE r (.slice ra r.x.rc.length rcap) vl vt) #[.int .i64 r.rp.code, .int .i64 r.rp.e.1, .int .i64 r.rp.e.2.1, .int .i64 r.rp.e.2.2, vt] _ rfl HG5.out.box Tryz.underlying37 rfl size_rp (jE_rp r (.slice ra r.x.rc.length rcap) vl vt) ?_; (focus (first | rfl | (go_simp; done)))))
 refine (R.right_x r.rp vt HP.out.ri _ (HP.out.rdy.below HG5.out.below).r.2 (HP.out.at_.t.below HG5.out.below) HP.out.tn HP.out.tl).mono ?_
 rintro e w6 ⟨rfl, hb⟩
 have HG6 := Lib.hid (HG5.out.next hb)
 clear hb HG5
 go_wp2_with fail
 go_ret
 exact ⟨ret_int HV.out, HG6.out.below⟩
end Go.Proofs.YtojpkbonioglbaaGreatDoor.E.T
namespace Go.Proofs.YtojpkbonioglbaaGreatDoor.E.T
set_option maxRecDepth 100000
open Go.RowKit
structure FR (W : World) (g n k : Nat) (l : List Txt) (w : World) : Prop where
 row : ∃ cur : Array Value, w.heap[g]? = some (.cells cur 9 (0, 0)) ∧ cur.size = n ∧ ∀ (i : Nat) (t : Txt), i < k → l[i]? = some t → cur[i]? = some (.string (mkS t))
 below : Below W.heap.size W w
 ge : W.heap.size ≤ g
theorem FR.next {W w w' : World} {g n k : Nat} {l : List Txt} (h : FR W g n k l w) (hb : Below w.heap.size w w') : FR W g n k l w' := by
 obtain ⟨cur, h1, h2, h3⟩ := h.row
 exact ⟨⟨cur, (hb.block _ (ltOf h1)).trans h1, h2, h3⟩, below_next h.below hb, h.ge⟩
theorem FR.cell {W w : World} {g n k : Nat} {l : List Txt} (h : FR W g n k l w) {i : Nat} (hi : i < n) : ∃ x, w.cell? ⟨g, i, none⟩ = some x ∧ w.frozen? ⟨g, i, none⟩ = false := by
 obtain ⟨cur, h1, h2, h3⟩ := h.row
 exact ⟨cur[i]'(by omega), by rw [cellOf h1, Array.getElem?_eq_getElem], freeOf h1 i⟩
theorem FR.set {W w : World} {g n k : Nat} {l : List Txt} {t : Txt} (h : FR W g n k l w) (hk : k < n) (ht : l[k]? = some t) : FR W g n (k + 1) l (w.setCell ⟨g, k, none⟩ (.string (mkS t))) := by
 obtain ⟨cur, h1, h2, h3⟩ := h.row
 refine ⟨⟨_, setOf h1 k _, by simpa using h2, fun i x hi hx => ?_⟩, h.below.setCell (p := ⟨g, k, none⟩) h.ge _, h.ge⟩
 by_cases e : i = k
 ·subst e
  rw [ht] at hx
  injection hx with hx
  subst hx
  rw [Array.getElem?_setIfInBounds_self_of_lt (by omega)]
 ·rw [Array.getElem?_setIfInBounds_ne (by omega)]
  exact h3 i x (by omega) hx
theorem FR.txts {W w : World} {g n : Nat} {l : List Txt} (h : FR W g n n l w) (hl : l.length = n) : TxtsAt w (.slice (some ⟨g, 0, none⟩) n n) l := by
 obtain ⟨cur, h1, h2, h3⟩ := h.row
 refine ⟨_, n, by rw [hl], by omega, fun e => by (cases e), fun i t hi => ⟨_, rfl, ltOf h1, ?_⟩⟩
 have hlt := (List.getElem?_eq_some_iff.1 hi).1
 rw [show (⟨g, 0, none⟩ : Addr).add i = ⟨g, i, none⟩ by unfold Addr.add; split <;> simp_all, cellOf h1]
 exact h3 i t (by omega) hi
theorem FR.new {W w : World} (n : Nat) (l : List Txt) (h : Below W.heap.size W w) : FR W w.heap.size n 0 l (w.alloc (.cells (madeCells #[.string { data := #[] }] n) 9)) :=
 ⟨⟨_, newOf w _, by simp [madeCells], fun i t hi => absurd hi (Nat.not_lt_zero _)⟩, h.alloc h.size _, h.size⟩
theorem make_txts (n : Nat) (hn : n ≤ 1000000) (w : World) : (Instr.makeSlice 22 (.int .i64 (n : Int)) (.int .i64 (n : Int))).run Tryz.prog w = .ok (.slice (some ⟨w.heap.size, 0, none⟩) n n) (w.alloc (.cells (madeCells #[.string { data := #[] }] n) 9)) :=
 run_make_row' 22 9 (.string { data := #[] }) 16 Tryz.underlying22 Tryz.infoT rfl .i64 .i64 n (by omega) (by omega) w
theorem clone_x (l : List UInt8) (w : World) (hl : l.length ≤ 1000000000000) :
  Calls Tryz.prog 27 #[.string (mkS l)] w fun e w' => e = .returned (.string (mkS l)) ∧ Below w.heap.size w w' := by
 have hms := mkS_size l
 have HI := Lib.hid (fun w => Tryz.stringslite_Clone (mkS l) w (by omega))
 go_enter Tryz.func27, Tryz.ntmps27
 go_wp2_with fail
 refine (HI.out _).mono ?_
 rintro e w' ⟨rfl, hb⟩
 go_wp2_with fail
 go_ret
 exact ⟨rfl, hb⟩
def ClonesPost (l : List Txt) (w : World) (e : Ending) (w' : World) : Prop := ∃ v, e = .returned v ∧ TxtsAt w' v l ∧ Below w.heap.size w w' ∧ ∀ A n c, v = .slice (some A) n c → w.heap.size ≤ A.block
set_option maxHeartbeats 2000000 in
theorem clones_x (l : List Txt) (v : Value) (w : World) (hv : TxtsAt w v l) (hn : l.length ≤ 100000) (hz : ∀ t ∈ l, t.length ≤ 1000000000) :
  Calls Tryz.prog 52 #[v] w (ClonesPost l w) := by
 obtain ⟨a, cap, rfl, _, _, hc⟩ := hv
 have HC := Lib.hid hc
 have HZ := Lib.hid hz
 have HM := Lib.hid (make_txts l.length (by omega))
 have HF := Lib.hid (FR.new l.length l (Below.refl w.heap.size w))
 clear hc hz
 have hmk := HM.out w
 go_enter Tryz.func52, Tryz.ntmps52
 go_wp2_with fail
 clear hmk
 go_loopw [11] (fun i wr => ∃ k : Nat, k ≤ l.length ∧ i = .int .i64 k ∧ Hid (FR w w.heap.size l.length k l wr)) (fun i _ => l.length - (intOf i).toNat)
 case atStart => exact ⟨0, Nat.zero_le _, rfl, HF⟩
 case round =>
  obtain ⟨k, hk, rfl, HFk⟩ := hrel
  by_cases hlt : k < l.length
  ·obtain ⟨t, ht⟩ : ∃ t, l[k]? = some t := ⟨_, List.getElem?_eq_getElem hlt⟩
   obtain ⟨ad, rfl, hab, hcw⟩ := HC.out k t ht
   have hcl : wr.cell? (ad.add k) = some (.string (mkS t)) := (HFk.out.below.cell (by rw [add_block]; exact hab)).trans hcw
   have HCl := Lib.hid (fun w => clone_x t w (by have := HZ.out t (List.mem_of_getElem? ht); omega))
   have HT := Lib.hid ht
   clear ht hcw hab
   go_wp2_with fail
   refine (HCl.out _).mono ?_
   rintro e w1 ⟨rfl, hb1⟩
   have HF1 := Lib.hid (HFk.out.next hb1)
   obtain ⟨old, c0, f0⟩ := HF1.out.cell hlt
   clear hb1 hcl
   go_wp2_with fail
   go_roundw
   case rel => exact ⟨k + 1, by omega, by go_num, Lib.hid (HF1.out.set hlt HT.out)⟩
   case measure => simp [intOf]; omega
  ·obtain rfl : k = l.length := by omega
   go_wp2_with fail
   go_ret
   exact ⟨_, rfl, HFk.out.txts rfl, HFk.out.below, fun A n c h => by cases h; exact Nat.le_refl _⟩
end Go.Proofs.YtojpkbonioglbaaGreatDoor.E.T
namespace Go.Proofs.YtojpkbonioglbaaGreatDoor.E.T
set_option maxRecDepth 100000
open Go.RowKit Go.Shelf
def tw (l : List Txt) : List Txt := l.takeWhile fun t => t != []
theorem tw_spec : ∀ l : List Txt, tw l = l.take (tw l).length ∧ (tw l).length ≤ l.length ∧ (∀ j, j < (tw l).length → ∃ t, l[j]? = some t ∧ t ≠ []) ∧ ((tw l).length < l.length → l[(tw l).length]? = some [])
 | [] => ⟨rfl, Nat.le_refl _, fun j h => absurd h (Nat.not_lt_zero _), fun h => absurd h (Nat.lt_irrefl _)⟩
 | a :: l => by
  obtain ⟨h1, h2, h3, h4⟩ := tw_spec l
  unfold tw
  rw [List.takeWhile_cons]
  by_cases ha : a = []
  ·subst ha
   simp
  ·rw [if_pos (by simpa using ha)]
   refine ⟨?_, by simp; exact h2, fun j hj => ?_, fun h => ?_⟩
   ·rw [List.length_cons, List.take_succ_cons]
    exact congrArg _ h1
   ·cases j with
    | zero => exact ⟨a, rfl, ha⟩
    | succ j => exact h3 j (by unfold tw; simpa using hj)
   ·rw [List.length_cons]
    exact h4 (by unfold tw; simpa using h)
theorem bs_get {l : List Txt} {j : Nat} {t : Txt} (h : l[j]? = some t) : (bs l).getD j ByteArray.empty = mkS t := by
 unfold bs
 rw [List.getD_eq_getElem?_getD, List.getElem?_map, h]
 rfl
theorem mk_ne {t : Txt} (h : t ≠ []) : mkS t ≠ ByteArray.empty := fun e => h (by
 have h1 := congrArg (fun b : ByteArray => b.data.toList) e
 simpa [mkS_data] using h1)
theorem idx_x (v : Value) (l : List Txt) (w : World) (hT : TxtsAt w v l) (hl : l.length ≤ 1000000000) : Calls Tryz.prog 51 #[v, .string { data := #[] }] w fun e w' => e = .returned (.int .i64 (if (tw l).length < l.length then ((tw l).length : Int) else -1)) ∧ w' = w := by
 obtain ⟨a, cap, rfl, _, _, hx⟩ := hT
 cases l with
 | nil => exact Tryz.slices_Index_string_empty a cap _ w
 | cons t0 l0 =>
  obtain ⟨A, rfl, _, h0⟩ := hx 0 t0 rfl
  have hsp := World.cell?_spot h0
  have hA : ∃ b o, A = ⟨b, o, none⟩ := by
   rw [show A.add 0 = A from (by unfold Addr.add; first | rfl | exact if_pos rfl | simp)] at hsp
   exact ⟨A.block, A.off, by cases A; simp only at hsp; rw [hsp]⟩
  obtain ⟨b, o, rfl⟩ := hA
  generalize hL : t0 :: l0 = l at *
  obtain ⟨s1, s2, s3, s4⟩ := tw_spec l
  have hlen : (bs l).length = l.length := by unfold bs; simp
  have hc : ∀ j, j < (bs l).length → w.cell? ⟨b, o + j, none⟩ = some (.string ((bs l).getD j ByteArray.empty)) := fun j hj => by
   rw [hlen] at hj
   obtain ⟨t, ht⟩ : ∃ t, l[j]? = some t := ⟨_, List.getElem?_eq_getElem hj⟩
   obtain ⟨A', hA', _, hcl⟩ := hx j t ht
   injection hA' with hA'
   subst hA'
   rw [add_at] at hcl
   rw [hcl, bs_get ht]
  have k := Tryz.slices_Index_string b o l.length cap (bs l) { data := #[] } w (by omega) (by omega) hc
  by_cases hlt : (tw l).length < l.length
  ·rw [if_pos hlt]
   rw [Lib.idxOfS_hit (bs l) l.length (tw l).length { data := #[] } hlt (by omega) (by rw [bs_get (s4 hlt)]; rfl) (fun j hj => by
    obtain ⟨t, ht, hne⟩ := s3 j hj
    rw [bs_get ht]
    exact mk_ne hne)] at k
   exact k
  ·rw [if_neg hlt]
   rw [Lib.idxOfS_miss (bs l) l.length { data := #[] } (fun j hj => by
    obtain ⟨t, ht, hne⟩ := s3 j (by omega)
    rw [bs_get ht]
    exact mk_ne hne)] at k
   exact k
theorem txts_take {w : World} {a : Option Addr} {n c k : Nat} {l : List Txt} (h : TxtsAt w (.slice a n c) l) (hk : k ≤ l.length) : TxtsAt w (.slice a (l.take k).length c) (l.take k) := by
 obtain ⟨a', c', hv, hc, h0, hx⟩ := h
 injection hv with e1 e2 e3
 subst e1 e3
 refine ⟨a, c, rfl, by rw [List.length_take]; omega, h0, fun i t hi => ?_⟩
 rw [List.getElem?_take] at hi
 split at hi
 ·exact hx i t hi
 ·cases hi
def bkPost (r : RT) (w : World) (e : Ending) (w' : World) : Prop := ∃ v, e = .returned (.tuple #[v, .string (mkS (if rtFull r then tyM else tyH))]) ∧ TxtsAt w' v (rtBack r) ∧ Below w.heap.size w w'
set_option maxHeartbeats 4000000 in
theorem returned_x (r : RT) (vr vl vt : Value) (w : World) (hT : TxtsAt w vl r.x.ls) (hl : r.x.ls.length ≤ 100000) (hz : ∀ t ∈ r.x.ls, t.length ≤ 1000000000) : Calls Tryz.prog 30 #[rtA r vr vl vt] w (bkPost r w) := by
 have HB := Lib.hid (RB.new w r vr vl vt)
 have HT := Lib.hid (hT.below HB.out.below)
 obtain ⟨la, lc, rfl⟩ := txts_slice hT
 have c0 : (w.alloc (.cells (RE r vr (.slice la r.x.ls.length lc) vt) 39)).cell? ⟨w.heap.size, 0, none⟩ = some (.string (mkS r.kind)) := cellOf HB.out.box 0
 have c17 : (w.alloc (.cells (RE r vr (.slice la r.x.ls.length lc) vt) 39)).cell? ⟨w.heap.size, 17, none⟩ = some (.string (mkS r.x.m.ret)) := cellOf HB.out.box 17
 have c21 : (w.alloc (.cells (RE r vr (.slice la r.x.ls.length lc) vt) 39)).cell? ⟨w.heap.size, 21, none⟩ = some (.slice la r.x.ls.length lc) := cellOf HB.out.box 21
 have e1 : ((mkS r.kind).toList == [102, 97, 105, 108, 101, 100]) = (r.kind == kFai) := by rw [mkS_toList]; rfl
 have e2 : ((mkS r.x.m.ret).toList == [70, 85, 76, 76]) = (r.x.m.ret == [70, 85, 76, 76]) := by rw [mkS_toList]
 have HF := Lib.hid (show rtFull r = (r.kind == kFai && r.x.m.ret == [70, 85, 76, 76]) from rfl)
 have HC := Lib.hid (fun l v w' (h : TxtsAt w' v l) (hn : l.length ≤ 100000) (hz : ∀ t ∈ l, t.length ≤ 1000000000) => clones_x l v w' h hn hz)
 have HL := Lib.hid (And.intro hl hz)
 have HK := Lib.hid (show rtBack r = if rtFull r then r.x.ls else tw r.x.ls from rfl)
 have HID := Lib.hid (idx_x _ r.x.ls _ HT.out (by omega))
 have HCAP := Lib.hid (show r.x.ls.length ≤ lc by obtain ⟨a, c, hv, hc, _⟩ := hT; injection hv with _ _ e3; rw [e3]; exact hc)
 unfold RE at HB HT c0 c17 c21 HID
 clear hT hl hz
 generalize (r.kind == kFai) = z1 at e1 HF
 generalize (r.x.m.ret == [70, 85, 76, 76]) = z2 at e2 HF
 go_enter Tryz.func30, Tryz.ntmps30
 cases z1
 rotate_left
 ·cases z2
  rotate_left
  ·go_wp2_with fail
   refine (HC.out _ _ _ (HT.out) HL.out.1 HL.out.2).mono ?_
   rintro e w' ⟨v, rfl, ht, hb, _⟩
   have HR := Lib.hid (And.intro ht (below_next HB.out.below hb))
   clear ht hb
   go_wp2_with fail
   go_ret2
   exact ⟨v, by rw [HF.out]; rfl, by rw [HK.out, HF.out]; exact HR.out.1, HR.out.2⟩
  ·by_cases hlt : (tw r.x.ls).length < r.x.ls.length
   ·have HI := Lib.hid (HID.out)
    rw [if_pos hlt] at HI
    have HTW := Lib.hid (txts_take HT.out (tw_spec r.x.ls).2.1)
    rw [← (tw_spec r.x.ls).1] at HTW
    have HZ := Lib.hid (show (tw r.x.ls).length ≤ 100000 ∧ ∀ t ∈ tw r.x.ls, t.length ≤ 1000000000 from ⟨by have := HL.out.1; omega, fun t ht => HL.out.2 t (mem_tw ht)⟩)
    have hkc : ((tw r.x.ls).length : Int) ≤ (lc : Int) := by have := HCAP.out; omega
    have hk0 : (0 : Int) ≤ ((tw r.x.ls).length : Int) := by omega
    generalize tw r.x.ls = m at *
    generalize hml : m.length = k at *
    have HML := Lib.hid hml
    clear hml
    go_wp2_with fail
    refine HI.out.mono ?_
    rintro e w' ⟨rfl, rfl⟩
    go_wp2_with fail
    refine (HC.out m _ _ (by first | exact HTW.out | (rw [HML.out]; exact HTW.out)) (by first | exact HZ.out.1 | (rw [HML.out]; exact HZ.out.1)) HZ.out.2).mono ?_
    rintro e w' ⟨v, rfl, ht, hb, _⟩
    have HR := Lib.hid (And.intro ht (below_next HB.out.below hb))
    clear ht hb
    go_wp2_with fail
    go_ret2
    exact ⟨v, by rw [HF.out]; rfl, by rw [HK.out, HF.out]; exact HR.out.1, HR.out.2⟩
   ·have HI := Lib.hid (HID.out)
    rw [if_neg hlt] at HI
    have HTW := Lib.hid (show tw r.x.ls = r.x.ls by rw [(tw_spec r.x.ls).1, List.take_of_length_le (by omega)])
    clear hlt
    go_wp2_with fail
    refine HI.out.mono ?_
    rintro e w' ⟨rfl, rfl⟩
    go_wp2_with fail
    refine (HC.out _ _ _ (HT.out) HL.out.1 HL.out.2).mono ?_
    rintro e w' ⟨v, rfl, ht, hb, _⟩
    have HR := Lib.hid (And.intro ht (below_next HB.out.below hb))
    clear ht hb
    go_wp2_with fail
    go_ret2
    exact ⟨v, by rw [HF.out]; rfl, by rw [HK.out, HF.out]; (first | rw [if_neg (by decide), HTW.out] | rw [Bool.false_and, if_neg (by decide), HTW.out]); exact HR.out.1, HR.out.2⟩
 ·by_cases hlt : (tw r.x.ls).length < r.x.ls.length
  ·have HI := Lib.hid (HID.out)
   rw [if_pos hlt] at HI
   have HTW := Lib.hid (txts_take HT.out (tw_spec r.x.ls).2.1)
   rw [← (tw_spec r.x.ls).1] at HTW
   have HZ := Lib.hid (show (tw r.x.ls).length ≤ 100000 ∧ ∀ t ∈ tw r.x.ls, t.length ≤ 1000000000 from ⟨by have := HL.out.1; omega, fun t ht => HL.out.2 t (mem_tw ht)⟩)
   have hkc : ((tw r.x.ls).length : Int) ≤ (lc : Int) := by have := HCAP.out; omega
   have hk0 : (0 : Int) ≤ ((tw r.x.ls).length : Int) := by omega
   generalize tw r.x.ls = m at *
   generalize hml : m.length = k at *
   have HML := Lib.hid hml
   clear hml
   go_wp2_with fail
   refine HI.out.mono ?_
   rintro e w' ⟨rfl, rfl⟩
   go_wp2_with fail
   refine (HC.out m _ _ (by first | exact HTW.out | (rw [HML.out]; exact HTW.out)) (by first | exact HZ.out.1 | (rw [HML.out]; exact HZ.out.1)) HZ.out.2).mono ?_
   rintro e w' ⟨v, rfl, ht, hb, _⟩
   have HR := Lib.hid (And.intro ht (below_next HB.out.below hb))
   clear ht hb
   go_wp2_with fail
   go_ret2
   exact ⟨v, by rw [HF.out]; rfl, by rw [HK.out, HF.out]; exact HR.out.1, HR.out.2⟩
  ·have HI := Lib.hid (HID.out)
   rw [if_neg hlt] at HI
   have HTW := Lib.hid (show tw r.x.ls = r.x.ls by rw [(tw_spec r.x.ls).1, List.take_of_length_le (by omega)])
   clear hlt
   go_wp2_with fail
   refine HI.out.mono ?_
   rintro e w' ⟨rfl, rfl⟩
   go_wp2_with fail
   refine (HC.out _ _ _ (HT.out) HL.out.1 HL.out.2).mono ?_
   rintro e w' ⟨v, rfl, ht, hb, _⟩
   have HR := Lib.hid (And.intro ht (below_next HB.out.below hb))
   clear ht hb
   go_wp2_with fail
   go_ret2
   exact ⟨v, by rw [HF.out]; rfl, by rw [HK.out, HF.out]; (first | rw [if_neg (by decide), HTW.out] | rw [Bool.false_and, if_neg (by decide), HTW.out]); exact HR.out.1, HR.out.2⟩
end Go.Proofs.YtojpkbonioglbaaGreatDoor.E.T
namespace Go.Proofs.YtojpkbonioglbaaGreatDoor.E.T
set_option maxRecDepth 100000
open Go.RowKit Go.Shelf
structure Sy (g R : Nat) (w w' : World) : Prop where
 os : w'.os = w.os
 tape : w'.tape = w.tape
 output : w'.output = w.output
 size : w.heap.size ≤ w'.heap.size
 old : ∀ k, k < R → k ≠ g → w'.heap[k]? = w.heap[k]?
 keep : ∀ k o, w.heap[k]? = some o → k ≠ g → (∀ cs fz, o ≠ .cells cs 9 fz) → w'.heap[k]? = some o
theorem Sy.refl (g R : Nat) (w : World) : Sy g R w w := ⟨rfl, rfl, rfl, Nat.le_refl _, fun _ _ _ => rfl, fun _ _ h _ _ => h⟩
theorem Sy.trans {g R : Nat} {a b c : World} (h : Sy g R a b) (k : Sy g R b c) : Sy g R a c :=
 ⟨k.os.trans h.os, k.tape.trans h.tape, k.output.trans h.output, Nat.le_trans h.size k.size, fun i hi hg => (k.old i hi hg).trans (h.old i hi hg), fun i o hi hg ho => k.keep i o (h.keep i o hi hg ho) hg ho⟩
theorem Sy.of {g R : Nat} {w w' : World} (h : Below w.heap.size w w') (hR : R ≤ w.heap.size) : Sy g R w w' := ⟨h.os, h.tape, h.output, h.size, fun k hk _ => h.block k (by omega), fun k o hk _ _ => (h.block k (ltOf hk)).trans hk⟩
structure SL (g R : Nat) (l : List Txt) (w : World) : Prop where
 row : ∃ v, w.heap[g]? = some (.cells #[v] 22 (0, 0)) ∧ w.ownsRow R 9 1 v l.length (strsV l)
 lt : g < R
 le : R ≤ w.heap.size
theorem SL.next {g R : Nat} {l : List Txt} {w w' : World} (h : SL g R l w) (hb : Below w.heap.size w w') : SL g R l w' := by
 obtain ⟨v, h1, h2⟩ := h.row
 exact ⟨⟨v, (hb.block _ (ltOf h1)).trans h1, own_below h2 hb⟩, h.lt, Nat.le_trans h.le hb.size⟩
def SayPost (g R : Nat) (l : List Txt) (w : World) (e : Ending) (w' : World) : Prop := e = .returned (.tuple #[]) ∧ SL g R l w' ∧ Sy g R w w'
set_option maxHeartbeats 4000000 in
theorem say_x (g R : Nat) (l m : List Txt) (u : Value) (w : World) (h : SL g R l w) (hu : TxtsAt w u m) (hn : l.length + m.length ≤ 1000000) : Calls Tryz.prog 31 #[u, .pointer (some ⟨g, 0, none⟩)] w (SayPost g R (l ++ m) w) := by
 obtain ⟨v, h1, h2⟩ := h.row
 have hne : v.ownBlock ≠ some g := own_not h2 h1 (by decide)
 obtain ⟨A, cp, rfl⟩ := strs_slice h2
 obtain ⟨B, cu, rfl⟩ := txts_slice hu
 have HH := Lib.hid h
 have H1 := Lib.hid h1
 have H2 := Lib.hid h2
 have HU := Lib.hid hu
 have HNE := Lib.hid hne
 have c0 : w.cell? ⟨g, 0, none⟩ = some (.slice A l.length cp) := cellOf h1 0
 clear h h1 h2 hu hne
 go_enter Tryz.func31, Tryz.ntmps31
 go_wp2_with (at_builtin; refine app_txts rfl (.tmp 3) (.tmp 4) rfl R (.slice A l.length cp) l rfl H2.out (.slice B m.length cu) m rfl HU.out (by omega) HH.out.le ?_; intro v' w1 k1 k2 k3; obtain ⟨A', c', rfl⟩ := strs_slice k1; have K1 := Lib.hid k1; have K2 := Lib.hid k2; have d0 : w1.heap[g]? = some (.cells #[.slice A l.length cp] 22 (0, 0)) := (k2.block g (ltOf H1.out) (fun e => HNE.out e.symm)).trans H1.out; have d1 := cellOf d0 0; have d2 := freeOf d0 0; have D0 := Lib.hid d0; have HN2 := Lib.hid (own_not k1 d0 (by decide)); clear k1 k2 k3 d0)
 go_end0
 refine ⟨rfl, ?_, ?_⟩
 ·have e := setOf D0.out 0 (.slice A' (l.length + m.length) c')
  refine ⟨⟨_, e, ?_⟩, HH.out.lt, by rw [World.size_setCell]; exact Nat.le_trans HH.out.le K2.out.size⟩
  have k1 := K1.out
  rw [List.length_append] at k1 ⊢
  exact own_of k1 fun k hk => Below.heap_setCell _ ⟨g, 0, none⟩ _ k (fun e => HN2.out (by rw [List.length_append, hk]; exact congrArg some e))
 ·have hs : ∀ k, k ≠ g → (w1.setCell ⟨g, 0, none⟩ (.slice A' (l.length + m.length) c')).heap[k]? = w1.heap[k]? := fun k hk => Below.heap_setCell _ ⟨g, 0, none⟩ _ k hk
  refine ⟨K2.out.os, K2.out.tape, K2.out.output, by rw [World.size_setCell]; exact K2.out.size, fun k hk hg => ?_, fun k o ho hg h9 => ?_⟩
  ·exact (hs k hg).trans (K2.out.block k (by have := HH.out.le; omega) (fun e => by have := (H2.out.lt k e.symm).1; omega))
  ·refine (hs k hg).trans ((K2.out.block k (ltOf ho) fun e => ?_).trans ho)
   rcases H2.out.2 with ⟨h, _⟩ | ⟨j, cap, cur, h, _, hj, _⟩
   ·rw [h] at e; cases e
   ·rw [h] at e
    injection e with e
    subst e
    rw [hj] at ho
    injection ho with ho
    exact h9 _ _ ho.symm
end Go.Proofs.YtojpkbonioglbaaGreatDoor.E.T
namespace Go.Proofs.YtojpkbonioglbaaGreatDoor.E.T
set_option maxRecDepth 100000
open Go.RowKit Go.Shelf
theorem new_txts (w : World) (l : List Txt) (cs : Array Value) (hcs : cs.toList = strsV l) : TxtsAt (w.alloc (.cells cs 9)) (.slice (some ⟨w.heap.size, 0, none⟩) l.length l.length) l := by
 refine ⟨_, _, rfl, Nat.le_refl _, fun e => (by cases e), fun i t hi => ⟨_, rfl, by simp, ?_⟩⟩
 rw [show ((⟨w.heap.size, 0, none⟩ : Addr).add i) = ⟨w.heap.size, 0 + i, none⟩ by cases i <;> simp [Addr.add]]
 have e := World.cell?_alloc_at (w := w) cs 9 w.heap.size (0 + i) rfl
 rw [e, Nat.zero_add, ← Array.getElem?_toList, hcs, strsV, List.getElem?_map, hi]
 rfl
theorem said_x {g R : Nat} {l : List Txt} {w : World} (h : SL g R l w) (m : List Txt) (n : Nat) (cs : Array Value) (hcs : cs.toList = strsV m) (hm : m.length = n) (hn : l.length + n ≤ 1000000) : Calls Tryz.prog 31 #[.slice (some ⟨w.heap.size, 0, none⟩) n n, .pointer (some ⟨g, 0, none⟩)] (w.alloc (.cells cs 9)) (SayPost g R (l ++ m) w) := by
 subst hm
 have hb := below_box w (.cells cs 9)
 refine (say_x g R l m _ _ (h.next hb) (new_txts w m cs hcs) hn).mono ?_
 rintro e w' ⟨rfl, h1, h2⟩
 exact ⟨rfl, h1, (Sy.of hb h.le).trans h2⟩
set_option maxHeartbeats 4000000 in
theorem part_x (g R sb bb : Nat) (l : List Txt) (b f : Txt) (w : World) (h : SL g R l w) (hs : ∃ t, w.heap[sb]? = some (.cells #[.func (.func 31) #[] #[.pointer (some ⟨g, 0, none⟩)]] t (0, 0))) (ht : ∃ t, w.heap[bb]? = some (.cells #[.string (mkS b)] t (0, 0))) (hb : b.length ≤ 1000) (hf : f.length ≤ 1000) (hn : l.length + 3 ≤ 1000000) : Calls Tryz.prog 32 #[.string (mkS f), .pointer (some ⟨sb, 0, none⟩), .pointer (some ⟨bb, 0, none⟩)] w (SayPost g R (l ++ part b f) w) := by
 obtain ⟨ts, hs⟩ := hs
 obtain ⟨tb, ht⟩ := ht
 have HH := Lib.hid h
 have c0 : w.cell? ⟨sb, 0, none⟩ = some (.func (.func 31) #[] #[.pointer (some ⟨g, 0, none⟩)]) := cellOf hs 0
 have c1 : w.cell? ⟨bb, 0, none⟩ = some (.string (mkS b)) := cellOf ht 0
 have s1 := mkS_size b
 have s2 := mkS_size f
 clear h hs ht
 go_enter Tryz.func32, Tryz.ntmps32
 go_wp2_with fail
 refine (said_x HH.out (part b f) 3 _ ?_ rfl hn).mono ?_
 ·show [_, _, _] = _
  rw [part, strsV, List.map_cons, List.map_cons, List.map_cons, List.map_nil, ← mkS_cat, ← mkS_cat]
  rfl
 ·rintro e w' ⟨rfl, h1, h2⟩
  have H1 := Lib.hid h1
  have H2 := Lib.hid h2
  clear h1 h2
  go_wp2_with fail
  go_end0
  exact ⟨rfl, H1.out, H2.out⟩
end Go.Proofs.YtojpkbonioglbaaGreatDoor.E.T
namespace Go.Proofs.YtojpkbonioglbaaGreatDoor.E.T
set_option maxRecDepth 100000
open Go.RowKit Go.Shelf
theorem Sy.below {g R B : Nat} {w w' : World} (h : Sy g R w w') (h1 : B ≤ g) (h2 : B ≤ R) : Below B w w' := ⟨h.os, h.tape, h.output, h.size, fun k hk => h.old k (by omega) (by omega)⟩
abbrev sayF (g : Nat) : Value := .func (.func 31) #[] #[.pointer (some ⟨g, 0, none⟩)]
theorem jload_op {ρ : Operand → Value} {ty : TypeId} {a : Addr} {v : Value} {w : World} {x : Operand} (o : Oper) (ho : o.op = .load ty x ∧ ρ x = .pointer (some a)) (h : (loadVar ty a).run Tryz.prog w = .ok v w) : (execOp ρ o).run Tryz.prog w = .ok (.value v) w := by
 obtain ⟨h1, h2⟩ := ho
 simp only [execOp, h1, h2, Instr.loadAt, Instr.sureAddr, Sem.run_bind, Sem.run_pure, Result.andThen_ok, h]
theorem load_rt {w : World} {z : Nat} {r : RT} {vr vl vt : Value} (h : w.heap[z]? = some (.cells (RE r vr vl vt) 39 (0, 0))) : (loadVar 39 ⟨z, 0, none⟩).run Tryz.prog w = .ok (rtA r vr vl vt) w :=
 loadVar_blk (P := Tryz.prog) (ty := 39) (o := 0) (vs := RE r vr vl vt) h Tryz.underlying39 rfl size_rt (fun j _ => by rw [Nat.zero_add])
theorem load_k {w : World} {z : Nat} {r : RT} {vr vl vt : Value} (h : w.heap[z]? = some (.cells (RE r vr vl vt) 39 (0, 0))) : (loadVar 9 ⟨z, 0, none⟩).run Tryz.prog w = .ok (.string (mkS r.kind)) w := by
 have c : w.cell? ⟨z, 0, none⟩ = some (.string (mkS r.kind)) := cellOf h 0
 go_simp
set_option maxHeartbeats 8000000 in
theorem sentence_x (g R : Nat) (l : List Txt) (r : RT) (vr vl vt : Value) (w : World) (h : SL g R l w) (hE : RAt w r vr vl vt) (hp : 0 ≤ r.pl ∧ r.pl < r.x.rc.length) (hr : P.rightE (rtTo r).p = 0) (hk : r.kind.length ≤ 100) (hn : l.length + 2 ≤ 1000000) : Calls Tryz.prog 34 #[rtA r vr vl vt, sayF g] w (SayPost g R (l ++ sec2 r) w) := by
 have HB := Lib.hid (RB.new w r vr vl vt)
 have HH := Lib.hid h
 have HE := Lib.hid hE
 have c0 := cellOf HB.out.box 0
 have HP := Lib.hid hp
 have HR := Lib.hid hr
 have s1 : (mkS (P.textL (rtTo r).p)).size ≤ 1000000 := by have := txt_len hr; rw [mkS_size]; omega
 have s2 := mkS_size r.kind
 obtain ⟨ra, rcap, rfl, _, _, _⟩ := hE.e.rc
 obtain ⟨la, lc, rfl⟩ := txts_slice hE.e.ls
 obtain ⟨ta, tc, rfl⟩ := txts_slice hE.t
 have e1 : ((mkS r.kind).toList == [100, 101, 108, 97, 121, 101, 100]) = (r.kind == kDel) := by rw [mkS_toList]; rfl
 unfold RE at c0
 clear h hE hp hr
 have HZ := Lib.hid (show (if r.kind = kDel then [32, 105, 115, 32] else [32, 119, 97, 115, 32] : Txt) = (if (r.kind == kDel) = true then [32, 105, 115, 32] else [32, 119, 97, 115, 32]) by simp)
 generalize hz : (r.kind == kDel) = z at e1 HZ
 clear hz
 go_enter Tryz.func34, Tryz.ntmps34
 cases z
 ·have HZ := Lib.hid (HZ.out.trans (if_neg (by decide)))
  go_wp2_with fail
  change Code.wp _ _ _ _ (w.alloc (.cells (RE r (.slice ra r.x.rc.length rcap) (.slice la r.x.ls.length lc) (.slice ta r.rp.text.length tc)) 39))
  clear c0 e1
  generalize w.alloc (.cells (RE r (.slice ra r.x.rc.length rcap) (.slice la r.x.ls.length lc) (.slice ta r.rp.text.length tc)) 39) = w1 at *
  refine wp_region_held_drew (S := fun wr => wr.heap[w.heap.size]? = some (.cells (RE r (.slice ra r.x.rc.length rcap) (.slice la r.x.ls.length lc) (.slice ta r.rp.text.length tc)) 39 (0, 0))) (by kernel_rfl) (HB.out.next (Below.refl _ _).drew).box (fun hH => ?_)
  have G1 := Lib.hid (HB.out.next (Below.refl _ _).drew)
  generalize w1.drew = wd at *
  refine wpAnyH_take (i := 0) (oi := { dst := some 8, op := _, type := _, pos := _, after := _, guard := _ }) (v := sayF g) rfl (by kernel_rfl) (by kernel_rfl) (by kernel_rfl) (fun _ _ _ h => h) (Or.inl ⟨by kernel_rfl, fun wz hz => by kernel_rfl⟩) hH ?_
  try simp only [Act.put, List.setIfInBounds_toArray, List.set_cons_zero, List.set_cons_succ]
  refine wpAnyH_take (i := 1) (oi := { dst := some 9, op := _, type := _, pos := _, after := _, guard := _ }) (v := rtA r (.slice ra r.x.rc.length rcap) (.slice la r.x.ls.length lc) (.slice ta r.rp.text.length tc)) rfl (by kernel_rfl) (by kernel_rfl) (by kernel_rfl) (fun _ _ _ h => h) (Or.inl ⟨by kernel_rfl, fun wz hz => jload_op _ ⟨rfl, rfl⟩ (load_rt hz)⟩) hH ?_
  try simp only [Act.put, List.setIfInBounds_toArray, List.set_cons_zero, List.set_cons_succ]
  refine wpAnyH_take (i := 6) (oi := { dst := some 14, op := _, type := _, pos := _, after := _, guard := _ }) (v := .string (⟨#[32, 119, 97, 115, 32]⟩ : ByteArray)) rfl (by kernel_rfl) (by kernel_rfl) (by kernel_rfl) (fun _ _ _ h => h) (Or.inl ⟨by kernel_rfl, fun wz hz => by kernel_rfl⟩) hH ?_
  try simp only [Act.put, List.setIfInBounds_toArray, List.set_cons_zero, List.set_cons_succ]
  refine wpAnyH_take (i := 8) (oi := { dst := some 16, op := _, type := _, pos := _, after := _, guard := _ }) (v := .pointer (some ⟨w.heap.size, 0, none⟩)) rfl (by kernel_rfl) (by kernel_rfl) (by kernel_rfl) (fun _ _ _ h => h) (Or.inl ⟨by kernel_rfl, fun wz hz => by kernel_rfl⟩) hH ?_
  try simp only [Act.put, List.setIfInBounds_toArray, List.set_cons_zero, List.set_cons_succ]
  refine wpAnyH_take (i := 9) (oi := { dst := some 17, op := _, type := _, pos := _, after := _, guard := _ }) (v := .string (mkS r.kind)) rfl (by kernel_rfl) (by kernel_rfl) (by kernel_rfl) (fun _ _ _ h => h) (Or.inl ⟨by kernel_rfl, fun wz hz => jload_op _ ⟨rfl, rfl⟩ (load_k hz)⟩) hH ?_
  try simp only [Act.put, List.setIfInBounds_toArray, List.set_cons_zero, List.set_cons_succ]
  refine wpAnyH_ready (rs := [2]) (by kernel_rfl) (by simp) ?_
  refine AllReadyH.cons rfl (fun K hK => ?_) AllReadyH.nil
  go_simp
  go_at_call 55
  refine (recipient_x r (.slice ra r.x.rc.length rcap) (.slice la r.x.ls.length lc) (.slice ta r.rp.text.length tc) _ (HE.out.below G1.out.below) HP.out).mono ?_
  rintro x w2 ⟨rfl, hb⟩
  have G2 := Lib.hid (G1.out.next hb)
  clear hb
  refine hK.out _ _ G2.out.box (fun hHn => ?_)
  clear hK K hH
  have hH := hHn
  clear hHn
  try simp only [Act.put, List.setIfInBounds_toArray, List.set_cons_zero, List.set_cons_succ]
  refine wpAnyH_take (i := 3) (oi := { dst := some 11, op := _, type := _, pos := _, after := _, guard := _ }) (v := .agg #[.string (mkS (rtTo r).p.1), .string (mkS (rtTo r).p.2)]) rfl (by kernel_rfl) (by kernel_rfl) (by kernel_rfl) (fun _ _ _ h => h) (Or.inl ⟨by kernel_rfl, fun wz hz => by kernel_rfl⟩) hH ?_
  try simp only [Act.put, List.setIfInBounds_toArray, List.set_cons_zero, List.set_cons_succ]
  refine wpAnyH_ready (rs := [4]) (by kernel_rfl) (by simp) ?_
  refine AllReadyH.cons rfl (fun K hK => ?_) AllReadyH.nil
  go_simp
  go_at_call 53
  refine (printed_x (rtTo r).p _ HR.out).mono ?_
  rintro x w3 ⟨rfl, hb⟩
  have G3 := Lib.hid (G2.out.next hb)
  clear hb
  refine hK.out _ _ G3.out.box (fun hHn => ?_)
  clear hK K hH
  have hH := hHn
  clear hHn
  try simp only [Act.put, List.setIfInBounds_toArray, List.set_cons_zero, List.set_cons_succ]
  refine wpAnyH_take (i := 5) (oi := { dst := some 13, op := _, type := _, pos := _, after := _, guard := _ }) (v := .string ((⟨#[84, 104, 101, 32, 109, 101, 115, 115, 97, 103, 101, 32, 116, 111, 32]⟩ : ByteArray) ++ mkS (P.textL (rtTo r).p))) rfl (by kernel_rfl) (by kernel_rfl) (by kernel_rfl) (fun _ _ _ h => h) (Or.inl ⟨by kernel_rfl, fun wz hz => by go_simp; omega⟩) hH ?_
  try simp only [Act.put, List.setIfInBounds_toArray, List.set_cons_zero, List.set_cons_succ]
  refine wpAnyH_take (i := 7) (oi := { dst := some 15, op := _, type := _, pos := _, after := _, guard := _ }) (v := .string (((⟨#[84, 104, 101, 32, 109, 101, 115, 115, 97, 103, 101, 32, 116, 111, 32]⟩ : ByteArray) ++ mkS (P.textL (rtTo r).p)) ++ (⟨#[32, 119, 97, 115, 32]⟩ : ByteArray))) rfl (by kernel_rfl) (by kernel_rfl) (by kernel_rfl) (fun _ _ _ h => h) (Or.inl ⟨by kernel_rfl, fun wz hz => by go_simp; omega⟩) hH ?_
  try simp only [Act.put, List.setIfInBounds_toArray, List.set_cons_zero, List.set_cons_succ]
  refine wpAnyH_take (i := 10) (oi := { dst := some 18, op := _, type := _, pos := _, after := _, guard := _ }) (v := .string ((((⟨#[84, 104, 101, 32, 109, 101, 115, 115, 97, 103, 101, 32, 116, 111, 32]⟩ : ByteArray) ++ mkS (P.textL (rtTo r).p)) ++ (⟨#[32, 119, 97, 115, 32]⟩ : ByteArray)) ++ mkS r.kind)) rfl (by kernel_rfl) (by kernel_rfl) (by kernel_rfl) (fun _ _ _ h => h) (Or.inl ⟨by kernel_rfl, fun wz hz => by go_simp; omega⟩) hH ?_
  try simp only [Act.put, List.setIfInBounds_toArray, List.set_cons_zero, List.set_cons_succ]
  refine wpAnyH_take (i := 11) (oi := { dst := some 19, op := _, type := _, pos := _, after := _, guard := _ }) (v := .string (((((⟨#[84, 104, 101, 32, 109, 101, 115, 115, 97, 103, 101, 32, 116, 111, 32]⟩ : ByteArray) ++ mkS (P.textL (rtTo r).p)) ++ (⟨#[32, 119, 97, 115, 32]⟩ : ByteArray)) ++ mkS r.kind) ++ (⟨#[46]⟩ : ByteArray))) rfl (by kernel_rfl) (by kernel_rfl) (by kernel_rfl) (fun _ _ _ h => h) (Or.inl ⟨by kernel_rfl, fun wz hz => by go_simp; omega⟩) hH ?_
  try simp only [Act.put, List.setIfInBounds_toArray, List.set_cons_zero, List.set_cons_succ]
  refine wpAnyH_ready (rs := [12]) (by kernel_rfl) (by simp) ?_
  refine AllReadyH.cons rfl (fun K hK => ?_) AllReadyH.nil
  go_simp
  have G4 := Lib.hid (G3.out.next (below_box w3 (.cells #[.string (((((⟨#[84, 104, 101, 32, 109, 101, 115, 115, 97, 103, 101, 32, 116, 111, 32]⟩ : ByteArray) ++ mkS (P.textL (rtTo r).p)) ++ (⟨#[32, 119, 97, 115, 32]⟩ : ByteArray)) ++ mkS r.kind) ++ (⟨#[46]⟩ : ByteArray)), .string ⟨#[]⟩] 9)))
  refine hK.out _ _ G4.out.box (fun hHn => ?_)
  clear hK K hH
  have hH := hHn
  clear hHn
  try simp only [Act.put, List.setIfInBounds_toArray, List.set_cons_zero, List.set_cons_succ]
  refine wpAnyH_ready (rs := [13]) (by kernel_rfl) (by simp) ?_
  refine AllReadyH.cons rfl (fun K hK => ?_) AllReadyH.nil
  go_simp
  go_at_call 31
  refine (said_x (HH.out.next G3.out.below) (sec2 r) 2 _ ?_ rfl hn).mono ?_
  ·show [_, _] = _
   unfold sec2
   rw [HZ.out, strsV, List.map_cons, List.map_cons, List.map_nil, ← mkS_cat, ← mkS_cat, ← mkS_cat, ← mkS_cat]
   rfl
  rintro x w5 ⟨rfl, h1, h2⟩
  have H1 := Lib.hid h1
  have H2 := Lib.hid ((Sy.of (G3.out.below) HH.out.le).trans h2)
  have H3 := Lib.hid (h2.keep _ _ G3.out.box (by have := HH.out.lt; have := HH.out.le; omega) (fun cs fz e => by injection e with _ e; exact absurd e (by decide)))
  clear h1 h2
  refine hK.out _ _ H3.out (fun hHn => ?_)
  clear hK K hH
  have hH := hHn
  clear hHn
  try simp only [Act.put, List.setIfInBounds_toArray, List.set_cons_zero, List.set_cons_succ]
  refine wpAnyH_done (by kernel_rfl) ?_ _
  go_wp2_with fail
  go_end0
  exact ⟨rfl, H1.out, H2.out⟩
 ·have HZ := Lib.hid (HZ.out.trans (if_pos rfl))
  go_wp2_with fail
  change Code.wp _ _ _ _ (w.alloc (.cells (RE r (.slice ra r.x.rc.length rcap) (.slice la r.x.ls.length lc) (.slice ta r.rp.text.length tc)) 39))
  clear c0 e1
  generalize w.alloc (.cells (RE r (.slice ra r.x.rc.length rcap) (.slice la r.x.ls.length lc) (.slice ta r.rp.text.length tc)) 39) = w1 at *
  refine wp_region_held_drew (S := fun wr => wr.heap[w.heap.size]? = some (.cells (RE r (.slice ra r.x.rc.length rcap) (.slice la r.x.ls.length lc) (.slice ta r.rp.text.length tc)) 39 (0, 0))) (by kernel_rfl) (HB.out.next (Below.refl _ _).drew).box (fun hH => ?_)
  have G1 := Lib.hid (HB.out.next (Below.refl _ _).drew)
  generalize w1.drew = wd at *
  refine wpAnyH_take (i := 0) (oi := { dst := some 8, op := _, type := _, pos := _, after := _, guard := _ }) (v := sayF g) rfl (by kernel_rfl) (by kernel_rfl) (by kernel_rfl) (fun _ _ _ h => h) (Or.inl ⟨by kernel_rfl, fun wz hz => by kernel_rfl⟩) hH ?_
  try simp only [Act.put, List.setIfInBounds_toArray, List.set_cons_zero, List.set_cons_succ]
  refine wpAnyH_take (i := 1) (oi := { dst := some 9, op := _, type := _, pos := _, after := _, guard := _ }) (v := rtA r (.slice ra r.x.rc.length rcap) (.slice la r.x.ls.length lc) (.slice ta r.rp.text.length tc)) rfl (by kernel_rfl) (by kernel_rfl) (by kernel_rfl) (fun _ _ _ h => h) (Or.inl ⟨by kernel_rfl, fun wz hz => jload_op _ ⟨rfl, rfl⟩ (load_rt hz)⟩) hH ?_
  try simp only [Act.put, List.setIfInBounds_toArray, List.set_cons_zero, List.set_cons_succ]
  refine wpAnyH_take (i := 6) (oi := { dst := some 14, op := _, type := _, pos := _, after := _, guard := _ }) (v := .string (⟨#[32, 105, 115, 32]⟩ : ByteArray)) rfl (by kernel_rfl) (by kernel_rfl) (by kernel_rfl) (fun _ _ _ h => h) (Or.inl ⟨by kernel_rfl, fun wz hz => by kernel_rfl⟩) hH ?_
  try simp only [Act.put, List.setIfInBounds_toArray, List.set_cons_zero, List.set_cons_succ]
  refine wpAnyH_take (i := 8) (oi := { dst := some 16, op := _, type := _, pos := _, after := _, guard := _ }) (v := .pointer (some ⟨w.heap.size, 0, none⟩)) rfl (by kernel_rfl) (by kernel_rfl) (by kernel_rfl) (fun _ _ _ h => h) (Or.inl ⟨by kernel_rfl, fun wz hz => by kernel_rfl⟩) hH ?_
  try simp only [Act.put, List.setIfInBounds_toArray, List.set_cons_zero, List.set_cons_succ]
  refine wpAnyH_take (i := 9) (oi := { dst := some 17, op := _, type := _, pos := _, after := _, guard := _ }) (v := .string (mkS r.kind)) rfl (by kernel_rfl) (by kernel_rfl) (by kernel_rfl) (fun _ _ _ h => h) (Or.inl ⟨by kernel_rfl, fun wz hz => jload_op _ ⟨rfl, rfl⟩ (load_k hz)⟩) hH ?_
  try simp only [Act.put, List.setIfInBounds_toArray, List.set_cons_zero, List.set_cons_succ]
  refine wpAnyH_ready (rs := [2]) (by kernel_rfl) (by simp) ?_
  refine AllReadyH.cons rfl (fun K hK => ?_) AllReadyH.nil
  go_simp
  go_at_call 55
  refine (recipient_x r (.slice ra r.x.rc.length rcap) (.slice la r.x.ls.length lc) (.slice ta r.rp.text.length tc) _ (HE.out.below G1.out.below) HP.out).mono ?_
  rintro x w2 ⟨rfl, hb⟩
  have G2 := Lib.hid (G1.out.next hb)
  clear hb
  refine hK.out _ _ G2.out.box (fun hHn => ?_)
  clear hK K hH
  have hH := hHn
  clear hHn
  try simp only [Act.put, List.setIfInBounds_toArray, List.set_cons_zero, List.set_cons_succ]
  refine wpAnyH_take (i := 3) (oi := { dst := some 11, op := _, type := _, pos := _, after := _, guard := _ }) (v := .agg #[.string (mkS (rtTo r).p.1), .string (mkS (rtTo r).p.2)]) rfl (by kernel_rfl) (by kernel_rfl) (by kernel_rfl) (fun _ _ _ h => h) (Or.inl ⟨by kernel_rfl, fun wz hz => by kernel_rfl⟩) hH ?_
  try simp only [Act.put, List.setIfInBounds_toArray, List.set_cons_zero, List.set_cons_succ]
  refine wpAnyH_ready (rs := [4]) (by kernel_rfl) (by simp) ?_
  refine AllReadyH.cons rfl (fun K hK => ?_) AllReadyH.nil
  go_simp
  go_at_call 53
  refine (printed_x (rtTo r).p _ HR.out).mono ?_
  rintro x w3 ⟨rfl, hb⟩
  have G3 := Lib.hid (G2.out.next hb)
  clear hb
  refine hK.out _ _ G3.out.box (fun hHn => ?_)
  clear hK K hH
  have hH := hHn
  clear hHn
  try simp only [Act.put, List.setIfInBounds_toArray, List.set_cons_zero, List.set_cons_succ]
  refine wpAnyH_take (i := 5) (oi := { dst := some 13, op := _, type := _, pos := _, after := _, guard := _ }) (v := .string ((⟨#[84, 104, 101, 32, 109, 101, 115, 115, 97, 103, 101, 32, 116, 111, 32]⟩ : ByteArray) ++ mkS (P.textL (rtTo r).p))) rfl (by kernel_rfl) (by kernel_rfl) (by kernel_rfl) (fun _ _ _ h => h) (Or.inl ⟨by kernel_rfl, fun wz hz => by go_simp; omega⟩) hH ?_
  try simp only [Act.put, List.setIfInBounds_toArray, List.set_cons_zero, List.set_cons_succ]
  refine wpAnyH_take (i := 7) (oi := { dst := some 15, op := _, type := _, pos := _, after := _, guard := _ }) (v := .string (((⟨#[84, 104, 101, 32, 109, 101, 115, 115, 97, 103, 101, 32, 116, 111, 32]⟩ : ByteArray) ++ mkS (P.textL (rtTo r).p)) ++ (⟨#[32, 105, 115, 32]⟩ : ByteArray))) rfl (by kernel_rfl) (by kernel_rfl) (by kernel_rfl) (fun _ _ _ h => h) (Or.inl ⟨by kernel_rfl, fun wz hz => by go_simp; omega⟩) hH ?_
  try simp only [Act.put, List.setIfInBounds_toArray, List.set_cons_zero, List.set_cons_succ]
  refine wpAnyH_take (i := 10) (oi := { dst := some 18, op := _, type := _, pos := _, after := _, guard := _ }) (v := .string ((((⟨#[84, 104, 101, 32, 109, 101, 115, 115, 97, 103, 101, 32, 116, 111, 32]⟩ : ByteArray) ++ mkS (P.textL (rtTo r).p)) ++ (⟨#[32, 105, 115, 32]⟩ : ByteArray)) ++ mkS r.kind)) rfl (by kernel_rfl) (by kernel_rfl) (by kernel_rfl) (fun _ _ _ h => h) (Or.inl ⟨by kernel_rfl, fun wz hz => by go_simp; omega⟩) hH ?_
  try simp only [Act.put, List.setIfInBounds_toArray, List.set_cons_zero, List.set_cons_succ]
  refine wpAnyH_take (i := 11) (oi := { dst := some 19, op := _, type := _, pos := _, after := _, guard := _ }) (v := .string (((((⟨#[84, 104, 101, 32, 109, 101, 115, 115, 97, 103, 101, 32, 116, 111, 32]⟩ : ByteArray) ++ mkS (P.textL (rtTo r).p)) ++ (⟨#[32, 105, 115, 32]⟩ : ByteArray)) ++ mkS r.kind) ++ (⟨#[46]⟩ : ByteArray))) rfl (by kernel_rfl) (by kernel_rfl) (by kernel_rfl) (fun _ _ _ h => h) (Or.inl ⟨by kernel_rfl, fun wz hz => by go_simp; omega⟩) hH ?_
  try simp only [Act.put, List.setIfInBounds_toArray, List.set_cons_zero, List.set_cons_succ]
  refine wpAnyH_ready (rs := [12]) (by kernel_rfl) (by simp) ?_
  refine AllReadyH.cons rfl (fun K hK => ?_) AllReadyH.nil
  go_simp
  have G4 := Lib.hid (G3.out.next (below_box w3 (.cells #[.string (((((⟨#[84, 104, 101, 32, 109, 101, 115, 115, 97, 103, 101, 32, 116, 111, 32]⟩ : ByteArray) ++ mkS (P.textL (rtTo r).p)) ++ (⟨#[32, 105, 115, 32]⟩ : ByteArray)) ++ mkS r.kind) ++ (⟨#[46]⟩ : ByteArray)), .string ⟨#[]⟩] 9)))
  refine hK.out _ _ G4.out.box (fun hHn => ?_)
  clear hK K hH
  have hH := hHn
  clear hHn
  try simp only [Act.put, List.setIfInBounds_toArray, List.set_cons_zero, List.set_cons_succ]
  refine wpAnyH_ready (rs := [13]) (by kernel_rfl) (by simp) ?_
  refine AllReadyH.cons rfl (fun K hK => ?_) AllReadyH.nil
  go_simp
  go_at_call 31
  refine (said_x (HH.out.next G3.out.below) (sec2 r) 2 _ ?_ rfl hn).mono ?_
  ·show [_, _] = _
   unfold sec2
   rw [HZ.out, strsV, List.map_cons, List.map_cons, List.map_nil, ← mkS_cat, ← mkS_cat, ← mkS_cat, ← mkS_cat]
   rfl
  rintro x w5 ⟨rfl, h1, h2⟩
  have H1 := Lib.hid h1
  have H2 := Lib.hid ((Sy.of (G3.out.below) HH.out.le).trans h2)
  have H3 := Lib.hid (h2.keep _ _ G3.out.box (by have := HH.out.lt; have := HH.out.le; omega) (fun cs fz e => by injection e with _ e; exact absurd e (by decide)))
  clear h1 h2
  refine hK.out _ _ H3.out (fun hHn => ?_)
  clear hK K hH
  have hH := hHn
  clear hHn
  try simp only [Act.put, List.setIfInBounds_toArray, List.set_cons_zero, List.set_cons_succ]
  refine wpAnyH_done (by kernel_rfl) ?_ _
  go_wp2_with fail
  go_end0
  exact ⟨rfl, H1.out, H2.out⟩
end Go.Proofs.YtojpkbonioglbaaGreatDoor.E.T
namespace Go.Proofs.YtojpkbonioglbaaGreatDoor.E.T
set_option maxRecDepth 100000
open Go.RowKit Go.Shelf
theorem tm_len {t : Int} (h : 0 ≤ t) : (tmL t).length ≤ 1000 := by
 have l3 : (tmL t).length = 20 := (back_x (t := min t 253402300799) (by unfold timB; simp; omega)).2.2.2
 omega
theorem enc_len : ∀ l : Txt, (X.encX l).length ≤ 3 * l.length
 | [] => by decide
 | b :: l => by
  have h1 := (X.encX1_len b).2
  have h2 := enc_len l
  show (X.encX1 b ++ X.encX l).length ≤ 3 * (l.length + 1)
  rw [List.length_append]
  omega
set_option maxHeartbeats 8000000 in
theorem ofMessage_x (g R : Nat) (l : List Txt) (r : RT) (vr vl vt : Value) (w : World) (h : SL g R l w) (hE : RAt w r vr vl vt) (h0 : 0 ≤ r.x.at_) (hR : ∀ w', Sy g R w w' → Ready w') (hh : r.host.length ≤ 1000) (hi : r.x.m.env.length ≤ 1000) (hn : l.length + 10 ≤ 1000000) : Calls Tryz.prog 35 #[rtA r vr vl vt, sayF g] w (SayPost g R (l ++ sec3 r) w) := by
 have HB := Lib.hid (RB.new w r vr vl vt)
 have HH := Lib.hid h
 have HE := Lib.hid hE
 have c0 := cellOf HB.out.box 18
 have c1 := cellOf HB.out.box 25
 obtain ⟨ra, rcap, rfl, _, _, _⟩ := hE.e.rc
 obtain ⟨la, lc, rfl⟩ := txts_slice hE.e.ls
 obtain ⟨ta, tc, rfl⟩ := txts_slice hE.t
 have s1 := mkS_size r.host
 have s2 := mkS_size r.x.m.env
 have HRR := Lib.hid hR
 unfold RE at c0 c1
 clear h hE hR
 go_enter Tryz.func35, Tryz.ntmps35
 go_upto_region 1 with fail
 change Code.wp _ _ _ _ (w.alloc (.cells (RE r (.slice ra r.x.rc.length rcap) (.slice la r.x.ls.length lc) (.slice ta r.rp.text.length tc)) 39))
 change (w.alloc (.cells (RE r (.slice ra r.x.rc.length rcap) (.slice la r.x.ls.length lc) (.slice ta r.rp.text.length tc)) 39)).cell? _ = _ at c0 c1
 generalize w.alloc (.cells (RE r (.slice ra r.x.rc.length rcap) (.slice la r.x.ls.length lc) (.slice ta r.rp.text.length tc)) 39) = w1 at *
 go_wp2_with fail
 refine (said_x (HH.out.next HB.out.below) [[82, 101, 112, 111, 114, 116, 105, 110, 103, 45, 77, 84, 65, 58, 32, 100, 110, 115, 59, 32] ++ r.host] 1 _ ?_ rfl (by omega)).mono ?_
 ·show [_] = _
  rw [strsV, List.map_cons, List.map_nil, ← mkS_cat]
  rfl
 rintro x w2 ⟨rfl, h1, h2⟩
 have D0 := Lib.hid (h2.keep _ _ HB.out.box (by have := HH.out.lt; have := HH.out.le; omega) (fun cs fz e => by injection e with _ e; exact absurd e (by decide)))
 have H1 := Lib.hid h1
 have H2 := Lib.hid ((Sy.of HB.out.below HH.out.le).trans h2)
 have d0 := cellOf D0.out 18
 have d2 := cellOf D0.out 2
 unfold RE at d0 d2
 clear h1 h2 c0 c1
 by_cases he : r.x.m.env = []
 ·have e1 : (mkS r.x.m.env).toList.isEmpty = true := by rw [mkS_toList, he]; rfl
  have HS := Lib.hid (show sec3 r = [[82, 101, 112, 111, 114, 116, 105, 110, 103, 45, 77, 84, 65, 58, 32, 100, 110, 115, 59, 32] ++ r.host] ++ [[65, 114, 114, 105, 118, 97, 108, 45, 68, 97, 116, 101, 58, 32] ++ tmL r.x.at_, []] by unfold sec3; rw [if_pos he]; rfl)
  clear he
  go_wp2_with fail
  refine (timed_x r.x.at_ _ h0 (HRR.out _ H2.out)).mono ?_
  rintro x w3 ⟨rfl, hb⟩
  have H3 := Lib.hid (H2.out.trans (Sy.of hb H1.out.le))
  have H1b := Lib.hid (H1.out.next hb)
  have s3 : (mkS (tmL r.x.at_)).size ≤ 1000 := by rw [mkS_size]; exact tm_len h0
  clear hb H1
  go_wp2_with fail
  refine (said_x H1b.out [[65, 114, 114, 105, 118, 97, 108, 45, 68, 97, 116, 101, 58, 32] ++ tmL r.x.at_, []] 2 _ ?_ rfl (by simp; omega)).mono ?_
  ·show [_, _] = _
   rw [strsV, List.map_cons, List.map_cons, List.map_nil, ← mkS_cat]
   rfl
  rintro x w4 ⟨rfl, h1, h2⟩
  rw [List.append_assoc, ← HS.out] at h1
  have K1 := Lib.hid h1
  have K2 := Lib.hid (H3.out.trans h2)
  clear h1 h2
  go_wp2_with fail
  go_end0
  exact ⟨rfl, K1.out, K2.out⟩
 ·have e1 : (mkS r.x.m.env).toList.isEmpty = false := by rw [mkS_toList]; cases h : r.x.m.env with | nil => exact absurd h he | cons _ _ => rfl
  have HS := Lib.hid (show sec3 r = [[82, 101, 112, 111, 114, 116, 105, 110, 103, 45, 77, 84, 65, 58, 32, 100, 110, 115, 59, 32] ++ r.host] ++ ([[79, 114, 105, 103, 105, 110, 97, 108, 45, 69, 110, 118, 101, 108, 111, 112, 101, 45, 73, 100, 58, 32] ++ X.encX r.x.m.env] ++ [[65, 114, 114, 105, 118, 97, 108, 45, 68, 97, 116, 101, 58, 32] ++ tmL r.x.at_, []]) by unfold sec3; rw [if_neg he, List.append_assoc])
  clear he
  go_wp2_with fail
  refine (X.encode_x r.x.m.env _ (by omega)).mono ?_
  rintro x w3 ⟨rfl, hb⟩
  have H3 := Lib.hid (H2.out.trans (Sy.of hb H1.out.le))
  have H1b := Lib.hid (H1.out.next hb)
  have D1 := Lib.hid ((hb.block _ (ltOf D0.out)).trans D0.out)
  have s3 : (mkS (X.encX r.x.m.env)).size ≤ 3000 := by rw [mkS_size]; have := enc_len r.x.m.env; omega
  clear hb H1 d0
  go_wp2_with fail
  refine (said_x H1b.out [[79, 114, 105, 103, 105, 110, 97, 108, 45, 69, 110, 118, 101, 108, 111, 112, 101, 45, 73, 100, 58, 32] ++ X.encX r.x.m.env] 1 _ ?_ rfl (by simp; omega)).mono ?_
  ·show [_] = _
   rw [strsV, List.map_cons, List.map_nil, ← mkS_cat]
   rfl
  rintro x w4 ⟨rfl, h1, h2⟩
  have D2 := Lib.hid (h2.keep _ _ D1.out (by have := HH.out.lt; have := HH.out.le; omega) (fun cs fz e => by injection e with _ e; exact absurd e (by decide)))
  have K1 := Lib.hid h1
  have K2 := Lib.hid (H3.out.trans h2)
  have d0 := cellOf D2.out 2
  unfold RE at d0
  clear h1 h2 D0 D1 H3 H1b
  go_wp2_with fail
  refine (timed_x r.x.at_ _ h0 (HRR.out _ K2.out)).mono ?_
  rintro x w5 ⟨rfl, hb⟩
  have K3 := Lib.hid (K2.out.trans (Sy.of hb K1.out.le))
  have K1b := Lib.hid (K1.out.next hb)
  have s4 : (mkS (tmL r.x.at_)).size ≤ 1000 := by rw [mkS_size]; exact tm_len h0
  clear hb K1
  go_wp2_with fail
  refine (said_x K1b.out [[65, 114, 114, 105, 118, 97, 108, 45, 68, 97, 116, 101, 58, 32] ++ tmL r.x.at_, []] 2 _ ?_ rfl (by simp; omega)).mono ?_
  ·show [_, _] = _
   rw [strsV, List.map_cons, List.map_cons, List.map_nil, ← mkS_cat]
   rfl
  rintro x w6 ⟨rfl, h1, h2⟩
  rw [List.append_assoc, List.append_assoc, ← HS.out] at h1
  have K4 := Lib.hid h1
  have K5 := Lib.hid (K3.out.trans h2)
  clear h1 h2
  go_wp2_with fail
  go_end0
  exact ⟨rfl, K4.out, K5.out⟩
end Go.Proofs.YtojpkbonioglbaaGreatDoor.E.T
namespace Go.Proofs.YtojpkbonioglbaaGreatDoor.E.T
set_option maxRecDepth 100000
open Go.RowKit Go.Shelf
theorem load_c {w : World} {z : Nat} {r : RT} {vr vl vt : Value} (h : w.heap[z]? = some (.cells (RE r vr vl vt) 39 (0, 0))) : (loadVar 9 ⟨z, 25, none⟩).run Tryz.prog w = .ok (.string (mkS r.host)) w ∧ (loadVar 3 ⟨z, 23, none⟩).run Tryz.prog w = .ok (.int .i64 r.now) w := by
 have c : w.cell? ⟨z, 25, none⟩ = some (.string (mkS r.host)) := cellOf h 25
 have d : w.cell? ⟨z, 23, none⟩ = some (.int .i64 r.now) := cellOf h 23
 constructor <;> go_simp
theorem size_pt : (Tryz.prog.info? 27).map (·.size) = some 2 := by kernel_rfl
theorem load_f {w : World} {z : Nat} {r : RT} {vr vl vt : Value} (h : w.heap[z]? = some (.cells (RE r vr vl vt) 39 (0, 0))) : (loadVar 27 ⟨z, 4, none⟩).run Tryz.prog w = .ok (.agg #[.string (mkS r.x.fr.1), .string (mkS r.x.fr.2)]) w :=
 loadVar_blk (P := Tryz.prog) (ty := 27) (o := 4) (vs := #[.string (mkS r.x.fr.1), .string (mkS r.x.fr.2)]) h Tryz.underlying27 rfl size_pt (fun j hj => by
  have hj' : j < 2 := hj
  match j, hj' with
  | 0, _ => rfl
  | 1, _ => rfl)
set_option maxHeartbeats 8000000 in
theorem header_x (g R : Nat) (l : List Txt) (b : Txt) (r : RT) (vr vl vt : Value) (w : World) (h : SL g R l w) (hE : RAt w r vr vl vt) (hp : P.rightE ([112, 111, 115, 116, 109, 97, 115, 116, 101, 114], r.host) = 0) (hf : P.rightE r.x.fr = 0) (h0 : 0 ≤ r.now) (hR : ∀ w', Below w.heap.size w w' → Ready w') (hb : b.length ≤ 1000) (hk : r.kind.length ≤ 100) (hn : l.length + 7 ≤ 1000000) : Calls Tryz.prog 33 #[rtA r vr vl vt, .string (mkS b), sayF g] w (SayPost g R (l ++ sec1 r b) w) := by
 have HB := Lib.hid (RB.new w r vr vl vt)
 have HH := Lib.hid h
 have HP := Lib.hid hp
 have HF := Lib.hid hf
 have HRR := Lib.hid hR
 obtain ⟨ra, rcap, rfl, _, _, _⟩ := hE.e.rc
 obtain ⟨la, lc, rfl⟩ := txts_slice hE.e.ls
 obtain ⟨ta, tc, rfl⟩ := txts_slice hE.t
 have s1 : (mkS (P.textL ([112, 111, 115, 116, 109, 97, 115, 116, 101, 114], r.host))).size ≤ 1000 := by have := txt_len hp; rw [mkS_size]; omega
 have s2 : (mkS (P.textL r.x.fr)).size ≤ 1000 := by have := txt_len hf; rw [mkS_size]; omega
 have s3 : (mkS (tmL r.now)).size ≤ 1000 := by rw [mkS_size]; exact tm_len h0
 have s4 := mkS_size r.kind
 have s5 := mkS_size b
 clear h hE hp hf hR
 go_enter Tryz.func33, Tryz.ntmps33
 go_upto_region 1 with fail
 change Code.wp _ _ _ _ (w.alloc (.cells (RE r (.slice ra r.x.rc.length rcap) (.slice la r.x.ls.length lc) (.slice ta r.rp.text.length tc)) 39))
 generalize w.alloc (.cells (RE r (.slice ra r.x.rc.length rcap) (.slice la r.x.ls.length lc) (.slice ta r.rp.text.length tc)) 39) = w1 at *
 ·refine wp_region_held_drew (S := fun wr => wr.heap[w.heap.size]? = some (.cells (RE r (.slice ra r.x.rc.length rcap) (.slice la r.x.ls.length lc) (.slice ta r.rp.text.length tc)) 39 (0, 0))) (by kernel_rfl) (HB.out.next (Below.refl _ _).drew).box (fun hH => ?_)
  have G1 := Lib.hid (HB.out.next (Below.refl _ _).drew)
  generalize w1.drew = wd at *
  refine wpAnyH_take (i := 0) (oi := { dst := some 6, op := _, type := _, pos := _, after := _, guard := _ }) (v := sayF g) rfl (by kernel_rfl) (by kernel_rfl) (by kernel_rfl) (fun _ _ _ h => h) (Or.inl ⟨by kernel_rfl, fun wz hz => by kernel_rfl⟩) hH ?_
  try simp only [Act.put, List.setIfInBounds_toArray, List.set_cons_zero, List.set_cons_succ]
  refine wpAnyH_take (i := 1) (oi := { dst := some 7, op := _, type := _, pos := _, after := _, guard := _ }) (v := .pointer (some ⟨w.heap.size, 25, none⟩)) rfl (by kernel_rfl) (by kernel_rfl) (by kernel_rfl) (fun _ _ _ h => h) (Or.inl ⟨by kernel_rfl, fun wz hz => by kernel_rfl⟩) hH ?_
  try simp only [Act.put, List.setIfInBounds_toArray, List.set_cons_zero, List.set_cons_succ]
  refine wpAnyH_take (i := 2) (oi := { dst := some 8, op := _, type := _, pos := _, after := _, guard := _ }) (v := .string (mkS r.host)) rfl (by kernel_rfl) (by kernel_rfl) (by kernel_rfl) (fun _ _ _ h => h) (Or.inl ⟨by kernel_rfl, fun wz hz => jload_op _ ⟨rfl, rfl⟩ (load_c hz).1⟩) hH ?_
  try simp only [Act.put, List.setIfInBounds_toArray, List.set_cons_zero, List.set_cons_succ]
  refine wpAnyH_take (i := 3) (oi := { dst := some 9, op := _, type := _, pos := _, after := _, guard := _ }) (v := .agg #[.string (mkS [112, 111, 115, 116, 109, 97, 115, 116, 101, 114]), .string (mkS r.host)]) rfl (by kernel_rfl) (by kernel_rfl) (by kernel_rfl) (fun _ _ _ h => h) (Or.inl ⟨by kernel_rfl, fun wz hz => by kernel_rfl⟩) hH ?_
  try simp only [Act.put, List.setIfInBounds_toArray, List.set_cons_zero, List.set_cons_succ]
  refine wpAnyH_take (i := 6) (oi := { dst := some 12, op := _, type := _, pos := _, after := _, guard := _ }) (v := .pointer (some ⟨w.heap.size, 1, none⟩)) rfl (by kernel_rfl) (by kernel_rfl) (by kernel_rfl) (fun _ _ _ h => h) (Or.inl ⟨by kernel_rfl, fun wz hz => by kernel_rfl⟩) hH ?_
  try simp only [Act.put, List.setIfInBounds_toArray, List.set_cons_zero, List.set_cons_succ]
  refine wpAnyH_take (i := 7) (oi := { dst := some 13, op := _, type := _, pos := _, after := _, guard := _ }) (v := .pointer (some ⟨w.heap.size, 4, none⟩)) rfl (by kernel_rfl) (by kernel_rfl) (by kernel_rfl) (fun _ _ _ h => h) (Or.inl ⟨by kernel_rfl, fun wz hz => by kernel_rfl⟩) hH ?_
  try simp only [Act.put, List.setIfInBounds_toArray, List.set_cons_zero, List.set_cons_succ]
  refine wpAnyH_take (i := 8) (oi := { dst := some 14, op := _, type := _, pos := _, after := _, guard := _ }) (v := .agg #[.string (mkS r.x.fr.1), .string (mkS r.x.fr.2)]) rfl (by kernel_rfl) (by kernel_rfl) (by kernel_rfl) (fun _ _ _ h => h) (Or.inl ⟨by kernel_rfl, fun wz hz => jload_op _ ⟨rfl, rfl⟩ (load_f hz)⟩) hH ?_
  try simp only [Act.put, List.setIfInBounds_toArray, List.set_cons_zero, List.set_cons_succ]
  refine wpAnyH_take (i := 11) (oi := { dst := some 17, op := _, type := _, pos := _, after := _, guard := _ }) (v := .pointer (some ⟨w.heap.size, 23, none⟩)) rfl (by kernel_rfl) (by kernel_rfl) (by kernel_rfl) (fun _ _ _ h => h) (Or.inl ⟨by kernel_rfl, fun wz hz => by kernel_rfl⟩) hH ?_
  try simp only [Act.put, List.setIfInBounds_toArray, List.set_cons_zero, List.set_cons_succ]
  refine wpAnyH_take (i := 12) (oi := { dst := some 18, op := _, type := _, pos := _, after := _, guard := _ }) (v := .int .i64 r.now) rfl (by kernel_rfl) (by kernel_rfl) (by kernel_rfl) (fun _ _ _ h => h) (Or.inl ⟨by kernel_rfl, fun wz hz => jload_op _ ⟨rfl, rfl⟩ (load_c hz).2⟩) hH ?_
  try simp only [Act.put, List.setIfInBounds_toArray, List.set_cons_zero, List.set_cons_succ]
  refine wpAnyH_take (i := 15) (oi := { dst := some 21, op := _, type := _, pos := _, after := _, guard := _ }) (v := .pointer (some ⟨w.heap.size, 0, none⟩)) rfl (by kernel_rfl) (by kernel_rfl) (by kernel_rfl) (fun _ _ _ h => h) (Or.inl ⟨by kernel_rfl, fun wz hz => by kernel_rfl⟩) hH ?_
  try simp only [Act.put, List.setIfInBounds_toArray, List.set_cons_zero, List.set_cons_succ]
  refine wpAnyH_take (i := 16) (oi := { dst := some 22, op := _, type := _, pos := _, after := _, guard := _ }) (v := .string (mkS r.kind)) rfl (by kernel_rfl) (by kernel_rfl) (by kernel_rfl) (fun _ _ _ h => h) (Or.inl ⟨by kernel_rfl, fun wz hz => jload_op _ ⟨rfl, rfl⟩ (load_k hz)⟩) hH ?_
  try simp only [Act.put, List.setIfInBounds_toArray, List.set_cons_zero, List.set_cons_succ]
  refine wpAnyH_take (i := 17) (oi := { dst := some 23, op := _, type := _, pos := _, after := _, guard := _ }) (v := .string ((⟨#[83, 117, 98, 106, 101, 99, 116, 58, 32, 68, 101, 108, 105, 118, 101, 114, 121, 32, 114, 101, 112, 111, 114, 116, 58, 32]⟩ : ByteArray) ++ mkS r.kind)) rfl (by kernel_rfl) (by kernel_rfl) (by kernel_rfl) (fun _ _ _ h => h) (Or.inl ⟨by kernel_rfl, fun wz hz => by go_simp; omega⟩) hH ?_
  try simp only [Act.put, List.setIfInBounds_toArray, List.set_cons_zero, List.set_cons_succ]
  refine wpAnyH_take (i := 18) (oi := { dst := some 24, op := _, type := _, pos := _, after := _, guard := _ }) (v := .string (mkS b)) rfl (by kernel_rfl) (by kernel_rfl) (by kernel_rfl) (fun _ _ _ h => h) (Or.inl ⟨by kernel_rfl, fun wz hz => by kernel_rfl⟩) hH ?_
  try simp only [Act.put, List.setIfInBounds_toArray, List.set_cons_zero, List.set_cons_succ]
  refine wpAnyH_take (i := 19) (oi := { dst := some 25, op := _, type := _, pos := _, after := _, guard := _ }) (v := .string ((⟨(List.append [67, 111, 110, 116, 101, 110, 116, 45, 84, 121, 112, 101, 58, 32, 109, 117, 108, 116, 105, 112, 97, 114, 116, 47, 114, 101, 112, 111, 114, 116, 59, 32, 114, 101, 112] [111, 114, 116, 45, 116, 121, 112, 101, 61, 100, 101, 108, 105, 118, 101, 114, 121, 45, 115, 116, 97, 116, 117, 115, 59, 32, 98, 111, 117, 110, 100, 97, 114, 121, 61]).toArray⟩ : ByteArray) ++ mkS b)) rfl (by kernel_rfl) (by kernel_rfl) (by kernel_rfl) (fun _ _ _ h => h) (Or.inl ⟨by kernel_rfl, fun wz hz => by go_simp; omega⟩) hH ?_
  try simp only [Act.put, List.setIfInBounds_toArray, List.set_cons_zero, List.set_cons_succ]
  refine wpAnyH_ready (rs := [4]) (by kernel_rfl) (by simp) ?_
  refine AllReadyH.cons rfl (fun K hK => ?_) AllReadyH.nil
  go_simp
  go_at_call 53
  refine (printed_x ([112, 111, 115, 116, 109, 97, 115, 116, 101, 114], r.host) _ HP.out).mono ?_
  rintro x w2 ⟨rfl, hb⟩
  have G2 := Lib.hid (G1.out.next hb)
  clear hb
  refine hK.out _ _ G2.out.box (fun hHn => ?_)
  clear hK K hH
  have hH := hHn
  clear hHn
  try simp only [Act.put, List.setIfInBounds_toArray, List.set_cons_zero, List.set_cons_succ]
  refine wpAnyH_take (i := 5) (oi := { dst := some 11, op := _, type := _, pos := _, after := _, guard := _ }) (v := .string ((⟨#[70, 114, 111, 109, 58, 32]⟩ : ByteArray) ++ mkS (P.textL ([112, 111, 115, 116, 109, 97, 115, 116, 101, 114], r.host)))) rfl (by kernel_rfl) (by kernel_rfl) (by kernel_rfl) (fun _ _ _ h => h) (Or.inl ⟨by kernel_rfl, fun wz hz => by go_simp; omega⟩) hH ?_
  try simp only [Act.put, List.setIfInBounds_toArray, List.set_cons_zero, List.set_cons_succ]
  refine wpAnyH_ready (rs := [9]) (by kernel_rfl) (by simp) ?_
  refine AllReadyH.cons rfl (fun K hK => ?_) AllReadyH.nil
  go_simp
  go_at_call 53
  refine (printed_x r.x.fr _ HF.out).mono ?_
  rintro x w3 ⟨rfl, hb⟩
  have G3 := Lib.hid (G2.out.next hb)
  clear hb
  refine hK.out _ _ G3.out.box (fun hHn => ?_)
  clear hK K hH
  have hH := hHn
  clear hHn
  try simp only [Act.put, List.setIfInBounds_toArray, List.set_cons_zero, List.set_cons_succ]
  refine wpAnyH_take (i := 10) (oi := { dst := some 16, op := _, type := _, pos := _, after := _, guard := _ }) (v := .string ((⟨#[84, 111, 58, 32]⟩ : ByteArray) ++ mkS (P.textL r.x.fr))) rfl (by kernel_rfl) (by kernel_rfl) (by kernel_rfl) (fun _ _ _ h => h) (Or.inl ⟨by kernel_rfl, fun wz hz => by go_simp; omega⟩) hH ?_
  try simp only [Act.put, List.setIfInBounds_toArray, List.set_cons_zero, List.set_cons_succ]
  refine wpAnyH_ready (rs := [13]) (by kernel_rfl) (by simp) ?_
  refine AllReadyH.cons rfl (fun K hK => ?_) AllReadyH.nil
  go_simp
  go_at_call 54
  refine (timed_x r.now _ h0 (HRR.out _ G3.out.below)).mono ?_
  rintro x w4 ⟨rfl, hb⟩
  have G4 := Lib.hid (G3.out.next hb)
  clear hb
  refine hK.out _ _ G4.out.box (fun hHn => ?_)
  clear hK K hH
  have hH := hHn
  clear hHn
  try simp only [Act.put, List.setIfInBounds_toArray, List.set_cons_zero, List.set_cons_succ]
  refine wpAnyH_take (i := 14) (oi := { dst := some 20, op := _, type := _, pos := _, after := _, guard := _ }) (v := .string ((⟨#[68, 97, 116, 101, 58, 32]⟩ : ByteArray) ++ mkS (tmL r.now))) rfl (by kernel_rfl) (by kernel_rfl) (by kernel_rfl) (fun _ _ _ h => h) (Or.inl ⟨by kernel_rfl, fun wz hz => by go_simp; omega⟩) hH ?_
  try simp only [Act.put, List.setIfInBounds_toArray, List.set_cons_zero, List.set_cons_succ]
  refine wpAnyH_ready (rs := [20]) (by kernel_rfl) (by simp) ?_
  refine AllReadyH.cons rfl (fun K hK => ?_) AllReadyH.nil
  go_simp
  have G5 := Lib.hid (G4.out.next (below_box w4 (.cells #[.string ((⟨#[70, 114, 111, 109, 58, 32]⟩ : ByteArray) ++ mkS (P.textL ([112, 111, 115, 116, 109, 97, 115, 116, 101, 114], r.host))), .string ((⟨#[84, 111, 58, 32]⟩ : ByteArray) ++ mkS (P.textL r.x.fr)), .string ((⟨#[68, 97, 116, 101, 58, 32]⟩ : ByteArray) ++ mkS (tmL r.now)), .string ((⟨#[83, 117, 98, 106, 101, 99, 116, 58, 32, 68, 101, 108, 105, 118, 101, 114, 121, 32, 114, 101, 112, 111, 114, 116, 58, 32]⟩ : ByteArray) ++ mkS r.kind), .string (⟨#[77, 73, 77, 69, 45, 86, 101, 114, 115, 105, 111, 110, 58, 32, 49, 46, 48]⟩ : ByteArray), .string ((⟨(List.append [67, 111, 110, 116, 101, 110, 116, 45, 84, 121, 112, 101, 58, 32, 109, 117, 108, 116, 105, 112, 97, 114, 116, 47, 114, 101, 112, 111, 114, 116, 59, 32, 114, 101, 112] [111, 114, 116, 45, 116, 121, 112, 101, 61, 100, 101, 108, 105, 118, 101, 114, 121, 45, 115, 116, 97, 116, 117, 115, 59, 32, 98, 111, 117, 110, 100, 97, 114, 121, 61]).toArray⟩ : ByteArray) ++ mkS b), .string ⟨#[]⟩] 9)))
  refine hK.out _ _ G5.out.box (fun hHn => ?_)
  clear hK K hH
  have hH := hHn
  clear hHn
  try simp only [Act.put, List.setIfInBounds_toArray, List.set_cons_zero, List.set_cons_succ]
  refine wpAnyH_ready (rs := [21]) (by kernel_rfl) (by simp) ?_
  refine AllReadyH.cons rfl (fun K hK => ?_) AllReadyH.nil
  go_simp
  go_at_call 31
  refine (said_x (HH.out.next G4.out.below) (sec1 r b) 7 _ ?_ rfl hn).mono ?_
  ·show [_, _, _, _, _, _, _] = _
   unfold sec1
   simp only [strsV, List.map_cons, List.map_nil, ← mkS_cat]
   rfl
  rintro x w6 ⟨rfl, h1, h2⟩
  have H1 := Lib.hid h1
  have H2 := Lib.hid ((Sy.of (G4.out.below) HH.out.le).trans h2)
  have H3 := Lib.hid (h2.keep _ _ G4.out.box (by have := HH.out.lt; have := HH.out.le; omega) (fun cs fz e => by injection e with _ e; exact absurd e (by decide)))
  clear h1 h2
  refine hK.out _ _ H3.out (fun hHn => ?_)
  clear hK K hH
  have hH := hHn
  clear hHn
  try simp only [Act.put, List.setIfInBounds_toArray, List.set_cons_zero, List.set_cons_succ]
  refine wpAnyH_done (by kernel_rfl) ?_ _
  go_wp2_with fail
  go_end0
  exact ⟨rfl, H1.out, H2.out⟩
end Go.Proofs.YtojpkbonioglbaaGreatDoor.E.T
namespace Go.Proofs.YtojpkbonioglbaaGreatDoor.E.T
set_option maxRecDepth 100000
set_option linter.unusedSimpArgs false
open Go.RowKit Go.Shelf
theorem tis_store {P : Program} {ops : Array Oper} {rest : List Oper} {op : Oper} {a : Act} {w : World} {Q : Exit → Act → World → Prop} {ty : TypeId} {x y : Operand} (_ : op.op = .store ty x y) (h : wpList P ops Q (op :: rest) a w) : wpList P ops Q (op :: rest) a w := h
theorem tstep_store {op : Oper} {a : Act} {w : World} {ops : Array Oper} {K : Act → World → Prop} {Q : Exit → Act → World → Prop} {E : Prop} (hgd : op.guard = none) (ty : TypeId) (x y : Operand) (ho : op.op = .store ty x y) (b : Nat) (t : TypeId) (cs vs : Array Value) (hx : a.eval x = .pointer (some ⟨b, 0, none⟩)) (hy : a.eval y = .agg vs)
  (hb : w.heap[b]? = some (.cells cs t (0, 0))) (hi : (Tryz.prog.info? ty).map (·.size) = some vs.size) (h1 : vs.all (·.oneCell') = true) (hs : vs.size = cs.size)
  (h : ∀ w', w'.heap[b]? = some (.cells vs t (0, 0)) → Apart b w.heap.size w w' → K (a.put op.dst undef) w') : if Region.wanted op (yielded ops a.tmps) = true then Oper.wp Tryz.prog op a w K Q else E := by
 have hw : Region.wanted op (yielded ops a.tmps) = true := by simp [Region.wanted, hgd]
 rw [if_pos hw]
 refine wp_store_mid ty x y ho b 0 vs hx hy (fun j hj => ⟨?_, freeOf hb _⟩) hi h1 ?_
 ·rw [cellOf hb, Array.getElem?_eq_getElem (by omega)]; rfl
 ·obtain ⟨c2, k1, k2, k3, k4, k5⟩ := setCells_block b t vs.toList 0 cs w hb (by simp; omega)
  refine h _ ?_ (setCells_apart b vs.toList 0 w)
  rw [k1]
  have : c2 = vs := by
   apply Array.toList_inj.1
   apply List.ext_getElem?
   intro i
   by_cases hi2 : i < vs.size
   ·have := k4 i (by rw [Array.length_toList]; omega)
    rw [Nat.zero_add] at this
    rw [Array.getElem?_toList, this]
   ·have := k5 i (by rw [Array.length_toList]; omega)
    rw [Array.getElem?_toList, this, Array.getElem?_toList, Array.getElem?_eq_none (by omega), Array.getElem?_eq_none (by omega)]
  rw [this]
theorem size_a3 : (Tryz.prog.info? 35).map (·.size) = some 3 := by kernel_rfl
theorem one_a3 (a b c : Int) : (#[.int .i64 a, .int .i64 b, .int .i64 c] : Array Value).all (·.oneCell') = true := by kernel_rfl
theorem whole_a3 (a b c x y z : Int) : (#[.int .i64 x, .int .i64 y, .int .i64 z] : Array Value) = ((#[.int .i64 a, .int .i64 b, .int .i64 c] : Array Value).toList.take 0 ++ (#[.int .i64 x, .int .i64 y, .int .i64 z] : Array Value).toList ++ (#[.int .i64 a, .int .i64 b, .int .i64 c] : Array Value).toList.drop (0 + 3)).toArray := by kernel_rfl
abbrev V3 (a b c : Int) : Array Value := #[.int .i64 a, .int .i64 b, .int .i64 c]
structure CB (W : World) (r : RT) (vr vl vt : Value) (w : World) : Prop where
 rb : RB W r vr vl vt w
 ans : w.heap[W.heap.size + 1]? = some (.cells (V3 0 0 0) 35 (0, 0))
theorem CB.next {W w w' : World} {r : RT} {vr vl vt : Value} (h : CB W r vr vl vt w) (hb : Below w.heap.size w w') : CB W r vr vl vt w' := ⟨h.rb.next hb, (hb.block _ (ltOf h.ans)).trans h.ans⟩
theorem CB.start (w : World) (r : RT) (vr vl vt : Value) : CB w r vr vl vt ((w.alloc (.cells (RE r vr vl vt) 39)).alloc (.cells (V3 0 0 0) 35)) := ⟨(RB.new w r vr vl vt).next (below_box _ _), tnew2 w _ _⟩
theorem code_yes {r : RT} (h1 : (r.rp.code != 0) = true) (h2 : rpHas r.rp.e = true) : rtCode r = r.rp.e := by unfold rtCode; rw [h1, h2]; rfl
theorem code_no {r : RT} (h : (r.rp.code != 0 && rpHas r.rp.e) = false) : rtCode r = ((clsK r.kind).getD 0, 0, 0) := by unfold rtCode; rw [h]; rfl
theorem jE_en (r : RT) (vr vl vt : Value) : ∀ j, j < (V3 r.rp.e.1 r.rp.e.2.1 r.rp.e.2.2).size → (RE r vr vl vt)[27 + j]? = (V3 r.rp.e.1 r.rp.e.2.1 r.rp.e.2.2)[j]? := by
 intro j hj
 have hj' : j < 3 := hj
 match j, hj' with
 | 0, _ => rfl
 | 1, _ => rfl
 | 2, _ => rfl
 | j + 3, h => omega
theorem load_k9 {w : World} {z : Nat} {r : RT} {vr vl vt : Value} (h : w.heap[z]? = some (.cells (RE r vr vl vt) 39 (0, 0))) : (loadVar 9 ⟨z, 0, none⟩).run Tryz.prog w = .ok (.string (mkS r.kind)) w := load_k h
def CdPost (r : RT) (w : World) (e : Ending) (w' : World) : Prop := e = .returned (.agg (V3 (rtCode r).1 (rtCode r).2.1 (rtCode r).2.2)) ∧ Below w.heap.size w w'
theorem cd_end {r : RT} {a b c : Int} {W w w' : World} {vr vl vt : Value} (hv : rtCode r = (a, b, c)) (h : CB W r vr vl vt w) (hA : Apart (W.heap.size + 1) w.heap.size w w') : CdPost r W (.returned (.agg (V3 a b c))) w' := by
 unfold CdPost
 rw [hv]
 exact ⟨rfl, h.rb.below.trans (hA.below h.rb.below.size (Nat.le_succ _))⟩
set_option maxHeartbeats 8000000 in
theorem code_x (r : RT) (vr vl vt : Value) (w : World) (hk : r.kind.length ≤ 1000000000) : Calls Tryz.prog 18 #[rtA r vr vl vt] w (CdPost r w) := by
 have HB := Lib.hid (CB.start w r vr vl vt)
 have HK := Lib.hid hk
 have he : ∀ w, (Op.equalIn 10000 35 (.agg #[.int .i64 r.rp.e.1, .int .i64 r.rp.e.2.1, .int .i64 r.rp.e.2.2]) (.agg #[.int .i64 0, .int .i64 0, .int .i64 0])).run Tryz.prog w = .ok (r.rp.e == rpE0) w := fun w => R.eqE3 r.rp.e rpE0 w
 clear hk
 go_enter Tryz.func18, Tryz.ntmps18
 go_upto_region 2 with fail
 change Code.wp _ _ _ _ (((w.alloc (.cells (RE r vr vl vt) 39)).alloc (.cells (V3 0 0 0) 35)).alloc (.cells (V3 0 0 0) 35))
 have HN := Lib.hid (tnew2 (w.alloc (.cells (RE r vr vl vt) 39)) (.cells (V3 0 0 0) 35) (.cells (V3 0 0 0) 35))
 rw [show (w.alloc (.cells (RE r vr vl vt) 39)).heap.size = w.heap.size + 1 by simp] at HN
 have HB1 := Lib.hid (HB.out.next (below_box _ (.cells (V3 0 0 0) 35)))
 generalize ((w.alloc (.cells (RE r vr vl vt) 39)).alloc (.cells (V3 0 0 0) 35)).alloc (.cells (V3 0 0 0) 35) = w1 at *
 clear HB
 go_wp2_with (first | ((with_reducible refine tis_load (ty := 39) (x := .tmp 1) rfl ?_); refine tload ?_ 39 (.tmp 1) rfl w.heap.size 0 39 (RE r vr vl vt) (RE r vr vl vt) _ rfl HB1.out.rb.box Tryz.underlying39 rfl size_rt (fun j _ => by rw [Nat.zero_add]) ?_; (focus (first | rfl | (go_simp; done)))))
 refine (replied_x r vr vl vt _).mono ?_
 rintro e w2 ⟨rfl, hb⟩
 have HB2 := Lib.hid (HB1.out.next hb)
 have HN2 := Lib.hid ((hb.block _ (ltOf HN.out)).trans HN.out)
 clear hb HB1 HN
 rcases Bool.eq_false_or_eq_true (r.rp.code != 0) with h1 | h1
 ·have H1 := Lib.hid h1
  rw [h1]
  clear h1
  rcases Bool.eq_false_or_eq_true (rpHas r.rp.e) with h2 | h2
  ·have he2 : (r.rp.e == rpE0) = false := by unfold rpHas at h2; simpa using h2
   rw [he2] at he
   have HV := Lib.hid (code_yes H1.out h2)
   clear h2 he2
   go_wp2_with (first | ((with_reducible refine tis_load (ty := 35) (x := .tmp 9) rfl ?_); refine tload ?_ 35 (.tmp 9) rfl w.heap.size 27 39 (RE r vr vl vt) (V3 r.rp.e.1 r.rp.e.2.1 r.rp.e.2.2) _ rfl HB2.out.rb.box Tryz.underlying35 rfl size_a3 (jE_en r vr vl vt) ?_; (focus (first | rfl | (go_simp; done)))) | ((with_reducible refine tis_load (ty := 35) (x := .tmp 3) rfl ?_); refine tload ?_ 35 (.tmp 3) rfl (w.heap.size + 1 + 1) 0 35 (V3 0 0 0) (V3 0 0 0) _ rfl HN2.out Tryz.underlying35 rfl size_a3 (fun j _ => by rw [Nat.zero_add]) ?_; (focus (first | rfl | (go_simp; done)))) | ((with_reducible refine tis_load (ty := 35) (x := .tmp 15) rfl ?_); refine tload ?_ 35 (.tmp 15) rfl w.heap.size 27 39 (RE r vr vl vt) (V3 r.rp.e.1 r.rp.e.2.1 r.rp.e.2.2) _ rfl HB2.out.rb.box Tryz.underlying35 rfl size_a3 (jE_en r vr vl vt) ?_; (focus (first | rfl | (go_simp; done)))) | ((with_reducible refine tis_store (ty := 35) (x := .tmp 2) (y := .tmp 16) rfl ?_); refine wpList_store_blk rfl 35 (.tmp 2) (.tmp 16) rfl (w.heap.size + 1) 0 35 (V3 0 0 0) (V3 r.rp.e.1 r.rp.e.2.1 r.rp.e.2.2) (V3 r.rp.e.1 r.rp.e.2.1 r.rp.e.2.2) rfl rfl HB2.out.ans size_a3 (one_a3 _ _ _) (Nat.le_of_eq rfl) (whole_a3 0 0 0 _ _ _) ?_; intro w9 hB9 hA9))
   refine bodyPost_ret (v := .agg (V3 r.rp.e.1 r.rp.e.2.1 r.rp.e.2.2)) (results_cell_row rfl _ _ (w.heap.size + 1) 35 (V3 r.rp.e.1 r.rp.e.2.1 r.rp.e.2.2) (0, 0) _ rfl hB9 Tryz.underlying35 rfl size_a3) rfl (cd_end HV.out HB2.out hA9)
  ·have he2 : (r.rp.e == rpE0) = true := by unfold rpHas at h2; simpa using h2
   rw [he2] at he
   have HV := Lib.hid (code_no (by rw [H1.out, h2]; rfl))
   clear h2 he2
   go_upto_region 4 with (first | ((with_reducible refine tis_load (ty := 35) (x := .tmp 9) rfl ?_); refine tload ?_ 35 (.tmp 9) rfl w.heap.size 27 39 (RE r vr vl vt) (V3 r.rp.e.1 r.rp.e.2.1 r.rp.e.2.2) _ rfl HB2.out.rb.box Tryz.underlying35 rfl size_a3 (jE_en r vr vl vt) ?_; (focus (first | rfl | (go_simp; done)))) | ((with_reducible refine tis_load (ty := 35) (x := .tmp 3) rfl ?_); refine tload ?_ 35 (.tmp 3) rfl (w.heap.size + 1 + 1) 0 35 (V3 0 0 0) (V3 0 0 0) _ rfl HN2.out Tryz.underlying35 rfl size_a3 (fun j _ => by rw [Nat.zero_add]) ?_; (focus (first | rfl | (go_simp; done)))))
   refine wp_region_held_drew (S := fun wr => wr.heap[w.heap.size]? = some (.cells (RE r vr vl vt) 39 (0, 0))) (by kernel_rfl) (HB2.out.next (Below.refl _ _).drew).rb.box (fun hH => ?_)
   have G1 := Lib.hid (HB2.out.next (Below.refl _ _).drew)
   generalize World.drew _ = wd at *
   refine wpAnyH_take (i := 1) (oi := { dst := some 18, op := _, type := _, pos := _, after := _, guard := _ }) (v := .pointer (some ⟨w.heap.size, 0, none⟩)) rfl (by kernel_rfl) (by kernel_rfl) (by kernel_rfl) (fun _ _ _ h => h) (Or.inl ⟨by kernel_rfl, fun wz hz => by kernel_rfl⟩) hH ?_
   try simp only [Act.put, List.setIfInBounds_toArray, List.set_cons_zero, List.set_cons_succ]
   refine wpAnyH_take (i := 2) (oi := { dst := some 19, op := _, type := _, pos := _, after := _, guard := _ }) (v := .string (mkS r.kind)) rfl (by kernel_rfl) (by kernel_rfl) (by kernel_rfl) (fun _ _ _ h => h) (Or.inl ⟨by kernel_rfl, fun wz hz => jload_op _ ⟨rfl, rfl⟩ (load_k hz)⟩) hH ?_
   try simp only [Act.put, List.setIfInBounds_toArray, List.set_cons_zero, List.set_cons_succ]
   refine wpAnyH_ready (rs := [0]) (by kernel_rfl) (by simp) ?_
   refine AllReadyH.cons rfl (fun K hK => ?_) AllReadyH.nil
   go_simp
   go_at_call 37
   refine (classes_x _).mono ?_
   rintro x w2 ⟨M, rfl, hb, hm⟩
   have G2 := Lib.hid (G1.out.next hb)
   have HL := Lib.hid (cls_look hm r.kind HK.out false)
   clear hb hm
   refine hK.out _ _ G2.out.rb.box (fun hHn => ?_)
   clear hK K hH
   have hH := hHn
   clear hHn
   try simp only [Act.put, List.setIfInBounds_toArray, List.set_cons_zero, List.set_cons_succ]
   refine wpAnyH_ready (rs := [3]) (by kernel_rfl) (by simp) ?_
   refine AllReadyH.cons rfl (fun K hK => ?_) AllReadyH.nil
   refine tstep_look rfl 80 (.tmp 17) (.tmp 19) false rfl _ HL.out ?_
   refine hK.out _ _ G2.out.rb.box (fun hHn => ?_)
   clear hK K hH
   have hH := hHn
   clear hHn
   try simp only [Act.put, List.setIfInBounds_toArray, List.set_cons_zero, List.set_cons_succ]
   refine wpAnyH_take (i := 4) (oi := { dst := some 21, op := _, type := _, pos := _, after := _, guard := _ }) (v := .agg #[.int .i64 ((clsK r.kind).getD 0), .int .i64 0, .int .i64 0]) rfl (by kernel_rfl) (by kernel_rfl) (by kernel_rfl) (fun _ _ _ h => h) (Or.inl ⟨by kernel_rfl, fun wz hz => by kernel_rfl⟩) hH ?_
   try simp only [Act.put, List.setIfInBounds_toArray, List.set_cons_zero, List.set_cons_succ]
   refine wpAnyH_ready (rs := [5]) (by kernel_rfl) (by simp) ?_
   refine AllReadyH.cons rfl (fun K hK => ?_) AllReadyH.nil
   refine tstep_store rfl 35 (.tmp 2) (.tmp 21) rfl (w.heap.size + 1) 35 (V3 0 0 0) (V3 ((clsK r.kind).getD 0) 0 0) rfl rfl G2.out.ans size_a3 (one_a3 _ _ _) rfl ?_
   intro w9 hB9 hA9
   refine hK.out _ _ ((hA9.block _ (ltOf G2.out.rb.box) (by omega)).trans G2.out.rb.box) (fun hHn => ?_)
   clear hK K hH
   have hH := hHn
   clear hHn
   try simp only [Act.put, List.setIfInBounds_toArray, List.set_cons_zero, List.set_cons_succ]
   refine wpAnyH_done (by kernel_rfl) ?_ _
   go_wp2_with fail
   refine bodyPost_ret (v := .agg (V3 ((clsK r.kind).getD 0) 0 0)) (results_cell_row rfl _ _ (w.heap.size + 1) 35 (V3 ((clsK r.kind).getD 0) 0 0) (0, 0) _ rfl hB9 Tryz.underlying35 rfl size_a3) rfl (cd_end HV.out G2.out hA9)
 ·have HV := Lib.hid (code_no (by rw [h1]; rfl))
  rw [h1]
  clear h1
  go_upto_region 4 with fail
  refine wp_region_held_drew (S := fun wr => wr.heap[w.heap.size]? = some (.cells (RE r vr vl vt) 39 (0, 0))) (by kernel_rfl) (HB2.out.next (Below.refl _ _).drew).rb.box (fun hH => ?_)
  have G1 := Lib.hid (HB2.out.next (Below.refl _ _).drew)
  generalize World.drew _ = wd at *
  refine wpAnyH_take (i := 1) (oi := { dst := some 18, op := _, type := _, pos := _, after := _, guard := _ }) (v := .pointer (some ⟨w.heap.size, 0, none⟩)) rfl (by kernel_rfl) (by kernel_rfl) (by kernel_rfl) (fun _ _ _ h => h) (Or.inl ⟨by kernel_rfl, fun wz hz => by kernel_rfl⟩) hH ?_
  try simp only [Act.put, List.setIfInBounds_toArray, List.set_cons_zero, List.set_cons_succ]
  refine wpAnyH_take (i := 2) (oi := { dst := some 19, op := _, type := _, pos := _, after := _, guard := _ }) (v := .string (mkS r.kind)) rfl (by kernel_rfl) (by kernel_rfl) (by kernel_rfl) (fun _ _ _ h => h) (Or.inl ⟨by kernel_rfl, fun wz hz => jload_op _ ⟨rfl, rfl⟩ (load_k hz)⟩) hH ?_
  try simp only [Act.put, List.setIfInBounds_toArray, List.set_cons_zero, List.set_cons_succ]
  refine wpAnyH_ready (rs := [0]) (by kernel_rfl) (by simp) ?_
  refine AllReadyH.cons rfl (fun K hK => ?_) AllReadyH.nil
  go_simp
  go_at_call 37
  refine (classes_x _).mono ?_
  rintro x w2 ⟨M, rfl, hb, hm⟩
  have G2 := Lib.hid (G1.out.next hb)
  have HL := Lib.hid (cls_look hm r.kind HK.out false)
  clear hb hm
  refine hK.out _ _ G2.out.rb.box (fun hHn => ?_)
  clear hK K hH
  have hH := hHn
  clear hHn
  try simp only [Act.put, List.setIfInBounds_toArray, List.set_cons_zero, List.set_cons_succ]
  refine wpAnyH_ready (rs := [3]) (by kernel_rfl) (by simp) ?_
  refine AllReadyH.cons rfl (fun K hK => ?_) AllReadyH.nil
  refine tstep_look rfl 80 (.tmp 17) (.tmp 19) false rfl _ HL.out ?_
  refine hK.out _ _ G2.out.rb.box (fun hHn => ?_)
  clear hK K hH
  have hH := hHn
  clear hHn
  try simp only [Act.put, List.setIfInBounds_toArray, List.set_cons_zero, List.set_cons_succ]
  refine wpAnyH_take (i := 4) (oi := { dst := some 21, op := _, type := _, pos := _, after := _, guard := _ }) (v := .agg #[.int .i64 ((clsK r.kind).getD 0), .int .i64 0, .int .i64 0]) rfl (by kernel_rfl) (by kernel_rfl) (by kernel_rfl) (fun _ _ _ h => h) (Or.inl ⟨by kernel_rfl, fun wz hz => by kernel_rfl⟩) hH ?_
  try simp only [Act.put, List.setIfInBounds_toArray, List.set_cons_zero, List.set_cons_succ]
  refine wpAnyH_ready (rs := [5]) (by kernel_rfl) (by simp) ?_
  refine AllReadyH.cons rfl (fun K hK => ?_) AllReadyH.nil
  refine tstep_store rfl 35 (.tmp 2) (.tmp 21) rfl (w.heap.size + 1) 35 (V3 0 0 0) (V3 ((clsK r.kind).getD 0) 0 0) rfl rfl G2.out.ans size_a3 (one_a3 _ _ _) rfl ?_
  intro w9 hB9 hA9
  refine hK.out _ _ ((hA9.block _ (ltOf G2.out.rb.box) (by omega)).trans G2.out.rb.box) (fun hHn => ?_)
  clear hK K hH
  have hH := hHn
  clear hHn
  try simp only [Act.put, List.setIfInBounds_toArray, List.set_cons_zero, List.set_cons_succ]
  refine wpAnyH_done (by kernel_rfl) ?_ _
  go_wp2_with fail
  refine bodyPost_ret (v := .agg (V3 ((clsK r.kind).getD 0) 0 0)) (results_cell_row rfl _ _ (w.heap.size + 1) 35 (V3 ((clsK r.kind).getD 0) 0 0) (0, 0) _ rfl hB9 Tryz.underlying35 rfl size_a3) rfl (cd_end HV.out G2.out hA9)
end Go.Proofs.YtojpkbonioglbaaGreatDoor.E.T
