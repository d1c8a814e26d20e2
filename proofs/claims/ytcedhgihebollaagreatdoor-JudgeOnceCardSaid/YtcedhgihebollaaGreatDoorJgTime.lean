/-
  The walk of Time.
-/
import Derived.Test.YtcedhgihebollaaGreatDoorJgPass
import Derived.Test.YtcedhgihebollaaGreatDoorMaJgF
namespace Go.Proofs.YtcedhgihebollaaGreatDoor.E.J
set_option maxRecDepth 100000
open Go.RowKit Go.Shelf
theorem results_ctt {fn : Func} {p u v : Tmp} {ty : TypeId} (h : fn.results = #[.cell p ty, .tmp u, .tmp v]) (tmps : Array Value) (P : Program) (w : World) :
    (results fn tmps).run P w =
      ((asAddr (tmps.getD p undef)).run P w).andThen fun a w₁ => ((loadVar ty a).run P w₁).andThen fun c w₂ => .ok (.tuple #[c, tmps.getD u undef, tmps.getD v undef]) w₂ := by
  simp only [results, h]
  simp [Sem.run_bind, Result.andThen]
theorem answer_t {fn : Func} {p u v : Tmp} (hf : fn.results = #[.cell p 41, .tmp u, .tmp v]) {tmps : Array Value} {w : World} {b : Nat} {t : ST} {a c : Value} (hp : tmps.getD p undef = .pointer (some ⟨b, 0, none⟩)) (hu : tmps.getD u undef = a) (hv : tmps.getD v undef = c)
    (hb : w.heap[b]? = some (.cells (TC t) 41 (0, 0))) : (results fn tmps).run Tryz.prog w = .ok (.tuple #[stA t, a, c]) w := by
  rw [results_ctt hf, hp, hu, hv]
  have hl := loadVar_blk (P := Tryz.prog) (ty := 41) (o := 0) (vs := TC t) hb Tryz.underlying41 rfl jsize_st (fun j _ => by rw [Nat.zero_add])
  simp [asAddr, Result.andThen, hl]
  rfl
theorem jl_msg {w : World} {z : Nat} {x : EM} {vr vl : Value} (h : w.heap[z]? = some (.cells (EC x vr vl) 33 (0, 0))) : (loadVar 33 ⟨z, 0, none⟩).run Tryz.prog w = .ok (.agg (EC x vr vl)) w :=
  loadVar_blk (P := Tryz.prog) (ty := 33) (o := 0) (vs := EC x vr vl) h Tryz.underlying33 rfl size_msg (fun j _ => by rw [Nat.zero_add])
theorem jl_plan {w : World} {z : Nat} {p : PJ} (h : w.heap[z]? = some (.cells #[.int .i64 p.base, .int .i64 p.most, .int .i64 p.life, .int .i64 p.warn] 23 (0, 0))) : (loadVar 23 ⟨z, 0, none⟩).run Tryz.prog w = .ok (plA p) w :=
  loadVar_blk (P := Tryz.prog) (ty := 23) (o := 0) (vs := #[.int .i64 p.base, .int .i64 p.most, .int .i64 p.life, .int .i64 p.warn]) h Tryz.underlying23 rfl jsize_plan (fun j _ => by rw [Nat.zero_add])
theorem jload_op {ρ : Operand → Value} {ty : TypeId} {a : Addr} {v : Value} {w : World} {x : Operand} (o : Oper) (ho : o.op = .load ty x ∧ ρ x = .pointer (some a)) (h : (loadVar ty a).run Tryz.prog w = .ok v w) : (execOp ρ o).run Tryz.prog w = .ok (.value v) w := by
  obtain ⟨h1, h2⟩ := ho
  simp only [execOp, h1, h2, Instr.loadAt, Instr.sureAddr, Sem.run_bind, Sem.run_pure, Result.andThen_ok, h]
def TyPost (T : ST) (l : List Txt) (code : Int) (w : World) (e : Ending) (w' : World) : Prop := ∃ v, e = .returned (.tuple #[stA T, v, .int .i64 code]) ∧ w'.ownsRow w.heap.size 9 1 v l.length (strsV l) ∧ Below w.heap.size w w'
theorem one_TC (t : ST) : (TC t).all (·.oneCell') = true := by kernel_rfl
theorem whole_TC (cs : Array Value) (t : ST) (h : cs.size = 5) : TC t = (cs.toList.take 0 ++ (TC t).toList ++ cs.toList.drop (0 + (TC t).size)).toArray := by
  have e : (TC t).size = 5 := rfl
  rw [e, List.drop_of_length_le (by simp [h])]
  simp
/-- The boxes, and the answer's above them. -/
structure ZB (W : World) (p : PJ) (x : EM) (vr vl : Value) (t : ST) (w : World) : Prop where
  b : XB W p x vr vl t w
  r : w.heap[W.heap.size + 1 + 1 + 1]? = some (.cells (TC zeroT) 41 (0, 0))
theorem ZB.new (w : World) (p : PJ) (x : EM) (vr vl : Value) (t : ST) : ZB w p x vr vl t ((((w.alloc (.cells #[.int .i64 p.base, .int .i64 p.most, .int .i64 p.life, .int .i64 p.warn] 23)).alloc (.cells (EC x vr vl) 33)).alloc (.cells (TC t) 41)).alloc (.cells (TC zeroT) 41)) := by
  have h := XB.new w p x vr vl t
  generalize hW : ((w.alloc (.cells #[.int .i64 p.base, .int .i64 p.most, .int .i64 p.life, .int .i64 p.warn] 23)).alloc (.cells (EC x vr vl) 33)).alloc (.cells (TC t) 41) = w2 at h
  have hs : w2.heap.size = w.heap.size + 1 + 1 + 1 := by rw [← hW]; simp
  refine ⟨h.next (below_box w2 _), ?_⟩
  rw [← hs]
  exact newOf w2 _
theorem ZB.next {W w w' : World} {p : PJ} {x : EM} {vr vl : Value} {t : ST} (h : ZB W p x vr vl t w) (hb : Below w.heap.size w w') : ZB W p x vr vl t w' := ⟨h.b.next hb, (hb.block _ (ltOf h.r)).trans h.r⟩
/-- .. behind the turning of two blocks. -/
theorem ZB.f2 {W w w' : World} {p : PJ} {x : EM} {vr vl : Value} {t : ST} {bm : Nat} {cs : Array Value} (h : ZB W p x vr vl t w) (hm : w.heap[bm]? = some (.cells cs 31 (0, 0))) (f : F2 (W.heap.size + 1 + 1) bm w w') : w'.heap[W.heap.size]? = some (.cells #[.int .i64 p.base, .int .i64 p.most, .int .i64 p.life, .int .i64 p.warn] 23 (0, 0)) ∧ w'.heap[W.heap.size + 1]? = some (.cells (EC x vr vl) 33 (0, 0)) ∧ w'.heap[W.heap.size + 1 + 1 + 1]? = some (.cells (TC zeroT) 41 (0, 0)) :=
  ⟨f.at_ h.b.pb (by omega) (blk_ne h.b.pb hm (by decide)), f.at_ h.b.mb (by omega) (blk_ne h.b.mb hm (by decide)), f.at_ h.r (by omega) (blk_ne h.r hm (by decide))⟩
theorem jheap_drew (w : World) : w.drew.heap = w.heap := rfl
/-- The answer laid in its box, five cells one behind the other. -/
theorem ans_st {w w4 : World} {R bt bm : Nat} (T : ST) (l : List Txt) (v : Value) (code : Int) (hr : w4.heap[R]? = some (.cells (TC zeroT) 41 (0, 0))) (hT : TB w bt bm T v l w4) (hR : w.heap.size ≤ R := by omega) :
    ((((((w4.setCell ⟨R, 0, none⟩ (.int .i64 T.pl)).setCell ⟨R, 1, none⟩ (.string (mkS T.st))).setCell ⟨R, 2, none⟩ (.int .i64 T.tr)).setCell ⟨R, 3, none⟩ (.int .i64 T.ne)).setCell ⟨R, 4, none⟩ (.int .i64 T.told)).drew).heap[R]? = some (.cells (TC T) 41 (0, 0)) ∧
    TyPost T l code w (.returned (.tuple #[stA T, v, .int .i64 code])) ((((((w4.setCell ⟨R, 0, none⟩ (.int .i64 T.pl)).setCell ⟨R, 1, none⟩ (.string (mkS T.st))).setCell ⟨R, 2, none⟩ (.int .i64 T.tr)).setCell ⟨R, 3, none⟩ (.int .i64 T.ne)).setCell ⟨R, 4, none⟩ (.int .i64 T.told)).drew) := by
  have e := setOf (setOf (setOf (setOf (setOf hr 0 (.int .i64 T.pl)) 1 (.string (mkS T.st))) 2 (.int .i64 T.tr)) 3 (.int .i64 T.ne)) 4 (.int .i64 T.told)
  have f : F2 R R w4 (((((w4.setCell ⟨R, 0, none⟩ (.int .i64 T.pl)).setCell ⟨R, 1, none⟩ (.string (mkS T.st))).setCell ⟨R, 2, none⟩ (.int .i64 T.tr)).setCell ⟨R, 3, none⟩ (.int .i64 T.ne)).setCell ⟨R, 4, none⟩ (.int .i64 T.told)).drew :=
    (F2.set1 R R w4 0 _).trans ((F2.set1 R R _ 1 _).trans ((F2.set1 R R _ 2 _).trans ((F2.set1 R R _ 3 _).trans ((F2.set1 R R _ 4 _).trans (F2.of (Below.refl _ _).drew)))))
  have e2 : (((((TC zeroT).setIfInBounds 0 (.int .i64 T.pl)).setIfInBounds 1 (.string (mkS T.st))).setIfInBounds 2 (.int .i64 T.tr)).setIfInBounds 3 (.int .i64 T.ne)).setIfInBounds 4 (.int .i64 T.told) = TC T := rfl
  rw [e2] at e
  refine ⟨by rw [jheap_drew]; exact e, v, rfl, own_of hT.row (fun k hk => f.block k ?_ ?_ ?_), hT.below.trans (f.below hT.below.size hR hR)⟩
  · exact (hT.row.lt k hk).2
  · exact fun e => own_not hT.row hr (by decide) (by rw [hk, e])
  · exact fun e => own_not hT.row hr (by decide) (by rw [hk, e])
set_option maxHeartbeats 16000000 in
theorem time_x (p : PJ) (x : EM) (vr vl : Value) (t : ST) (now : Int) (w : World) (hE : EAt w x vr vl) (hn : x.rc.length ≤ 1000000) (hx : BdJ x) (h0 : 0 ≤ t.told) (h7 : t.told ≤ 7) :
    Calls Tryz.prog 12 #[.agg #[.int .i64 p.base, .int .i64 p.most, .int .i64 p.life, .int .i64 p.warn], .agg #[.int .i64 x.id, .int .i64 x.at_, .int .i64 x.rel, .string (mkS x.fr.1), .string (mkS x.fr.2), .bool x.m.hs, .bool x.m.hf, .bool x.m.hu, .bool x.m.hb, .bool x.m.hp, .int .i64 x.m.sz, .int .i64 x.m.fo, .int .i64 x.m.un, .int .i64 x.m.by_, .int .i64 x.m.pr, .string (mkS x.m.body), .string (mkS x.m.ret), .string (mkS x.m.env), .string (mkS x.m.mode), vr, vl], .agg #[.int .i64 t.pl, .string (mkS t.st), .int .i64 t.tr, .int .i64 t.ne, .int .i64 t.told], .int .i64 now] w (TyPost (timeT p x t now) (timeL p x t now) (mayJ p x t now) w) := by
  have HB := Lib.hid (ZB.new w p x vr vl t)
  have HM := Lib.hid (fun w' (h : Below w.heap.size w w') => may_x p x vr vl t now w' (hE.below h) hn)
  have HD := Lib.hid (And.intro hx (And.intro h0 h7))
  have HE := Lib.hid (fun w' (h : Below w.heap.size w w') => hE.below h)
  have HTT := Lib.hid (show timeT p x t now = if mayJ p x t now = 0 then passT p x (noJ x t) now t else zeroT from rfl)
  have HTL := Lib.hid (show timeL p x t now = if mayJ p x t now = 0 then passL p x (noJ x t) now t else [] from rfl)
  have HOK := Lib.hid (fun (h : mayJ p x t now = 0) => may_ok h)
  generalize timeT p x t now = T2 at HTT ⊢
  generalize timeL p x t now = L2 at HTL ⊢
  generalize mayJ p x t now = code at HM HTT HTL HOK ⊢
  clear hE hn hx h0 h7
  go_enter Tryz.func12, Tryz.ntmps12
  go_wp2_with (first | ((with_reducible refine jis_load (ty := 23) (x := .tmp 4) rfl ?_); refine jload ?_ 23 (.tmp 4) rfl (w.heap.size) 0 23 #[.int .i64 p.base, .int .i64 p.most, .int .i64 p.life, .int .i64 p.warn] #[.int .i64 p.base, .int .i64 p.most, .int .i64 p.life, .int .i64 p.warn] _ rfl HB.out.b.pb Tryz.underlying23 rfl jsize_plan (fun j _ => by rw [Nat.zero_add]) ?_; (focus (first | rfl | (go_simp; done)))) | ((with_reducible refine jis_load (ty := 33) (x := .tmp 5) rfl ?_); refine jload ?_ 33 (.tmp 5) rfl ((w.heap.size + 1)) 0 33 (EC x vr vl) (EC x vr vl) _ rfl HB.out.b.mb Tryz.underlying33 rfl size_msg (fun j _ => by rw [Nat.zero_add]) ?_; (focus (first | rfl | (go_simp; done)))) | ((with_reducible refine jis_load (ty := 41) (x := .tmp 6) rfl ?_); refine jload ?_ 41 (.tmp 6) rfl ((w.heap.size + 1 + 1)) 0 41 (TC t) #[.int .i64 (t).pl, .string (mkS (t).st), .int .i64 (t).tr, .int .i64 (t).ne, .int .i64 (t).told] _ rfl HB.out.b.tb Tryz.underlying41 rfl jsize_st (fun j _ => by rw [Nat.zero_add]; rfl) ?_; (focus (first | rfl | (go_simp; done)))))
  refine (HM.out _ HB.out.b.below).mono ?_
  rintro e w1 ⟨rfl, hb⟩
  have HB1 := Lib.hid (HB.out.next hb)
  clear hb HB HM
  by_cases hc : code = 0
  · subst hc
    have hok := HOK.out rfl
    have HBM := Lib.hid (newOf w1 (.cells #[jnil] 31))
    have HB2 := Lib.hid (HB1.out.next (below_box w1 (.cells #[jnil] 31)))
    have HGM := Lib.hid HB1.out.b.below.size
    have HTT2 := Lib.hid (show T2 = passT p x (noJ x t) now t by rw [HTT.out, if_pos rfl])
    have HTL2 := Lib.hid (show L2 = passL p x (noJ x t) now t by rw [HTL.out, if_pos rfl])
    have HOK2 := Lib.hid hok
    clear hok HTT HTL HOK
    go_wp2_with fail
    generalize w1.alloc (.cells #[jnil] 31) = w2 at HBM HB2 ⊢
    generalize w1.heap.size = bm at HBM HGM ⊢
    clear HB1
    have HRE := Lib.hid ((reporter_x x vr vl (w.heap.size + 1 + 1) bm t w2.drew (HE.out _ (HB2.out.b.below.trans ((Below.refl w2.heap.size w2).drew.mono HB2.out.b.below.size))) HB2.out.b.tb HOK2.out.2.2.2.1 HOK2.out.2.2.2.2).mono fun e w' (h : ∃ b1 b2 b3 b4, e = .returned (clA b1 b2 b3 b4) ∧ RP x vr vl (noJ x t) (w.heap.size + 1 + 1) bm b1 b2 b3 b4 w' ∧ Below w2.drew.heap.size w2.drew w') => show ∃ b1 b2 b3 b4, e = .returned (clA b1 b2 b3 b4) ∧ Hid (RP x vr vl (noJ x t) (w.heap.size + 1 + 1) bm b1 b2 b3 b4 w' ∧ Below w2.drew.heap.size w2.drew w') from by obtain ⟨b1, b2, b3, b4, h1, h2⟩ := h; exact ⟨b1, b2, b3, b4, h1, Lib.hid h2⟩)
    have HBD := Lib.hid (HB2.out.next (Below.refl w2.heap.size w2).drew)
    have HTB := Lib.hid (show TB w (w.heap.size + 1 + 1) bm t jnil [] w2.drew from ⟨HBD.out.b.tb, HBM.out, strs_nil _ _, by omega, HGM.out, HBD.out.b.below⟩)
    have HC0 := Lib.hid (show (loadVar 23 ⟨w.heap.size, 0, none⟩).run Tryz.prog w2.drew = .ok (plA p) w2.drew ∧ (loadVar 33 ⟨w.heap.size + 1, 0, none⟩).run Tryz.prog w2.drew = .ok (.agg (EC x vr vl)) w2.drew from ⟨jl_plan HBD.out.b.pb, jl_msg HBD.out.b.mb⟩)
    have HPA := Lib.hid (fun b1 b2 b3 b4 w3 (g : Hid (RP x vr vl (noJ x t) (w.heap.size + 1 + 1) bm b1 b2 b3 b4 w3 ∧ Below w2.drew.heap.size w2.drew w3)) => (pass_x w p x vr vl (noJ x t) (w.heap.size + 1 + 1) bm b1 b2 b3 b4 t now w3 HOK2.out.1 HD.out.1 (HTB.out.next g.out.2) g.out.1 HD.out.2.1 HD.out.2.2).mono fun e w' (h : PsPost w (w.heap.size + 1 + 1) bm (passT p x (noJ x t) now t) (passL p x (noJ x t) now t) w3 e w') => show e = .returned (.tuple #[]) ∧ Hid (∃ v', TB w (w.heap.size + 1 + 1) bm T2 v' L2 w' ∧ F2 (w.heap.size + 1 + 1) bm w2.drew w') from by
      rw [HTT2.out, HTL2.out]
      obtain ⟨h1, v', h2, h3⟩ := h
      exact ⟨h1, Lib.hid ⟨v', h2, (F2.of g.out.2).trans h3⟩⟩)
    have HK1 := Lib.hid (fun w3 (h : Below w2.drew.heap.size w2.drew w3) => show (loadVar 23 ⟨w.heap.size, 0, none⟩).run Tryz.prog w3 = .ok (plA p) w3 ∧ (loadVar 33 ⟨w.heap.size + 1, 0, none⟩).run Tryz.prog w3 = .ok (.agg (EC x vr vl)) w3 from ⟨jl_plan (HBD.out.next h).b.pb, jl_msg (HBD.out.next h).b.mb⟩)
    have HK2 := Lib.hid (fun w3 (h : F2 (w.heap.size + 1 + 1) bm w2.drew w3) => show (loadVar 23 ⟨w.heap.size, 0, none⟩).run Tryz.prog w3 = .ok (plA p) w3 ∧ (loadVar 33 ⟨w.heap.size + 1, 0, none⟩).run Tryz.prog w3 = .ok (.agg (EC x vr vl)) w3 from by
      obtain ⟨h1, h2, _⟩ := HBD.out.f2 (show w2.drew.heap[bm]? = _ from HBM.out) h
      exact ⟨jl_plan h1, jl_msg h2⟩)
    have HK3 := Lib.hid (fun w3 (h : F2 (w.heap.size + 1 + 1) bm w2.drew w3) => (HBD.out.f2 (show w2.drew.heap[bm]? = _ from HBM.out) h).2.2)
    unfold clA at HRE
    refine wp_region_held_drew (S := fun wr => (loadVar 23 ⟨w.heap.size, 0, none⟩).run Tryz.prog wr = .ok (plA p) wr ∧ (loadVar 33 ⟨w.heap.size + 1, 0, none⟩).run Tryz.prog wr = .ok (.agg (EC x vr vl)) wr) (by kernel_rfl) HC0.out (fun hH => ?_)
    refine wpAnyH_take (i := 0) (oi := { dst := some 22, op := Op.load 23 (Operand.tmp 4), type := 23, pos := "judge.go:125", after := #[], guard := none }) (v := plA p) rfl (by kernel_rfl) (by kernel_rfl) (by kernel_rfl) (fun _ _ _ h => h) (Or.inl ⟨by kernel_rfl, fun wz hz => jload_op _ ⟨rfl, rfl⟩ hz.1⟩) hH ?_
    try simp only [Act.put, List.setIfInBounds_toArray, List.set_cons_zero, List.set_cons_succ]
    refine wpAnyH_take (i := 1) (oi := { dst := some 23, op := Op.load 33 (Operand.tmp 5), type := 33, pos := "judge.go:125", after := #[], guard := none }) (v := .agg (EC x vr vl)) rfl (by kernel_rfl) (by kernel_rfl) (by kernel_rfl) (fun _ _ _ h => h) (Or.inl ⟨by kernel_rfl, fun wz hz => jload_op _ ⟨rfl, rfl⟩ hz.2⟩) hH ?_
    try simp only [Act.put, List.setIfInBounds_toArray, List.set_cons_zero, List.set_cons_succ]
    refine wpAnyH_take (i := 2) (oi := { dst := some 24, op := Op.move (Operand.tmp 3), type := 3, pos := "judge.go:125", after := #[], guard := none }) (v := .int .i64 now) rfl (by kernel_rfl) (by kernel_rfl) (by kernel_rfl) (fun _ _ _ h => h) (Or.inl ⟨by kernel_rfl, fun wz hz => by kernel_rfl⟩) hH ?_
    try simp only [Act.put, List.setIfInBounds_toArray, List.set_cons_zero, List.set_cons_succ]
    refine wpAnyH_take (i := 3) (oi := { dst := some 25, op := Op.load 33 (Operand.tmp 5), type := 33, pos := "judge.go:125", after := #[], guard := none }) (v := .agg (EC x vr vl)) rfl (by kernel_rfl) (by kernel_rfl) (by kernel_rfl) (fun _ _ _ h => h) (Or.inl ⟨by kernel_rfl, fun wz hz => jload_op _ ⟨rfl, rfl⟩ hz.2⟩) hH ?_
    try simp only [Act.put, List.setIfInBounds_toArray, List.set_cons_zero, List.set_cons_succ]
    refine wpAnyH_ready (rs := [4]) (by kernel_rfl) (by simp) ?_
    refine AllReadyH.cons (o := { dst := some 26, op := Op.call { callee := Callee.value (Operand.func 25), args := #[Operand.tmp 25, Operand.tmp 6, Operand.tmp 12], argTypes := #[33, 71, 72] }, type := 69, pos := "judge.go:125", after := #[{ on := 3, ground := Ground.data }], guard := none }) rfl (fun K hK => ?_) AllReadyH.nil
    go_simp
    go_at_call 25
    refine HRE.out.mono ?_
    rintro r w3 ⟨b1, b2, b3, b4, rfl, g⟩
    refine hK.out _ _ (HK1.out _ g.out.2) (fun hH0 => ?_)
    clear hK K
    try simp only [Act.put, List.setIfInBounds_toArray, List.set_cons_zero, List.set_cons_succ]
    refine wpAnyH_ready (rs := [5]) (by kernel_rfl) (by simp) ?_
    refine AllReadyH.cons (o := { dst := some 27, op := Op.call { callee := Callee.value (Operand.func 26), args := #[Operand.tmp 22, Operand.tmp 23, Operand.tmp 6, Operand.tmp 24, Operand.tmp 26], argTypes := #[23, 33, 71, 3, 69] }, type := 0, pos := "judge.go:125", after := #[{ on := 0, ground := Ground.data }, { on := 1, ground := Ground.data }, { on := 2, ground := Ground.data }, { on := 4, ground := Ground.data }, { on := 4, ground := Ground.chain }], guard := none }) rfl (fun K hK => ?_) AllReadyH.nil
    go_simp
    go_at_call 26
    refine (HPA.out b1 b2 b3 b4 w3 g).mono ?_
    rintro r w4 ⟨rfl, g4⟩
    obtain ⟨v4, hT4, hF4⟩ := g4.out
    refine hK.out _ _ (HK2.out _ hF4) (fun hH1 => ?_)
    clear hK K
    try simp only [Act.put, List.setIfInBounds_toArray, List.set_cons_zero, List.set_cons_succ]
    refine wpAnyH_done (by kernel_rfl) ?_ _
    have hr := HK3.out _ hF4
    obtain ⟨A4, k4, rfl⟩ := strs_slice hT4.row
    have t0 := cellOf hT4.t_ 0
    have t1 := cellOf hT4.t_ 1
    have t2 := cellOf hT4.t_ 2
    have t3 := cellOf hT4.t_ 3
    have t4 := cellOf hT4.t_ 4
    have m0 : w4.cell? ⟨bm, 0, none⟩ = some (.slice A4 L2.length k4) := cellOf hT4.m_ 0
    have r0 := cellOf hr 0
    have r1 := cellOf hr 1
    have r2 := cellOf hr 2
    have r3 := cellOf hr 3
    have r4 := cellOf hr 4
    have f0 := freeOf hr 0
    have f1 := freeOf hr 1
    have f2 := freeOf hr 2
    have f3 := freeOf hr 3
    have f4 := freeOf hr 4
    simp only [TC, zeroT, List.getElem?_toArray, List.getElem?_cons_succ, List.getElem?_cons_zero] at t0 t1 t2 t3 t4 r0 r1 r2 r3 r4
    have hne : bm ≠ w.heap.size + 1 + 1 + 1 := blk_ne hT4.m_ hr (by decide)
    have hne2 : w.heap.size + 1 + 1 + 1 ≠ bm := Ne.symm hne
    have HR := Lib.hid hr
    have HT4 := Lib.hid hT4
    have HANS := Lib.hid (ans_st T2 L2 (.slice A4 L2.length k4) 0 hr hT4)
    clear hr hT4 hF4 g4 g hH hH0 hH1 HRE HPA
    go_wp2_with fail
    go_region
    go_wp2_with fail
    refine bodyPost_ret (v := .tuple #[stA T2, .slice A4 L2.length k4, .int .i64 0]) (answer_t rfl rfl rfl rfl HANS.out.1) rfl HANS.out.2
  · have hcb : (code != 0) = true := by rw [bne_iff_ne]; exact hc
    have HC := Lib.hid hc
    clear hc
    go_wp2_with (first | (refine wpList_store_blk rfl 41 (.tmp 8) (.tmp 20) rfl (w.heap.size + 1 + 1 + 1) 0 41 (TC zeroT) (TC zeroT) (TC zeroT) rfl rfl HB1.out.r jsize_st (one_TC _) (Nat.le_of_eq rfl) (whole_TC _ _ rfl) ?_; intro w9 hB9 hA9))
    have h1 : T2 = zeroT := by rw [HTT.out, if_neg HC.out]
    have h2 : L2 = [] := by rw [HTL.out, if_neg HC.out]
    refine bodyPost_ret (v := .tuple #[stA zeroT, jnil, .int .i64 code]) (answer_t rfl rfl rfl rfl hB9) rfl ?_
    rw [h1, h2]
    exact ⟨_, rfl, strs_nil _ _, HB1.out.b.below.trans (hA9.below HB1.out.b.below.size (by omega))⟩
end Go.Proofs.YtcedhgihebollaaGreatDoor.E.J
