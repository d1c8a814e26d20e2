/-
  The walk of Try.
-/
import Derived.Test.YtcedhgihebollaaGreatDoorJgTime
namespace Go.Proofs.YtcedhgihebollaaGreatDoor.E.J
set_option maxRecDepth 100000
open Go.RowKit Go.Shelf
set_option maxHeartbeats 16000000 in
theorem try_bad (p : PJ) (x : EM) (vr vl : Value) (t : ST) (now o : Int) (w : World) (hE : EAt w x vr vl) (hn : x.rc.length ≤ 1000000) (hx : BdJ x) (h0 : 0 ≤ t.told) (h7 : t.told ≤ 7) (hmay : mayJ p x t now ≠ 0) :
    Calls Tryz.prog 11 #[.agg #[.int .i64 p.base, .int .i64 p.most, .int .i64 p.life, .int .i64 p.warn], .agg #[.int .i64 x.id, .int .i64 x.at_, .int .i64 x.rel, .string (mkS x.fr.1), .string (mkS x.fr.2), .bool x.m.hs, .bool x.m.hf, .bool x.m.hu, .bool x.m.hb, .bool x.m.hp, .int .i64 x.m.sz, .int .i64 x.m.fo, .int .i64 x.m.un, .int .i64 x.m.by_, .int .i64 x.m.pr, .string (mkS x.m.body), .string (mkS x.m.ret), .string (mkS x.m.env), .string (mkS x.m.mode), vr, vl], .agg #[.int .i64 t.pl, .string (mkS t.st), .int .i64 t.tr, .int .i64 t.ne, .int .i64 t.told], .int .i64 now, .int .i64 o] w (TyPost zeroT [] (mayJ p x t now) w) := by
  have HB := Lib.hid (ZB.new w p x vr vl t)
  have HM := Lib.hid (fun w' (h : Below w.heap.size w w') => may_x p x vr vl t now w' (hE.below h) hn)
  have HD := Lib.hid (And.intro hx (And.intro h0 h7))
  have HE := Lib.hid (fun w' (h : Below w.heap.size w w') => hE.below h)
  have HCODE := Lib.hid (show mayJ p x t now ≠ 0 from hmay)
  generalize mayJ p x t now = code at *
  clear hE hn hx h0 h7 hmay
  go_enter Tryz.func11, Tryz.ntmps11
  go_wp2_with (first | ((with_reducible refine jis_load (ty := 23) (x := .tmp 5) rfl ?_); refine jload ?_ 23 (.tmp 5) rfl (w.heap.size) 0 23 #[.int .i64 p.base, .int .i64 p.most, .int .i64 p.life, .int .i64 p.warn] #[.int .i64 p.base, .int .i64 p.most, .int .i64 p.life, .int .i64 p.warn] _ rfl HB.out.b.pb Tryz.underlying23 rfl jsize_plan (fun j _ => by rw [Nat.zero_add]) ?_; (focus (first | rfl | (go_simp; done)))) | ((with_reducible refine jis_load (ty := 33) (x := .tmp 6) rfl ?_); refine jload ?_ 33 (.tmp 6) rfl ((w.heap.size + 1)) 0 33 (EC x vr vl) (EC x vr vl) _ rfl HB.out.b.mb Tryz.underlying33 rfl size_msg (fun j _ => by rw [Nat.zero_add]) ?_; (focus (first | rfl | (go_simp; done)))) | ((with_reducible refine jis_load (ty := 41) (x := .tmp 7) rfl ?_); refine jload ?_ 41 (.tmp 7) rfl ((w.heap.size + 1 + 1)) 0 41 (TC t) #[.int .i64 (t).pl, .string (mkS (t).st), .int .i64 (t).tr, .int .i64 (t).ne, .int .i64 (t).told] _ rfl HB.out.b.tb Tryz.underlying41 rfl jsize_st (fun j _ => by rw [Nat.zero_add]; rfl) ?_; (focus (first | rfl | (go_simp; done)))))
  refine (HM.out _ HB.out.b.below).mono ?_
  rintro e w1 ⟨rfl, hb⟩
  have HB1 := Lib.hid (HB.out.next hb)
  clear hb HB HM
  have hcb : (code != 0) = true := by rw [bne_iff_ne]; exact HCODE.out
  go_wp2_with (first | (refine wpList_store_blk rfl 41 (.tmp 10) (.tmp 23) rfl (w.heap.size + 1 + 1 + 1) 0 41 (TC zeroT) (TC zeroT) (TC zeroT) rfl rfl HB1.out.r jsize_st (one_TC _) (Nat.le_of_eq rfl) (whole_TC _ _ rfl) ?_; intro w9 hB9 hA9))
  refine bodyPost_ret (v := .tuple #[stA zeroT, jnil, .int .i64 code]) (answer_t rfl rfl rfl rfl hB9) rfl ?_
  exact ⟨_, rfl, strs_nil _ _, HB1.out.b.below.trans (hA9.below HB1.out.b.below.size (by omega))⟩
set_option maxHeartbeats 16000000 in
theorem try_2 (p : PJ) (x : EM) (vr vl : Value) (t : ST) (now o : Int) (w : World) (hE : EAt w x vr vl) (hn : x.rc.length ≤ 1000000) (hx : BdJ x) (h0 : 0 ≤ t.told) (h7 : t.told ≤ 7) (htr : 0 ≤ t.tr) (hmay : mayJ p x t now = 0) (ho : o = 2) (T2 : ST) (L2 : List Txt) (hT2 : T2 = repT x (noJ x t) kS false (endT t [68])) (hL2 : L2 = repL x (noJ x t) kS false (endT t [68])) :
    Calls Tryz.prog 11 #[.agg #[.int .i64 p.base, .int .i64 p.most, .int .i64 p.life, .int .i64 p.warn], .agg #[.int .i64 x.id, .int .i64 x.at_, .int .i64 x.rel, .string (mkS x.fr.1), .string (mkS x.fr.2), .bool x.m.hs, .bool x.m.hf, .bool x.m.hu, .bool x.m.hb, .bool x.m.hp, .int .i64 x.m.sz, .int .i64 x.m.fo, .int .i64 x.m.un, .int .i64 x.m.by_, .int .i64 x.m.pr, .string (mkS x.m.body), .string (mkS x.m.ret), .string (mkS x.m.env), .string (mkS x.m.mode), vr, vl], .agg #[.int .i64 t.pl, .string (mkS t.st), .int .i64 t.tr, .int .i64 t.ne, .int .i64 t.told], .int .i64 now, .int .i64 o] w (TyPost T2 L2 0 w) := by
  have HB := Lib.hid (ZB.new w p x vr vl t)
  have HM := Lib.hid (fun w' (h : Below w.heap.size w w') => may_x p x vr vl t now w' (hE.below h) hn)
  have HD := Lib.hid (And.intro hx (And.intro h0 h7))
  have HE := Lib.hid (fun w' (h : Below w.heap.size w w') => hE.below h)
  subst ho
  have HH2 := Lib.hid (And.intro hT2 hL2)
  clear hT2 hL2
  have HOK2 := Lib.hid (may_ok hmay)
  have q1 : IntKind.i64.wrap (min t.tr 999 + 1) = min t.tr 999 + 1 := IntWalk.i64_in _ (by omega)
  have HTR := Lib.hid htr
  rw [hmay] at HM
  clear hE hn hx h0 h7 htr hmay
  go_enter Tryz.func11, Tryz.ntmps11
  go_wp2_with (first | ((with_reducible refine jis_load (ty := 23) (x := .tmp 5) rfl ?_); refine jload ?_ 23 (.tmp 5) rfl (w.heap.size) 0 23 #[.int .i64 p.base, .int .i64 p.most, .int .i64 p.life, .int .i64 p.warn] #[.int .i64 p.base, .int .i64 p.most, .int .i64 p.life, .int .i64 p.warn] _ rfl HB.out.b.pb Tryz.underlying23 rfl jsize_plan (fun j _ => by rw [Nat.zero_add]) ?_; (focus (first | rfl | (go_simp; done)))) | ((with_reducible refine jis_load (ty := 33) (x := .tmp 6) rfl ?_); refine jload ?_ 33 (.tmp 6) rfl ((w.heap.size + 1)) 0 33 (EC x vr vl) (EC x vr vl) _ rfl HB.out.b.mb Tryz.underlying33 rfl size_msg (fun j _ => by rw [Nat.zero_add]) ?_; (focus (first | rfl | (go_simp; done)))) | ((with_reducible refine jis_load (ty := 41) (x := .tmp 7) rfl ?_); refine jload ?_ 41 (.tmp 7) rfl ((w.heap.size + 1 + 1)) 0 41 (TC t) #[.int .i64 (t).pl, .string (mkS (t).st), .int .i64 (t).tr, .int .i64 (t).ne, .int .i64 (t).told] _ rfl HB.out.b.tb Tryz.underlying41 rfl jsize_st (fun j _ => by rw [Nat.zero_add]; rfl) ?_; (focus (first | rfl | (go_simp; done)))))
  refine (HM.out _ HB.out.b.below).mono ?_
  rintro e w1 ⟨rfl, hb⟩
  have HB1 := Lib.hid (HB.out.next hb)
  clear hb HB HM
  have HBM := Lib.hid (newOf w1 (.cells #[jnil] 31))
  have HB2 := Lib.hid (HB1.out.next (below_box w1 (.cells #[jnil] 31)))
  have HGM := Lib.hid HB1.out.b.below.size
  go_wp2_with (first | ((with_reducible refine jis_load (ty := 33) (x := .tmp 6) rfl ?_); refine jload ?_ 33 (.tmp 6) rfl ((w.heap.size + 1)) 0 33 (EC x vr vl) (EC x vr vl) _ rfl HB2.out.b.mb Tryz.underlying33 rfl size_msg (fun j _ => by rw [Nat.zero_add]) ?_; (focus (first | rfl | (go_simp; done)))))
  generalize w1.alloc (.cells #[jnil] 31) = w2 at HBM HB2 ⊢
  generalize w1.heap.size = bm at HBM HGM ⊢
  clear HB1
  refine (reporter_x x vr vl (w.heap.size + 1 + 1) bm t w2 (HE.out _ HB2.out.b.below) HB2.out.b.tb HOK2.out.2.2.2.1 HOK2.out.2.2.2.2).mono ?_
  rintro e w3 ⟨b1, b2, b3, b4, rfl, hRP, hb3⟩
  have HB3 := Lib.hid (HB2.out.next hb3)
  have HBM3 := Lib.hid ((hb3.block _ (ltOf HBM.out)).trans HBM.out)
  have HTB3 := Lib.hid (show TB w (w.heap.size + 1 + 1) bm t jnil [] w3 from ⟨HB3.out.b.tb, HBM3.out, strs_nil _ _, by omega, HGM.out, HB3.out.b.below⟩)
  have HRP3 := Lib.hid hRP
  have c2 : w3.cell? ⟨w.heap.size + 1 + 1, 2, none⟩ = some (.int .i64 t.tr) := cellOf HB3.out.b.tb 2
  have f2 := freeOf HB3.out.b.tb 2
  have e4 : (TC t).setIfInBounds 2 (.int .i64 (min t.tr 999 + 1)) = TC (tr1 t) := rfl
  have HTB4 := Lib.hid (HTB3.out.set 2 (.int .i64 (min t.tr 999 + 1)) e4)
  have HF4 := Lib.hid (F2.set1 (w.heap.size + 1 + 1) bm w3 2 (.int .i64 (min t.tr 999 + 1)))
  have HRP4 := Lib.hid (HRP3.out.f2 HTB3.out.t_ HTB3.out.m_ HF4.out)
  have HKEEP := Lib.hid (fun w5 (h : F2 (w.heap.size + 1 + 1) bm w3 w5) => HB3.out.f2 HBM3.out h)
  clear hRP hb3 e4 HB2 HBM HTB3 HRP3
  have f1 : (w3.setCell ⟨w.heap.size + 1 + 1, 2, none⟩ (.int .i64 (min t.tr 999 + 1))).frozen? ⟨w.heap.size + 1 + 1, 1, none⟩ = false := freeOf HTB4.out.t_ 1
  have c1 : (w3.setCell ⟨w.heap.size + 1 + 1, 2, none⟩ (.int .i64 (min t.tr 999 + 1))).cell? ⟨w.heap.size + 1 + 1, 1, none⟩ = some (.string (mkS t.st)) := cellOf HTB4.out.t_ 1
  have e5 : (TC (tr1 t)).setIfInBounds 1 (.string { data := #[68] }) = TC (endT t [68]) := rfl
  have HTB5 := Lib.hid (HTB4.out.set 1 (.string { data := #[68] }) e5)
  have HF5 := Lib.hid (F2.set1 (w.heap.size + 1 + 1) bm (w3.setCell ⟨w.heap.size + 1 + 1, 2, none⟩ (.int .i64 (min t.tr 999 + 1))) 1 (.string { data := #[68] }))
  have HRP5 := Lib.hid (HRP4.out.f2 HTB4.out.t_ HTB4.out.m_ HF5.out)
  have HGO := Lib.hid (report_x w x vr vl (noJ x t) (w.heap.size + 1 + 1) bm b1 b2 b3 b4 (endT t [68]) kS false { data := #[100, 101, 108, 105, 118, 101, 114, 101, 100] } _ (.inr (.inr (.inl rfl))) rfl HTB5.out HRP5.out HD.out.2.1 HD.out.2.2)
  clear e5 HTB4 HRP4 HTB5 HRP5
  go_wp2_with fail
  refine HGO.out.mono ?_
  rintro e w5 ⟨rfl, v5, hT5, hF5x⟩
  have hF5 := HF4.out.trans (HF5.out.trans hF5x)
  clear hF5x HGO HF4 HF5 c1 f1
  rw [← HH2.out.1, ← HH2.out.2] at hT5
  obtain ⟨A5, k5, rfl⟩ := strs_slice hT5.row
  have hr := (HKEEP.out _ hF5).2.2
  have t0 := cellOf hT5.t_ 0
  have t1 := cellOf hT5.t_ 1
  have t2 := cellOf hT5.t_ 2
  have t3 := cellOf hT5.t_ 3
  have t4 := cellOf hT5.t_ 4
  have m0 : w5.cell? ⟨bm, 0, none⟩ = some (.slice A5 L2.length k5) := cellOf hT5.m_ 0
  have r0 := cellOf hr 0
  have r1 := cellOf hr 1
  have r2 := cellOf hr 2
  have r3 := cellOf hr 3
  have r4 := cellOf hr 4
  have g0 := freeOf hr 0
  have g1 := freeOf hr 1
  have g2 := freeOf hr 2
  have g3 := freeOf hr 3
  have g4 := freeOf hr 4
  simp only [TC, zeroT, List.getElem?_toArray, List.getElem?_cons_succ, List.getElem?_cons_zero] at t0 t1 t2 t3 t4 r0 r1 r2 r3 r4
  have hne : bm ≠ w.heap.size + 1 + 1 + 1 := blk_ne hT5.m_ hr (by decide)
  have hne2 : w.heap.size + 1 + 1 + 1 ≠ bm := Ne.symm hne
  have HANS := Lib.hid (ans_st T2 L2 (.slice A5 L2.length k5) 0 hr hT5)
  clear hr hT5 hF5 c2 f2
  go_wp2_with fail
  go_region
  go_wp2_with fail
  refine bodyPost_ret (v := .tuple #[stA T2, .slice A5 L2.length k5, .int .i64 0]) (answer_t rfl rfl rfl rfl HANS.out.1) rfl HANS.out.2
set_option maxHeartbeats 16000000 in
theorem try_3 (p : PJ) (x : EM) (vr vl : Value) (t : ST) (now o : Int) (w : World) (hE : EAt w x vr vl) (hn : x.rc.length ≤ 1000000) (hx : BdJ x) (h0 : 0 ≤ t.told) (h7 : t.told ≤ 7) (htr : 0 ≤ t.tr) (hmay : mayJ p x t now = 0) (ho : o = 3) (T2 : ST) (L2 : List Txt) (hT2 : T2 = repT x (noJ x t) kG false (endT t [71])) (hL2 : L2 = repL x (noJ x t) kG false (endT t [71])) :
    Calls Tryz.prog 11 #[.agg #[.int .i64 p.base, .int .i64 p.most, .int .i64 p.life, .int .i64 p.warn], .agg #[.int .i64 x.id, .int .i64 x.at_, .int .i64 x.rel, .string (mkS x.fr.1), .string (mkS x.fr.2), .bool x.m.hs, .bool x.m.hf, .bool x.m.hu, .bool x.m.hb, .bool x.m.hp, .int .i64 x.m.sz, .int .i64 x.m.fo, .int .i64 x.m.un, .int .i64 x.m.by_, .int .i64 x.m.pr, .string (mkS x.m.body), .string (mkS x.m.ret), .string (mkS x.m.env), .string (mkS x.m.mode), vr, vl], .agg #[.int .i64 t.pl, .string (mkS t.st), .int .i64 t.tr, .int .i64 t.ne, .int .i64 t.told], .int .i64 now, .int .i64 o] w (TyPost T2 L2 0 w) := by
  have HB := Lib.hid (ZB.new w p x vr vl t)
  have HM := Lib.hid (fun w' (h : Below w.heap.size w w') => may_x p x vr vl t now w' (hE.below h) hn)
  have HD := Lib.hid (And.intro hx (And.intro h0 h7))
  have HE := Lib.hid (fun w' (h : Below w.heap.size w w') => hE.below h)
  subst ho
  have HH2 := Lib.hid (And.intro hT2 hL2)
  clear hT2 hL2
  have HOK2 := Lib.hid (may_ok hmay)
  have q1 : IntKind.i64.wrap (min t.tr 999 + 1) = min t.tr 999 + 1 := IntWalk.i64_in _ (by omega)
  have HTR := Lib.hid htr
  rw [hmay] at HM
  clear hE hn hx h0 h7 htr hmay
  go_enter Tryz.func11, Tryz.ntmps11
  go_wp2_with (first | ((with_reducible refine jis_load (ty := 23) (x := .tmp 5) rfl ?_); refine jload ?_ 23 (.tmp 5) rfl (w.heap.size) 0 23 #[.int .i64 p.base, .int .i64 p.most, .int .i64 p.life, .int .i64 p.warn] #[.int .i64 p.base, .int .i64 p.most, .int .i64 p.life, .int .i64 p.warn] _ rfl HB.out.b.pb Tryz.underlying23 rfl jsize_plan (fun j _ => by rw [Nat.zero_add]) ?_; (focus (first | rfl | (go_simp; done)))) | ((with_reducible refine jis_load (ty := 33) (x := .tmp 6) rfl ?_); refine jload ?_ 33 (.tmp 6) rfl ((w.heap.size + 1)) 0 33 (EC x vr vl) (EC x vr vl) _ rfl HB.out.b.mb Tryz.underlying33 rfl size_msg (fun j _ => by rw [Nat.zero_add]) ?_; (focus (first | rfl | (go_simp; done)))) | ((with_reducible refine jis_load (ty := 41) (x := .tmp 7) rfl ?_); refine jload ?_ 41 (.tmp 7) rfl ((w.heap.size + 1 + 1)) 0 41 (TC t) #[.int .i64 (t).pl, .string (mkS (t).st), .int .i64 (t).tr, .int .i64 (t).ne, .int .i64 (t).told] _ rfl HB.out.b.tb Tryz.underlying41 rfl jsize_st (fun j _ => by rw [Nat.zero_add]; rfl) ?_; (focus (first | rfl | (go_simp; done)))))
  refine (HM.out _ HB.out.b.below).mono ?_
  rintro e w1 ⟨rfl, hb⟩
  have HB1 := Lib.hid (HB.out.next hb)
  clear hb HB HM
  have HBM := Lib.hid (newOf w1 (.cells #[jnil] 31))
  have HB2 := Lib.hid (HB1.out.next (below_box w1 (.cells #[jnil] 31)))
  have HGM := Lib.hid HB1.out.b.below.size
  go_wp2_with (first | ((with_reducible refine jis_load (ty := 33) (x := .tmp 6) rfl ?_); refine jload ?_ 33 (.tmp 6) rfl ((w.heap.size + 1)) 0 33 (EC x vr vl) (EC x vr vl) _ rfl HB2.out.b.mb Tryz.underlying33 rfl size_msg (fun j _ => by rw [Nat.zero_add]) ?_; (focus (first | rfl | (go_simp; done)))))
  generalize w1.alloc (.cells #[jnil] 31) = w2 at HBM HB2 ⊢
  generalize w1.heap.size = bm at HBM HGM ⊢
  clear HB1
  refine (reporter_x x vr vl (w.heap.size + 1 + 1) bm t w2 (HE.out _ HB2.out.b.below) HB2.out.b.tb HOK2.out.2.2.2.1 HOK2.out.2.2.2.2).mono ?_
  rintro e w3 ⟨b1, b2, b3, b4, rfl, hRP, hb3⟩
  have HB3 := Lib.hid (HB2.out.next hb3)
  have HBM3 := Lib.hid ((hb3.block _ (ltOf HBM.out)).trans HBM.out)
  have HTB3 := Lib.hid (show TB w (w.heap.size + 1 + 1) bm t jnil [] w3 from ⟨HB3.out.b.tb, HBM3.out, strs_nil _ _, by omega, HGM.out, HB3.out.b.below⟩)
  have HRP3 := Lib.hid hRP
  have c2 : w3.cell? ⟨w.heap.size + 1 + 1, 2, none⟩ = some (.int .i64 t.tr) := cellOf HB3.out.b.tb 2
  have f2 := freeOf HB3.out.b.tb 2
  have e4 : (TC t).setIfInBounds 2 (.int .i64 (min t.tr 999 + 1)) = TC (tr1 t) := rfl
  have HTB4 := Lib.hid (HTB3.out.set 2 (.int .i64 (min t.tr 999 + 1)) e4)
  have HF4 := Lib.hid (F2.set1 (w.heap.size + 1 + 1) bm w3 2 (.int .i64 (min t.tr 999 + 1)))
  have HRP4 := Lib.hid (HRP3.out.f2 HTB3.out.t_ HTB3.out.m_ HF4.out)
  have HKEEP := Lib.hid (fun w5 (h : F2 (w.heap.size + 1 + 1) bm w3 w5) => HB3.out.f2 HBM3.out h)
  clear hRP hb3 e4 HB2 HBM HTB3 HRP3
  have f1 : (w3.setCell ⟨w.heap.size + 1 + 1, 2, none⟩ (.int .i64 (min t.tr 999 + 1))).frozen? ⟨w.heap.size + 1 + 1, 1, none⟩ = false := freeOf HTB4.out.t_ 1
  have c1 : (w3.setCell ⟨w.heap.size + 1 + 1, 2, none⟩ (.int .i64 (min t.tr 999 + 1))).cell? ⟨w.heap.size + 1 + 1, 1, none⟩ = some (.string (mkS t.st)) := cellOf HTB4.out.t_ 1
  have e5 : (TC (tr1 t)).setIfInBounds 1 (.string { data := #[71] }) = TC (endT t [71]) := rfl
  have HTB5 := Lib.hid (HTB4.out.set 1 (.string { data := #[71] }) e5)
  have HF5 := Lib.hid (F2.set1 (w.heap.size + 1 + 1) bm (w3.setCell ⟨w.heap.size + 1 + 1, 2, none⟩ (.int .i64 (min t.tr 999 + 1))) 1 (.string { data := #[71] }))
  have HRP5 := Lib.hid (HRP4.out.f2 HTB4.out.t_ HTB4.out.m_ HF5.out)
  have HGO := Lib.hid (report_x w x vr vl (noJ x t) (w.heap.size + 1 + 1) bm b1 b2 b3 b4 (endT t [71]) kG false { data := #[114, 101, 108, 97, 121, 101, 100] } _ (.inr (.inr (.inr rfl))) rfl HTB5.out HRP5.out HD.out.2.1 HD.out.2.2)
  clear e5 HTB4 HRP4 HTB5 HRP5
  go_wp2_with fail
  refine HGO.out.mono ?_
  rintro e w5 ⟨rfl, v5, hT5, hF5x⟩
  have hF5 := HF4.out.trans (HF5.out.trans hF5x)
  clear hF5x HGO HF4 HF5 c1 f1
  rw [← HH2.out.1, ← HH2.out.2] at hT5
  obtain ⟨A5, k5, rfl⟩ := strs_slice hT5.row
  have hr := (HKEEP.out _ hF5).2.2
  have t0 := cellOf hT5.t_ 0
  have t1 := cellOf hT5.t_ 1
  have t2 := cellOf hT5.t_ 2
  have t3 := cellOf hT5.t_ 3
  have t4 := cellOf hT5.t_ 4
  have m0 : w5.cell? ⟨bm, 0, none⟩ = some (.slice A5 L2.length k5) := cellOf hT5.m_ 0
  have r0 := cellOf hr 0
  have r1 := cellOf hr 1
  have r2 := cellOf hr 2
  have r3 := cellOf hr 3
  have r4 := cellOf hr 4
  have g0 := freeOf hr 0
  have g1 := freeOf hr 1
  have g2 := freeOf hr 2
  have g3 := freeOf hr 3
  have g4 := freeOf hr 4
  simp only [TC, zeroT, List.getElem?_toArray, List.getElem?_cons_succ, List.getElem?_cons_zero] at t0 t1 t2 t3 t4 r0 r1 r2 r3 r4
  have hne : bm ≠ w.heap.size + 1 + 1 + 1 := blk_ne hT5.m_ hr (by decide)
  have hne2 : w.heap.size + 1 + 1 + 1 ≠ bm := Ne.symm hne
  have HANS := Lib.hid (ans_st T2 L2 (.slice A5 L2.length k5) 0 hr hT5)
  clear hr hT5 hF5 c2 f2
  go_wp2_with fail
  go_region
  go_wp2_with fail
  refine bodyPost_ret (v := .tuple #[stA T2, .slice A5 L2.length k5, .int .i64 0]) (answer_t rfl rfl rfl rfl HANS.out.1) rfl HANS.out.2
set_option maxHeartbeats 16000000 in
theorem try_5 (p : PJ) (x : EM) (vr vl : Value) (t : ST) (now o : Int) (w : World) (hE : EAt w x vr vl) (hn : x.rc.length ≤ 1000000) (hx : BdJ x) (h0 : 0 ≤ t.told) (h7 : t.told ≤ 7) (htr : 0 ≤ t.tr) (hmay : mayJ p x t now = 0) (ho : o = 5) (T2 : ST) (L2 : List Txt) (hT2 : T2 = repT x (noJ x t) kF false (endT t [70])) (hL2 : L2 = repL x (noJ x t) kF false (endT t [70])) :
    Calls Tryz.prog 11 #[.agg #[.int .i64 p.base, .int .i64 p.most, .int .i64 p.life, .int .i64 p.warn], .agg #[.int .i64 x.id, .int .i64 x.at_, .int .i64 x.rel, .string (mkS x.fr.1), .string (mkS x.fr.2), .bool x.m.hs, .bool x.m.hf, .bool x.m.hu, .bool x.m.hb, .bool x.m.hp, .int .i64 x.m.sz, .int .i64 x.m.fo, .int .i64 x.m.un, .int .i64 x.m.by_, .int .i64 x.m.pr, .string (mkS x.m.body), .string (mkS x.m.ret), .string (mkS x.m.env), .string (mkS x.m.mode), vr, vl], .agg #[.int .i64 t.pl, .string (mkS t.st), .int .i64 t.tr, .int .i64 t.ne, .int .i64 t.told], .int .i64 now, .int .i64 o] w (TyPost T2 L2 0 w) := by
  have HB := Lib.hid (ZB.new w p x vr vl t)
  have HM := Lib.hid (fun w' (h : Below w.heap.size w w') => may_x p x vr vl t now w' (hE.below h) hn)
  have HD := Lib.hid (And.intro hx (And.intro h0 h7))
  have HE := Lib.hid (fun w' (h : Below w.heap.size w w') => hE.below h)
  subst ho
  have HH2 := Lib.hid (And.intro hT2 hL2)
  clear hT2 hL2
  have HOK2 := Lib.hid (may_ok hmay)
  have q1 : IntKind.i64.wrap (min t.tr 999 + 1) = min t.tr 999 + 1 := IntWalk.i64_in _ (by omega)
  have HTR := Lib.hid htr
  rw [hmay] at HM
  clear hE hn hx h0 h7 htr hmay
  go_enter Tryz.func11, Tryz.ntmps11
  go_wp2_with (first | ((with_reducible refine jis_load (ty := 23) (x := .tmp 5) rfl ?_); refine jload ?_ 23 (.tmp 5) rfl (w.heap.size) 0 23 #[.int .i64 p.base, .int .i64 p.most, .int .i64 p.life, .int .i64 p.warn] #[.int .i64 p.base, .int .i64 p.most, .int .i64 p.life, .int .i64 p.warn] _ rfl HB.out.b.pb Tryz.underlying23 rfl jsize_plan (fun j _ => by rw [Nat.zero_add]) ?_; (focus (first | rfl | (go_simp; done)))) | ((with_reducible refine jis_load (ty := 33) (x := .tmp 6) rfl ?_); refine jload ?_ 33 (.tmp 6) rfl ((w.heap.size + 1)) 0 33 (EC x vr vl) (EC x vr vl) _ rfl HB.out.b.mb Tryz.underlying33 rfl size_msg (fun j _ => by rw [Nat.zero_add]) ?_; (focus (first | rfl | (go_simp; done)))) | ((with_reducible refine jis_load (ty := 41) (x := .tmp 7) rfl ?_); refine jload ?_ 41 (.tmp 7) rfl ((w.heap.size + 1 + 1)) 0 41 (TC t) #[.int .i64 (t).pl, .string (mkS (t).st), .int .i64 (t).tr, .int .i64 (t).ne, .int .i64 (t).told] _ rfl HB.out.b.tb Tryz.underlying41 rfl jsize_st (fun j _ => by rw [Nat.zero_add]; rfl) ?_; (focus (first | rfl | (go_simp; done)))))
  refine (HM.out _ HB.out.b.below).mono ?_
  rintro e w1 ⟨rfl, hb⟩
  have HB1 := Lib.hid (HB.out.next hb)
  clear hb HB HM
  have HBM := Lib.hid (newOf w1 (.cells #[jnil] 31))
  have HB2 := Lib.hid (HB1.out.next (below_box w1 (.cells #[jnil] 31)))
  have HGM := Lib.hid HB1.out.b.below.size
  go_wp2_with (first | ((with_reducible refine jis_load (ty := 33) (x := .tmp 6) rfl ?_); refine jload ?_ 33 (.tmp 6) rfl ((w.heap.size + 1)) 0 33 (EC x vr vl) (EC x vr vl) _ rfl HB2.out.b.mb Tryz.underlying33 rfl size_msg (fun j _ => by rw [Nat.zero_add]) ?_; (focus (first | rfl | (go_simp; done)))))
  generalize w1.alloc (.cells #[jnil] 31) = w2 at HBM HB2 ⊢
  generalize w1.heap.size = bm at HBM HGM ⊢
  clear HB1
  refine (reporter_x x vr vl (w.heap.size + 1 + 1) bm t w2 (HE.out _ HB2.out.b.below) HB2.out.b.tb HOK2.out.2.2.2.1 HOK2.out.2.2.2.2).mono ?_
  rintro e w3 ⟨b1, b2, b3, b4, rfl, hRP, hb3⟩
  have HB3 := Lib.hid (HB2.out.next hb3)
  have HBM3 := Lib.hid ((hb3.block _ (ltOf HBM.out)).trans HBM.out)
  have HTB3 := Lib.hid (show TB w (w.heap.size + 1 + 1) bm t jnil [] w3 from ⟨HB3.out.b.tb, HBM3.out, strs_nil _ _, by omega, HGM.out, HB3.out.b.below⟩)
  have HRP3 := Lib.hid hRP
  have c2 : w3.cell? ⟨w.heap.size + 1 + 1, 2, none⟩ = some (.int .i64 t.tr) := cellOf HB3.out.b.tb 2
  have f2 := freeOf HB3.out.b.tb 2
  have e4 : (TC t).setIfInBounds 2 (.int .i64 (min t.tr 999 + 1)) = TC (tr1 t) := rfl
  have HTB4 := Lib.hid (HTB3.out.set 2 (.int .i64 (min t.tr 999 + 1)) e4)
  have HF4 := Lib.hid (F2.set1 (w.heap.size + 1 + 1) bm w3 2 (.int .i64 (min t.tr 999 + 1)))
  have HRP4 := Lib.hid (HRP3.out.f2 HTB3.out.t_ HTB3.out.m_ HF4.out)
  have HKEEP := Lib.hid (fun w5 (h : F2 (w.heap.size + 1 + 1) bm w3 w5) => HB3.out.f2 HBM3.out h)
  clear hRP hb3 e4 HB2 HBM HTB3 HRP3
  have f1 : (w3.setCell ⟨w.heap.size + 1 + 1, 2, none⟩ (.int .i64 (min t.tr 999 + 1))).frozen? ⟨w.heap.size + 1 + 1, 1, none⟩ = false := freeOf HTB4.out.t_ 1
  have c1 : (w3.setCell ⟨w.heap.size + 1 + 1, 2, none⟩ (.int .i64 (min t.tr 999 + 1))).cell? ⟨w.heap.size + 1 + 1, 1, none⟩ = some (.string (mkS t.st)) := cellOf HTB4.out.t_ 1
  have e5 : (TC (tr1 t)).setIfInBounds 1 (.string { data := #[70] }) = TC (endT t [70]) := rfl
  have HTB5 := Lib.hid (HTB4.out.set 1 (.string { data := #[70] }) e5)
  have HF5 := Lib.hid (F2.set1 (w.heap.size + 1 + 1) bm (w3.setCell ⟨w.heap.size + 1 + 1, 2, none⟩ (.int .i64 (min t.tr 999 + 1))) 1 (.string { data := #[70] }))
  have HRP5 := Lib.hid (HRP4.out.f2 HTB4.out.t_ HTB4.out.m_ HF5.out)
  have HGO := Lib.hid (report_x w x vr vl (noJ x t) (w.heap.size + 1 + 1) bm b1 b2 b3 b4 (endT t [70]) kF false { data := #[102, 97, 105, 108, 101, 100] } _ (.inr (.inl rfl)) rfl HTB5.out HRP5.out HD.out.2.1 HD.out.2.2)
  clear e5 HTB4 HRP4 HTB5 HRP5
  go_wp2_with fail
  refine HGO.out.mono ?_
  rintro e w5 ⟨rfl, v5, hT5, hF5x⟩
  have hF5 := HF4.out.trans (HF5.out.trans hF5x)
  clear hF5x HGO HF4 HF5 c1 f1
  rw [← HH2.out.1, ← HH2.out.2] at hT5
  obtain ⟨A5, k5, rfl⟩ := strs_slice hT5.row
  have hr := (HKEEP.out _ hF5).2.2
  have t0 := cellOf hT5.t_ 0
  have t1 := cellOf hT5.t_ 1
  have t2 := cellOf hT5.t_ 2
  have t3 := cellOf hT5.t_ 3
  have t4 := cellOf hT5.t_ 4
  have m0 : w5.cell? ⟨bm, 0, none⟩ = some (.slice A5 L2.length k5) := cellOf hT5.m_ 0
  have r0 := cellOf hr 0
  have r1 := cellOf hr 1
  have r2 := cellOf hr 2
  have r3 := cellOf hr 3
  have r4 := cellOf hr 4
  have g0 := freeOf hr 0
  have g1 := freeOf hr 1
  have g2 := freeOf hr 2
  have g3 := freeOf hr 3
  have g4 := freeOf hr 4
  simp only [TC, zeroT, List.getElem?_toArray, List.getElem?_cons_succ, List.getElem?_cons_zero] at t0 t1 t2 t3 t4 r0 r1 r2 r3 r4
  have hne : bm ≠ w.heap.size + 1 + 1 + 1 := blk_ne hT5.m_ hr (by decide)
  have hne2 : w.heap.size + 1 + 1 + 1 ≠ bm := Ne.symm hne
  have HANS := Lib.hid (ans_st T2 L2 (.slice A5 L2.length k5) 0 hr hT5)
  clear hr hT5 hF5 c2 f2
  go_wp2_with fail
  go_region
  go_wp2_with fail
  refine bodyPost_ret (v := .tuple #[stA T2, .slice A5 L2.length k5, .int .i64 0]) (answer_t rfl rfl rfl rfl HANS.out.1) rfl HANS.out.2
set_option maxHeartbeats 16000000 in
theorem try_4 (p : PJ) (x : EM) (vr vl : Value) (t : ST) (now o : Int) (w : World) (hE : EAt w x vr vl) (hn : x.rc.length ≤ 1000000) (hx : BdJ x) (h0 : 0 ≤ t.told) (h7 : t.told ≤ 7) (htr : 0 ≤ t.tr) (hmay : mayJ p x t now = 0) (ho : o = 4) (T2 : ST) (L2 : List Txt) (hT2 : T2 = passT p x (noJ x t) now (laterT p now t)) (hL2 : L2 = passL p x (noJ x t) now (laterT p now t)) :
    Calls Tryz.prog 11 #[.agg #[.int .i64 p.base, .int .i64 p.most, .int .i64 p.life, .int .i64 p.warn], .agg #[.int .i64 x.id, .int .i64 x.at_, .int .i64 x.rel, .string (mkS x.fr.1), .string (mkS x.fr.2), .bool x.m.hs, .bool x.m.hf, .bool x.m.hu, .bool x.m.hb, .bool x.m.hp, .int .i64 x.m.sz, .int .i64 x.m.fo, .int .i64 x.m.un, .int .i64 x.m.by_, .int .i64 x.m.pr, .string (mkS x.m.body), .string (mkS x.m.ret), .string (mkS x.m.env), .string (mkS x.m.mode), vr, vl], .agg #[.int .i64 t.pl, .string (mkS t.st), .int .i64 t.tr, .int .i64 t.ne, .int .i64 t.told], .int .i64 now, .int .i64 o] w (TyPost T2 L2 0 w) := by
  have HB := Lib.hid (ZB.new w p x vr vl t)
  have HM := Lib.hid (fun w' (h : Below w.heap.size w w') => may_x p x vr vl t now w' (hE.below h) hn)
  have HD := Lib.hid (And.intro hx (And.intro h0 h7))
  have HE := Lib.hid (fun w' (h : Below w.heap.size w w') => hE.below h)
  subst ho
  have HH2 := Lib.hid (And.intro hT2 hL2)
  clear hT2 hL2
  have HOK2 := Lib.hid (may_ok hmay)
  have q1 : IntKind.i64.wrap (min t.tr 999 + 1) = min t.tr 999 + 1 := IntWalk.i64_in _ (by omega)
  have HTR := Lib.hid htr
  rw [hmay] at HM
  clear hE hn hx h0 h7 htr hmay
  go_enter Tryz.func11, Tryz.ntmps11
  go_wp2_with (first | ((with_reducible refine jis_load (ty := 23) (x := .tmp 5) rfl ?_); refine jload ?_ 23 (.tmp 5) rfl (w.heap.size) 0 23 #[.int .i64 p.base, .int .i64 p.most, .int .i64 p.life, .int .i64 p.warn] #[.int .i64 p.base, .int .i64 p.most, .int .i64 p.life, .int .i64 p.warn] _ rfl HB.out.b.pb Tryz.underlying23 rfl jsize_plan (fun j _ => by rw [Nat.zero_add]) ?_; (focus (first | rfl | (go_simp; done)))) | ((with_reducible refine jis_load (ty := 33) (x := .tmp 6) rfl ?_); refine jload ?_ 33 (.tmp 6) rfl ((w.heap.size + 1)) 0 33 (EC x vr vl) (EC x vr vl) _ rfl HB.out.b.mb Tryz.underlying33 rfl size_msg (fun j _ => by rw [Nat.zero_add]) ?_; (focus (first | rfl | (go_simp; done)))) | ((with_reducible refine jis_load (ty := 41) (x := .tmp 7) rfl ?_); refine jload ?_ 41 (.tmp 7) rfl ((w.heap.size + 1 + 1)) 0 41 (TC t) #[.int .i64 (t).pl, .string (mkS (t).st), .int .i64 (t).tr, .int .i64 (t).ne, .int .i64 (t).told] _ rfl HB.out.b.tb Tryz.underlying41 rfl jsize_st (fun j _ => by rw [Nat.zero_add]; rfl) ?_; (focus (first | rfl | (go_simp; done)))))
  refine (HM.out _ HB.out.b.below).mono ?_
  rintro e w1 ⟨rfl, hb⟩
  have HB1 := Lib.hid (HB.out.next hb)
  clear hb HB HM
  have HBM := Lib.hid (newOf w1 (.cells #[jnil] 31))
  have HB2 := Lib.hid (HB1.out.next (below_box w1 (.cells #[jnil] 31)))
  have HGM := Lib.hid HB1.out.b.below.size
  go_wp2_with (first | ((with_reducible refine jis_load (ty := 33) (x := .tmp 6) rfl ?_); refine jload ?_ 33 (.tmp 6) rfl ((w.heap.size + 1)) 0 33 (EC x vr vl) (EC x vr vl) _ rfl HB2.out.b.mb Tryz.underlying33 rfl size_msg (fun j _ => by rw [Nat.zero_add]) ?_; (focus (first | rfl | (go_simp; done)))))
  generalize w1.alloc (.cells #[jnil] 31) = w2 at HBM HB2 ⊢
  generalize w1.heap.size = bm at HBM HGM ⊢
  clear HB1
  refine (reporter_x x vr vl (w.heap.size + 1 + 1) bm t w2 (HE.out _ HB2.out.b.below) HB2.out.b.tb HOK2.out.2.2.2.1 HOK2.out.2.2.2.2).mono ?_
  rintro e w3 ⟨b1, b2, b3, b4, rfl, hRP, hb3⟩
  have HB3 := Lib.hid (HB2.out.next hb3)
  have HBM3 := Lib.hid ((hb3.block _ (ltOf HBM.out)).trans HBM.out)
  have HTB3 := Lib.hid (show TB w (w.heap.size + 1 + 1) bm t jnil [] w3 from ⟨HB3.out.b.tb, HBM3.out, strs_nil _ _, by omega, HGM.out, HB3.out.b.below⟩)
  have HRP3 := Lib.hid hRP
  have c2 : w3.cell? ⟨w.heap.size + 1 + 1, 2, none⟩ = some (.int .i64 t.tr) := cellOf HB3.out.b.tb 2
  have f2 := freeOf HB3.out.b.tb 2
  have e4 : (TC t).setIfInBounds 2 (.int .i64 (min t.tr 999 + 1)) = TC (tr1 t) := rfl
  have HTB4 := Lib.hid (HTB3.out.set 2 (.int .i64 (min t.tr 999 + 1)) e4)
  have HF4 := Lib.hid (F2.set1 (w.heap.size + 1 + 1) bm w3 2 (.int .i64 (min t.tr 999 + 1)))
  have HRP4 := Lib.hid (HRP3.out.f2 HTB3.out.t_ HTB3.out.m_ HF4.out)
  have HKEEP := Lib.hid (fun w5 (h : F2 (w.heap.size + 1 + 1) bm w3 w5) => HB3.out.f2 HBM3.out h)
  clear hRP hb3 e4 HB2 HBM HTB3 HRP3
  have q2 : IntKind.i64.wrap (now + waitJ p (min t.tr 999 + 1)) = now + waitJ p (min t.tr 999 + 1) := IntWalk.i64_in _ (by have := waitJ_lo HOK2.out.1 (min t.tr 999 + 1); have h2 := (okP_iff.1 HOK2.out.1); have := HOK2.out.2.1; omega)
  have HWT := Lib.hid (fun w => jwait_x p (min t.tr 999 + 1) w HOK2.out.1 (by have := HTR.out; omega) (by omega))
  have HPL4 := Lib.hid (HKEEP.out _ HF4.out)
  have c4 : (w3.setCell ⟨w.heap.size + 1 + 1, 2, none⟩ (.int .i64 (min t.tr 999 + 1))).cell? ⟨w.heap.size + 1 + 1, 2, none⟩ = some (.int .i64 (min t.tr 999 + 1)) := cellOf HTB4.out.t_ 2
  go_wp2_with (first | ((with_reducible refine jis_load (ty := 23) (x := .tmp 5) rfl ?_); refine jload ?_ 23 (.tmp 5) rfl (w.heap.size) 0 23 #[.int .i64 p.base, .int .i64 p.most, .int .i64 p.life, .int .i64 p.warn] #[.int .i64 p.base, .int .i64 p.most, .int .i64 p.life, .int .i64 p.warn] _ rfl HPL4.out.1 Tryz.underlying23 rfl jsize_plan (fun j _ => by rw [Nat.zero_add]) ?_; (focus (first | rfl | (go_simp; done)))))
  refine (HWT.out _).mono ?_
  rintro e w4 ⟨rfl, hb4⟩
  have HF5 := Lib.hid (HF4.out.trans (F2.of hb4))
  have HTB5 := Lib.hid (HTB4.out.next hb4)
  have HRP5 := Lib.hid (HRP4.out.next hb4)
  have d3 : w4.cell? ⟨w.heap.size + 1 + 1, 3, none⟩ = some (.int .i64 t.ne) := cellOf HTB5.out.t_ 3
  have f3 := freeOf HTB5.out.t_ 3
  have e6 : (TC (tr1 t)).setIfInBounds 3 (.int .i64 (now + waitJ p (min t.tr 999 + 1))) = TC (laterT p now t) := rfl
  have HTB6 := Lib.hid (HTB5.out.set 3 (.int .i64 (now + waitJ p (min t.tr 999 + 1))) e6)
  have HFs := Lib.hid (F2.set1 (w.heap.size + 1 + 1) bm w4 3 (.int .i64 (now + waitJ p (min t.tr 999 + 1))))
  have HF6 := Lib.hid (HF5.out.trans HFs.out)
  have HRP6 := Lib.hid (HRP5.out.f2 HTB5.out.t_ HTB5.out.m_ HFs.out)
  have HPL6 := Lib.hid (HKEEP.out _ HF6.out)
  have HPA := Lib.hid (pass_x w p x vr vl (noJ x t) (w.heap.size + 1 + 1) bm b1 b2 b3 b4 (laterT p now t) now _ HOK2.out.1 HD.out.1 HTB6.out HRP6.out HD.out.2.1 HD.out.2.2)
  clear hb4 e6 HTB4 HRP4 HTB5 HRP5 HTB6 HRP6 HFs HF5 HF4 HPL4 HWT c4
  go_wp2_with (first | ((with_reducible refine jis_load (ty := 23) (x := .tmp 5) rfl ?_); refine jload ?_ 23 (.tmp 5) rfl (w.heap.size) 0 23 #[.int .i64 p.base, .int .i64 p.most, .int .i64 p.life, .int .i64 p.warn] #[.int .i64 p.base, .int .i64 p.most, .int .i64 p.life, .int .i64 p.warn] _ rfl HPL6.out.1 Tryz.underlying23 rfl jsize_plan (fun j _ => by rw [Nat.zero_add]) ?_; (focus (first | rfl | (go_simp; done)))) | ((with_reducible refine jis_load (ty := 33) (x := .tmp 6) rfl ?_); refine jload ?_ 33 (.tmp 6) rfl ((w.heap.size + 1)) 0 33 (EC x vr vl) (EC x vr vl) _ rfl HPL6.out.2.1 Tryz.underlying33 rfl size_msg (fun j _ => by rw [Nat.zero_add]) ?_; (focus (first | rfl | (go_simp; done)))))
  refine HPA.out.mono ?_
  rintro e w5 ⟨rfl, v5, hT5, hF5x⟩
  have hF5 := HF6.out.trans hF5x
  clear hF5x HPA HF6 HPL6 d3 f3
  rw [← HH2.out.1, ← HH2.out.2] at hT5
  obtain ⟨A5, k5, rfl⟩ := strs_slice hT5.row
  have hr := (HKEEP.out _ hF5).2.2
  have t0 := cellOf hT5.t_ 0
  have t1 := cellOf hT5.t_ 1
  have t2 := cellOf hT5.t_ 2
  have t3 := cellOf hT5.t_ 3
  have t4 := cellOf hT5.t_ 4
  have m0 : w5.cell? ⟨bm, 0, none⟩ = some (.slice A5 L2.length k5) := cellOf hT5.m_ 0
  have r0 := cellOf hr 0
  have r1 := cellOf hr 1
  have r2 := cellOf hr 2
  have r3 := cellOf hr 3
  have r4 := cellOf hr 4
  have g0 := freeOf hr 0
  have g1 := freeOf hr 1
  have g2 := freeOf hr 2
  have g3 := freeOf hr 3
  have g4 := freeOf hr 4
  simp only [TC, zeroT, List.getElem?_toArray, List.getElem?_cons_succ, List.getElem?_cons_zero] at t0 t1 t2 t3 t4 r0 r1 r2 r3 r4
  have hne : bm ≠ w.heap.size + 1 + 1 + 1 := blk_ne hT5.m_ hr (by decide)
  have hne2 : w.heap.size + 1 + 1 + 1 ≠ bm := Ne.symm hne
  have HANS := Lib.hid (ans_st T2 L2 (.slice A5 L2.length k5) 0 hr hT5)
  clear hr hT5 hF5 c2 f2
  go_wp2_with fail
  go_region
  go_wp2_with fail
  refine bodyPost_ret (v := .tuple #[stA T2, .slice A5 L2.length k5, .int .i64 0]) (answer_t rfl rfl rfl rfl HANS.out.1) rfl HANS.out.2
set_option maxHeartbeats 16000000 in
theorem try_0o (p : PJ) (x : EM) (vr vl : Value) (t : ST) (now o : Int) (w : World) (hE : EAt w x vr vl) (hn : x.rc.length ≤ 1000000) (hx : BdJ x) (h0 : 0 ≤ t.told) (h7 : t.told ≤ 7) (htr : 0 ≤ t.tr) (hmay : mayJ p x t now = 0) (ho : o = 0) (T2 : ST) (L2 : List Txt) (hT2 : T2 = passT p x (noJ x t) now (laterT p now t)) (hL2 : L2 = passL p x (noJ x t) now (laterT p now t)) :
    Calls Tryz.prog 11 #[.agg #[.int .i64 p.base, .int .i64 p.most, .int .i64 p.life, .int .i64 p.warn], .agg #[.int .i64 x.id, .int .i64 x.at_, .int .i64 x.rel, .string (mkS x.fr.1), .string (mkS x.fr.2), .bool x.m.hs, .bool x.m.hf, .bool x.m.hu, .bool x.m.hb, .bool x.m.hp, .int .i64 x.m.sz, .int .i64 x.m.fo, .int .i64 x.m.un, .int .i64 x.m.by_, .int .i64 x.m.pr, .string (mkS x.m.body), .string (mkS x.m.ret), .string (mkS x.m.env), .string (mkS x.m.mode), vr, vl], .agg #[.int .i64 t.pl, .string (mkS t.st), .int .i64 t.tr, .int .i64 t.ne, .int .i64 t.told], .int .i64 now, .int .i64 o] w (TyPost T2 L2 0 w) := by
  have HB := Lib.hid (ZB.new w p x vr vl t)
  have HM := Lib.hid (fun w' (h : Below w.heap.size w w') => may_x p x vr vl t now w' (hE.below h) hn)
  have HD := Lib.hid (And.intro hx (And.intro h0 h7))
  have HE := Lib.hid (fun w' (h : Below w.heap.size w w') => hE.below h)
  subst ho
  have HH2 := Lib.hid (And.intro hT2 hL2)
  clear hT2 hL2
  have HOK2 := Lib.hid (may_ok hmay)
  have q1 : IntKind.i64.wrap (min t.tr 999 + 1) = min t.tr 999 + 1 := IntWalk.i64_in _ (by omega)
  have HTR := Lib.hid htr
  rw [hmay] at HM
  clear hE hn hx h0 h7 htr hmay
  go_enter Tryz.func11, Tryz.ntmps11
  go_wp2_with (first | ((with_reducible refine jis_load (ty := 23) (x := .tmp 5) rfl ?_); refine jload ?_ 23 (.tmp 5) rfl (w.heap.size) 0 23 #[.int .i64 p.base, .int .i64 p.most, .int .i64 p.life, .int .i64 p.warn] #[.int .i64 p.base, .int .i64 p.most, .int .i64 p.life, .int .i64 p.warn] _ rfl HB.out.b.pb Tryz.underlying23 rfl jsize_plan (fun j _ => by rw [Nat.zero_add]) ?_; (focus (first | rfl | (go_simp; done)))) | ((with_reducible refine jis_load (ty := 33) (x := .tmp 6) rfl ?_); refine jload ?_ 33 (.tmp 6) rfl ((w.heap.size + 1)) 0 33 (EC x vr vl) (EC x vr vl) _ rfl HB.out.b.mb Tryz.underlying33 rfl size_msg (fun j _ => by rw [Nat.zero_add]) ?_; (focus (first | rfl | (go_simp; done)))) | ((with_reducible refine jis_load (ty := 41) (x := .tmp 7) rfl ?_); refine jload ?_ 41 (.tmp 7) rfl ((w.heap.size + 1 + 1)) 0 41 (TC t) #[.int .i64 (t).pl, .string (mkS (t).st), .int .i64 (t).tr, .int .i64 (t).ne, .int .i64 (t).told] _ rfl HB.out.b.tb Tryz.underlying41 rfl jsize_st (fun j _ => by rw [Nat.zero_add]; rfl) ?_; (focus (first | rfl | (go_simp; done)))))
  refine (HM.out _ HB.out.b.below).mono ?_
  rintro e w1 ⟨rfl, hb⟩
  have HB1 := Lib.hid (HB.out.next hb)
  clear hb HB HM
  have HBM := Lib.hid (newOf w1 (.cells #[jnil] 31))
  have HB2 := Lib.hid (HB1.out.next (below_box w1 (.cells #[jnil] 31)))
  have HGM := Lib.hid HB1.out.b.below.size
  go_wp2_with (first | ((with_reducible refine jis_load (ty := 33) (x := .tmp 6) rfl ?_); refine jload ?_ 33 (.tmp 6) rfl ((w.heap.size + 1)) 0 33 (EC x vr vl) (EC x vr vl) _ rfl HB2.out.b.mb Tryz.underlying33 rfl size_msg (fun j _ => by rw [Nat.zero_add]) ?_; (focus (first | rfl | (go_simp; done)))))
  generalize w1.alloc (.cells #[jnil] 31) = w2 at HBM HB2 ⊢
  generalize w1.heap.size = bm at HBM HGM ⊢
  clear HB1
  refine (reporter_x x vr vl (w.heap.size + 1 + 1) bm t w2 (HE.out _ HB2.out.b.below) HB2.out.b.tb HOK2.out.2.2.2.1 HOK2.out.2.2.2.2).mono ?_
  rintro e w3 ⟨b1, b2, b3, b4, rfl, hRP, hb3⟩
  have HB3 := Lib.hid (HB2.out.next hb3)
  have HBM3 := Lib.hid ((hb3.block _ (ltOf HBM.out)).trans HBM.out)
  have HTB3 := Lib.hid (show TB w (w.heap.size + 1 + 1) bm t jnil [] w3 from ⟨HB3.out.b.tb, HBM3.out, strs_nil _ _, by omega, HGM.out, HB3.out.b.below⟩)
  have HRP3 := Lib.hid hRP
  have c2 : w3.cell? ⟨w.heap.size + 1 + 1, 2, none⟩ = some (.int .i64 t.tr) := cellOf HB3.out.b.tb 2
  have f2 := freeOf HB3.out.b.tb 2
  have e4 : (TC t).setIfInBounds 2 (.int .i64 (min t.tr 999 + 1)) = TC (tr1 t) := rfl
  have HTB4 := Lib.hid (HTB3.out.set 2 (.int .i64 (min t.tr 999 + 1)) e4)
  have HF4 := Lib.hid (F2.set1 (w.heap.size + 1 + 1) bm w3 2 (.int .i64 (min t.tr 999 + 1)))
  have HRP4 := Lib.hid (HRP3.out.f2 HTB3.out.t_ HTB3.out.m_ HF4.out)
  have HKEEP := Lib.hid (fun w5 (h : F2 (w.heap.size + 1 + 1) bm w3 w5) => HB3.out.f2 HBM3.out h)
  clear hRP hb3 e4 HB2 HBM HTB3 HRP3
  have q2 : IntKind.i64.wrap (now + waitJ p (min t.tr 999 + 1)) = now + waitJ p (min t.tr 999 + 1) := IntWalk.i64_in _ (by have := waitJ_lo HOK2.out.1 (min t.tr 999 + 1); have h2 := (okP_iff.1 HOK2.out.1); have := HOK2.out.2.1; omega)
  have HWT := Lib.hid (fun w => jwait_x p (min t.tr 999 + 1) w HOK2.out.1 (by have := HTR.out; omega) (by omega))
  have HPL4 := Lib.hid (HKEEP.out _ HF4.out)
  have c4 : (w3.setCell ⟨w.heap.size + 1 + 1, 2, none⟩ (.int .i64 (min t.tr 999 + 1))).cell? ⟨w.heap.size + 1 + 1, 2, none⟩ = some (.int .i64 (min t.tr 999 + 1)) := cellOf HTB4.out.t_ 2
  go_wp2_with (first | ((with_reducible refine jis_load (ty := 23) (x := .tmp 5) rfl ?_); refine jload ?_ 23 (.tmp 5) rfl (w.heap.size) 0 23 #[.int .i64 p.base, .int .i64 p.most, .int .i64 p.life, .int .i64 p.warn] #[.int .i64 p.base, .int .i64 p.most, .int .i64 p.life, .int .i64 p.warn] _ rfl HPL4.out.1 Tryz.underlying23 rfl jsize_plan (fun j _ => by rw [Nat.zero_add]) ?_; (focus (first | rfl | (go_simp; done)))))
  refine (HWT.out _).mono ?_
  rintro e w4 ⟨rfl, hb4⟩
  have HF5 := Lib.hid (HF4.out.trans (F2.of hb4))
  have HTB5 := Lib.hid (HTB4.out.next hb4)
  have HRP5 := Lib.hid (HRP4.out.next hb4)
  have d3 : w4.cell? ⟨w.heap.size + 1 + 1, 3, none⟩ = some (.int .i64 t.ne) := cellOf HTB5.out.t_ 3
  have f3 := freeOf HTB5.out.t_ 3
  have e6 : (TC (tr1 t)).setIfInBounds 3 (.int .i64 (now + waitJ p (min t.tr 999 + 1))) = TC (laterT p now t) := rfl
  have HTB6 := Lib.hid (HTB5.out.set 3 (.int .i64 (now + waitJ p (min t.tr 999 + 1))) e6)
  have HFs := Lib.hid (F2.set1 (w.heap.size + 1 + 1) bm w4 3 (.int .i64 (now + waitJ p (min t.tr 999 + 1))))
  have HF6 := Lib.hid (HF5.out.trans HFs.out)
  have HRP6 := Lib.hid (HRP5.out.f2 HTB5.out.t_ HTB5.out.m_ HFs.out)
  have HPL6 := Lib.hid (HKEEP.out _ HF6.out)
  have HPA := Lib.hid (pass_x w p x vr vl (noJ x t) (w.heap.size + 1 + 1) bm b1 b2 b3 b4 (laterT p now t) now _ HOK2.out.1 HD.out.1 HTB6.out HRP6.out HD.out.2.1 HD.out.2.2)
  clear hb4 e6 HTB4 HRP4 HTB5 HRP5 HTB6 HRP6 HFs HF5 HF4 HPL4 HWT c4
  go_wp2_with (first | ((with_reducible refine jis_load (ty := 23) (x := .tmp 5) rfl ?_); refine jload ?_ 23 (.tmp 5) rfl (w.heap.size) 0 23 #[.int .i64 p.base, .int .i64 p.most, .int .i64 p.life, .int .i64 p.warn] #[.int .i64 p.base, .int .i64 p.most, .int .i64 p.life, .int .i64 p.warn] _ rfl HPL6.out.1 Tryz.underlying23 rfl jsize_plan (fun j _ => by rw [Nat.zero_add]) ?_; (focus (first | rfl | (go_simp; done)))) | ((with_reducible refine jis_load (ty := 33) (x := .tmp 6) rfl ?_); refine jload ?_ 33 (.tmp 6) rfl ((w.heap.size + 1)) 0 33 (EC x vr vl) (EC x vr vl) _ rfl HPL6.out.2.1 Tryz.underlying33 rfl size_msg (fun j _ => by rw [Nat.zero_add]) ?_; (focus (first | rfl | (go_simp; done)))))
  refine HPA.out.mono ?_
  rintro e w5 ⟨rfl, v5, hT5, hF5x⟩
  have hF5 := HF6.out.trans hF5x
  clear hF5x HPA HF6 HPL6 d3 f3
  rw [← HH2.out.1, ← HH2.out.2] at hT5
  obtain ⟨A5, k5, rfl⟩ := strs_slice hT5.row
  have hr := (HKEEP.out _ hF5).2.2
  have t0 := cellOf hT5.t_ 0
  have t1 := cellOf hT5.t_ 1
  have t2 := cellOf hT5.t_ 2
  have t3 := cellOf hT5.t_ 3
  have t4 := cellOf hT5.t_ 4
  have m0 : w5.cell? ⟨bm, 0, none⟩ = some (.slice A5 L2.length k5) := cellOf hT5.m_ 0
  have r0 := cellOf hr 0
  have r1 := cellOf hr 1
  have r2 := cellOf hr 2
  have r3 := cellOf hr 3
  have r4 := cellOf hr 4
  have g0 := freeOf hr 0
  have g1 := freeOf hr 1
  have g2 := freeOf hr 2
  have g3 := freeOf hr 3
  have g4 := freeOf hr 4
  simp only [TC, zeroT, List.getElem?_toArray, List.getElem?_cons_succ, List.getElem?_cons_zero] at t0 t1 t2 t3 t4 r0 r1 r2 r3 r4
  have hne : bm ≠ w.heap.size + 1 + 1 + 1 := blk_ne hT5.m_ hr (by decide)
  have hne2 : w.heap.size + 1 + 1 + 1 ≠ bm := Ne.symm hne
  have HANS := Lib.hid (ans_st T2 L2 (.slice A5 L2.length k5) 0 hr hT5)
  clear hr hT5 hF5 c2 f2
  go_wp2_with fail
  go_region
  go_wp2_with fail
  refine bodyPost_ret (v := .tuple #[stA T2, .slice A5 L2.length k5, .int .i64 0]) (answer_t rfl rfl rfl rfl HANS.out.1) rfl HANS.out.2
set_option maxHeartbeats 16000000 in
theorem try_no (p : PJ) (x : EM) (vr vl : Value) (t : ST) (now o : Int) (w : World) (hE : EAt w x vr vl) (hn : x.rc.length ≤ 1000000) (hx : BdJ x) (h0 : 0 ≤ t.told) (h7 : t.told ≤ 7) (htr : 0 ≤ t.tr) (hmay : mayJ p x t now = 0) (ho : ¬ (o = 2 ∨ o = 3 ∨ o = 5 ∨ o = 4 ∨ o = 0)) :
    Calls Tryz.prog 11 #[.agg #[.int .i64 p.base, .int .i64 p.most, .int .i64 p.life, .int .i64 p.warn], .agg #[.int .i64 x.id, .int .i64 x.at_, .int .i64 x.rel, .string (mkS x.fr.1), .string (mkS x.fr.2), .bool x.m.hs, .bool x.m.hf, .bool x.m.hu, .bool x.m.hb, .bool x.m.hp, .int .i64 x.m.sz, .int .i64 x.m.fo, .int .i64 x.m.un, .int .i64 x.m.by_, .int .i64 x.m.pr, .string (mkS x.m.body), .string (mkS x.m.ret), .string (mkS x.m.env), .string (mkS x.m.mode), vr, vl], .agg #[.int .i64 t.pl, .string (mkS t.st), .int .i64 t.tr, .int .i64 t.ne, .int .i64 t.told], .int .i64 now, .int .i64 o] w (TyPost zeroT [] 10 w) := by
  have HB := Lib.hid (ZB.new w p x vr vl t)
  have HM := Lib.hid (fun w' (h : Below w.heap.size w w') => may_x p x vr vl t now w' (hE.below h) hn)
  have HD := Lib.hid (And.intro hx (And.intro h0 h7))
  have HE := Lib.hid (fun w' (h : Below w.heap.size w w') => hE.below h)
  have HNO := Lib.hid (And.intro (beq_eq_false_iff_ne.2 (fun e => ho (.inl e)) : (o == 2) = false) (And.intro (beq_eq_false_iff_ne.2 (fun e => ho (.inr (.inl e))) : (o == 3) = false) (And.intro (beq_eq_false_iff_ne.2 (fun e => ho (.inr (.inr (.inl e)))) : (o == 5) = false) (And.intro (beq_eq_false_iff_ne.2 (fun e => ho (.inr (.inr (.inr (.inl e))))) : (o == 4) = false) (beq_eq_false_iff_ne.2 (fun e => ho (.inr (.inr (.inr (.inr e))))) : (o == 0) = false)))))
  clear ho
  have HOK2 := Lib.hid (may_ok hmay)
  have q1 : IntKind.i64.wrap (min t.tr 999 + 1) = min t.tr 999 + 1 := IntWalk.i64_in _ (by omega)
  have HTR := Lib.hid htr
  rw [hmay] at HM
  clear hE hn hx h0 h7 htr hmay
  go_enter Tryz.func11, Tryz.ntmps11
  go_wp2_with (first | ((with_reducible refine jis_load (ty := 23) (x := .tmp 5) rfl ?_); refine jload ?_ 23 (.tmp 5) rfl (w.heap.size) 0 23 #[.int .i64 p.base, .int .i64 p.most, .int .i64 p.life, .int .i64 p.warn] #[.int .i64 p.base, .int .i64 p.most, .int .i64 p.life, .int .i64 p.warn] _ rfl HB.out.b.pb Tryz.underlying23 rfl jsize_plan (fun j _ => by rw [Nat.zero_add]) ?_; (focus (first | rfl | (go_simp; done)))) | ((with_reducible refine jis_load (ty := 33) (x := .tmp 6) rfl ?_); refine jload ?_ 33 (.tmp 6) rfl ((w.heap.size + 1)) 0 33 (EC x vr vl) (EC x vr vl) _ rfl HB.out.b.mb Tryz.underlying33 rfl size_msg (fun j _ => by rw [Nat.zero_add]) ?_; (focus (first | rfl | (go_simp; done)))) | ((with_reducible refine jis_load (ty := 41) (x := .tmp 7) rfl ?_); refine jload ?_ 41 (.tmp 7) rfl ((w.heap.size + 1 + 1)) 0 41 (TC t) #[.int .i64 (t).pl, .string (mkS (t).st), .int .i64 (t).tr, .int .i64 (t).ne, .int .i64 (t).told] _ rfl HB.out.b.tb Tryz.underlying41 rfl jsize_st (fun j _ => by rw [Nat.zero_add]; rfl) ?_; (focus (first | rfl | (go_simp; done)))))
  refine (HM.out _ HB.out.b.below).mono ?_
  rintro e w1 ⟨rfl, hb⟩
  have HB1 := Lib.hid (HB.out.next hb)
  clear hb HB HM
  have HBM := Lib.hid (newOf w1 (.cells #[jnil] 31))
  have HB2 := Lib.hid (HB1.out.next (below_box w1 (.cells #[jnil] 31)))
  have HGM := Lib.hid HB1.out.b.below.size
  go_wp2_with (first | ((with_reducible refine jis_load (ty := 33) (x := .tmp 6) rfl ?_); refine jload ?_ 33 (.tmp 6) rfl ((w.heap.size + 1)) 0 33 (EC x vr vl) (EC x vr vl) _ rfl HB2.out.b.mb Tryz.underlying33 rfl size_msg (fun j _ => by rw [Nat.zero_add]) ?_; (focus (first | rfl | (go_simp; done)))))
  generalize w1.alloc (.cells #[jnil] 31) = w2 at HBM HB2 ⊢
  generalize w1.heap.size = bm at HBM HGM ⊢
  clear HB1
  refine (reporter_x x vr vl (w.heap.size + 1 + 1) bm t w2 (HE.out _ HB2.out.b.below) HB2.out.b.tb HOK2.out.2.2.2.1 HOK2.out.2.2.2.2).mono ?_
  rintro e w3 ⟨b1, b2, b3, b4, rfl, hRP, hb3⟩
  have HB3 := Lib.hid (HB2.out.next hb3)
  have HBM3 := Lib.hid ((hb3.block _ (ltOf HBM.out)).trans HBM.out)
  have HTB3 := Lib.hid (show TB w (w.heap.size + 1 + 1) bm t jnil [] w3 from ⟨HB3.out.b.tb, HBM3.out, strs_nil _ _, by omega, HGM.out, HB3.out.b.below⟩)
  have HRP3 := Lib.hid hRP
  have c2 : w3.cell? ⟨w.heap.size + 1 + 1, 2, none⟩ = some (.int .i64 t.tr) := cellOf HB3.out.b.tb 2
  have f2 := freeOf HB3.out.b.tb 2
  have e4 : (TC t).setIfInBounds 2 (.int .i64 (min t.tr 999 + 1)) = TC (tr1 t) := rfl
  have HTB4 := Lib.hid (HTB3.out.set 2 (.int .i64 (min t.tr 999 + 1)) e4)
  have HF4 := Lib.hid (F2.set1 (w.heap.size + 1 + 1) bm w3 2 (.int .i64 (min t.tr 999 + 1)))
  have HRP4 := Lib.hid (HRP3.out.f2 HTB3.out.t_ HTB3.out.m_ HF4.out)
  have HKEEP := Lib.hid (fun w5 (h : F2 (w.heap.size + 1 + 1) bm w3 w5) => HB3.out.f2 HBM3.out h)
  clear hRP hb3 e4 HB2 HBM HTB3 HRP3
  have hz := (HKEEP.out _ HF4.out).2.2
  have HBL := Lib.hid HTB4.out.below
  obtain ⟨o1, o2, o3, o4, o5⟩ := HNO.out
  clear HTB4 HF4 HRP4
  go_wp2_with (first | (refine wpList_store_blk rfl 41 (.tmp 10) (.tmp 33) rfl (w.heap.size + 1 + 1 + 1) 0 41 (TC zeroT) (TC zeroT) (TC zeroT) rfl rfl hz jsize_st (one_TC _) (Nat.le_of_eq rfl) (whole_TC _ _ rfl) ?_; intro w9 hB9 hA9))
  refine bodyPost_ret (v := .tuple #[stA zeroT, jnil, .int .i64 10]) (answer_t rfl rfl rfl rfl hB9) rfl ?_
  exact ⟨_, rfl, strs_nil _ _, HBL.out.trans (hA9.below HBL.out.size (by omega))⟩
set_option maxHeartbeats 4000000 in
theorem try_x (p : PJ) (x : EM) (vr vl : Value) (t : ST) (now o : Int) (w : World) (hE : EAt w x vr vl) (hn : x.rc.length ≤ 1000000) (hx : BdJ x) (h0 : 0 ≤ t.told) (h7 : t.told ≤ 7) (htr : 0 ≤ t.tr) :
    Calls Tryz.prog 11 #[.agg #[.int .i64 p.base, .int .i64 p.most, .int .i64 p.life, .int .i64 p.warn], .agg #[.int .i64 x.id, .int .i64 x.at_, .int .i64 x.rel, .string (mkS x.fr.1), .string (mkS x.fr.2), .bool x.m.hs, .bool x.m.hf, .bool x.m.hu, .bool x.m.hb, .bool x.m.hp, .int .i64 x.m.sz, .int .i64 x.m.fo, .int .i64 x.m.un, .int .i64 x.m.by_, .int .i64 x.m.pr, .string (mkS x.m.body), .string (mkS x.m.ret), .string (mkS x.m.env), .string (mkS x.m.mode), vr, vl], .agg #[.int .i64 t.pl, .string (mkS t.st), .int .i64 t.tr, .int .i64 t.ne, .int .i64 t.told], .int .i64 now, .int .i64 o] w (TyPost (tryT p x t now o) (tryL p x t now o) (tryE p x t now o) w) := by
  by_cases hmay : mayJ p x t now = 0
  · by_cases ho : o = 2 ∨ o = 3 ∨ o = 5 ∨ o = 4 ∨ o = 0
    · rw [try_0 hmay ho]
      rcases ho with ho | ho | ho | ho | ho
      · exact try_2 p x vr vl t now o w hE hn hx h0 h7 htr hmay ho _ _ (by unfold tryT; rw [if_pos hmay, if_pos ho]) (by unfold tryL; rw [if_pos hmay, if_pos ho])
      · exact try_3 p x vr vl t now o w hE hn hx h0 h7 htr hmay ho _ _ (by unfold tryT; rw [if_pos hmay, if_neg (by omega), if_pos ho]) (by unfold tryL; rw [if_pos hmay, if_neg (by omega), if_pos ho])
      · exact try_5 p x vr vl t now o w hE hn hx h0 h7 htr hmay ho _ _ (by unfold tryT; rw [if_pos hmay, if_neg (by omega), if_neg (by omega), if_pos ho]) (by unfold tryL; rw [if_pos hmay, if_neg (by omega), if_neg (by omega), if_pos ho])
      · exact try_4 p x vr vl t now o w hE hn hx h0 h7 htr hmay ho _ _ (try_later hmay (.inl ho)).1 (try_later hmay (.inl ho)).2
      · exact try_0o p x vr vl t now o w hE hn hx h0 h7 htr hmay ho _ _ (try_later hmay (.inr ho)).1 (try_later hmay (.inr ho)).2
    · rw [try_1 hmay ho]
      have e1 : tryT p x t now o = zeroT := by unfold tryT; rw [if_pos hmay, if_neg (by omega), if_neg (by omega), if_neg (by omega), if_neg (by omega)]
      have e2 : tryL p x t now o = [] := by unfold tryL; rw [if_pos hmay, if_neg (by omega), if_neg (by omega), if_neg (by omega), if_neg (by omega)]
      rw [e1, e2]
      exact try_no p x vr vl t now o w hE hn hx h0 h7 htr hmay ho
  · have e1 : tryT p x t now o = zeroT := by unfold tryT; rw [if_neg hmay]
    have e2 : tryL p x t now o = [] := by unfold tryL; rw [if_neg hmay]
    have e3 : tryE p x t now o = mayJ p x t now := by unfold tryE; rw [if_neg hmay]
    rw [e1, e2, e3]
    exact try_bad p x vr vl t now o w hE hn hx h0 h7 hmay
end Go.Proofs.YtcedhgihebollaaGreatDoor.E.J
