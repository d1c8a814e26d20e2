/-
  CmPartsN · CmPartsH · CmPartsU, in one text.
-/
import Derived.Test.YtgkjbminokgddaaGreatDoorMaCmAw
/-
  The walk of the law CommandParts, some of its cases.
-/
namespace Go.Proofs.YtgkjbminokgddaaGreatDoor.PN
set_option maxRecDepth 100000
open Go.RowKit Go.Shelf
/-- A block that was made behind W; nothing that lay ahead of W has turned. -/
structure BX (W : World) (b : Nat) (o : Obj) (w : World) : Prop where
  box : w.heap[b]? = some o
  below : Below W.heap.size W w
  new : W.heap.size ≤ b
theorem BX.next {W w w' : World} {b : Nat} {o : Obj} (h : BX W b o w) (hb : Below w.heap.size w w') : BX W b o w' := ⟨(hb.block _ (ltOf h.box)).trans h.box, below_next h.below hb, h.new⟩
theorem BX.sto {W w w' : World} {b : Nat} {o z : Obj} (h : BX W b o w) (hA : Apart w.heap.size (w.alloc z).heap.size (w.alloc z) w') : BX W b o w' :=
  ⟨(hA.block b (by have := ltOf h.box; simp; omega) (by have := ltOf h.box; omega)).trans (old_alloc h.box), below_sto h.below hA, h.new⟩
theorem BX.fresh {W w w' : World} {o z : Obj} (h : Below W.heap.size W w) (hb : w'.heap[w.heap.size]? = some o) (hA : Apart w.heap.size (w.alloc z).heap.size (w.alloc z) w') : BX W w.heap.size o w' := ⟨hb, below_sto h hA, h.size⟩
theorem BX.apart {W w w' : World} {b b' : Nat} {o : Obj} (h : BX W b o w) (hn : W.heap.size ≤ b') (hA : Apart b' w.heap.size w w') (hne : b ≠ b') : BX W b o w' :=
  ⟨(hA.block b (ltOf h.box) hne).trans h.box, h.below.trans (hA.below h.below.size hn), h.new⟩
theorem BX.told {W w w' : World} {b : Nat} {o o' : Obj} (h : BX W b o w) (hA : Apart b w.heap.size w w') (hb : w'.heap[b]? = some o') : BX W b o' w' := ⟨hb, h.below.trans (hA.below h.below.size h.new), h.new⟩
/-- The same load, its operation looked at first. -/
theorem load_w {P : Program} {ops : Array Oper} {rest : List Oper} {op : Oper} {a : Act} {w : World} {Q : Exit → Act → World → Prop} (ty : TypeId) (x : Operand) (ho : op.op = .load ty x) (b o : Nat) (hx : a.eval x = .pointer (some ⟨b, o, none⟩)) (hw : Region.wanted op (yielded ops a.tmps) = true) (t : TypeId) (cs vs : Array Value) (d : TypeDesc) (hb : w.heap[b]? = some (.cells cs t (0, 0)))
    (hu : P.underlying ty = some d) (hd : d.isRow = true) (hi : (P.info? ty).map (·.size) = some vs.size) (hc : ∀ j, j < vs.size → cs[o + j]? = vs[j]?)
    (h : wpList P ops Q rest (a.put op.dst (.agg vs)) w) : wpList P ops Q (op :: rest) a w := wpList_load_want hw ty x ho b o t cs vs d hx hb hu hd hi hc h
theorem is_load {P : Program} {ops : Array Oper} {rest : List Oper} {op : Oper} {a : Act} {w : World} {Q : Exit → Act → World → Prop} {ty : TypeId} {x : Operand} (_ : op.op = .load ty x) (h : wpList P ops Q (op :: rest) a w) : wpList P ops Q (op :: rest) a w := h
theorem is_store {P : Program} {ops : Array Oper} {rest : List Oper} {op : Oper} {a : Act} {w : World} {Q : Exit → Act → World → Prop} {ty : TypeId} {x y : Operand} (_ : op.op = .store ty x y) (h : wpList P ops Q (op :: rest) a w) : wpList P ops Q (op :: rest) a w := h
theorem atc (c : CL) : ∀ j, j < (CC c).size → (CC c)[0 + j]? = (CC c)[j]? := fun j _ => by rw [Nat.zero_add]
theorem load_v {P : Program} {ops : Array Oper} {rest : List Oper} {op : Oper} {a : Act} {w : World} {Q : Exit → Act → World → Prop} (ty : TypeId) (x : Operand) (ho : op.op = .load ty x) (b o : Nat) (hx : a.eval x = .pointer (some ⟨b, o, none⟩)) (hw : Region.wanted op (yielded ops a.tmps) = true) (v : Value) (hv : (loadVar ty ⟨b, o, none⟩).run P w = .ok v w)
    (h : wpList P ops Q rest (a.put op.dst v) w) : wpList P ops Q (op :: rest) a w := by
  refine wpList_step fun K hK => ?_
  rw [if_pos hw]
  unfold Oper.wp execOp
  simp only [ho, hx, Instr.loadAt, Instr.sureAddr, Sem.run_bind, Sem.run_pure, Result.andThen_ok, hv]
  exact hK _ _ h
theorem at0 (vs : Array Value) : ∀ j, j < vs.size → vs[0 + j]? = vs[j]? := fun j _ => by rw [Nat.zero_add]
theorem whole0 (cs vs : Array Value) (h : cs.size = vs.size) : vs = (cs.toList.take 0 ++ vs.toList ++ cs.toList.drop (0 + vs.size)).toArray := by
  rw [List.take_zero, List.nil_append, List.drop_of_length_le (by simp; omega), List.append_nil]
set_option maxHeartbeats 32000000 in
theorem commandParts_N (wh words : Txt) (w : World) (hR : Ready w) (hN : NotR w) (hz1 : wh.length ≤ 140737488355328) (hz2 : words.length ≤ 140737488355328) (h2 : ((P.parseV wh).1.2 == []) = false) :
    Calls Tryz.prog 4 #[.string (mkS wh), .string (mkS words)] w fun e w' => e = .returned (.bool true) ∧ Below w.heap.size w w' := by
  have h2H := Lib.hid h2
  clear h2
  have HA := Lib.hid (awake_x w hR hN)
  have HR := Lib.hid (fun w' (h : Below w.heap.size w w') => hR.below h)
  have HN := Lib.hid (fun w' (h : Below w.heap.size w w') => hN.below h)
  have z1 := mkS_size wh
  have z2 := mkS_size words
  have hTw := mkS_toList words
  clear hR hN
  go_enter Tryz.func4, Tryz.ntmps4
  go_wp2_with fail
  refine HA.out.mono ?_
  rintro e w1 ⟨rfl, hb⟩
  have HB := Lib.hid hb
  clear hb HA
  by_cases hl1 : 1500 < wh.length
  · have hlI : (1500 : Int) < (wh.length : Int) := by omega
    go_wp2_with fail
    go_ret
    exact ⟨rfl, HB.out⟩
  have hl1I : ¬ (1500 : Int) < (wh.length : Int) := by omega
  by_cases hl2 : 1500 < words.length
  · have hlI : (1500 : Int) < (words.length : Int) := by omega
    go_wp2_with fail
    go_ret
    exact ⟨rfl, HB.out⟩
  have hl2I : ¬ (1500 : Int) < (words.length : Int) := by omega
  by_cases hn : words = []
  · subst hn
    have e0 : (mkS ([] : Txt)).toList = [] := hTw
    go_wp2_with fail
    go_ret
    exact ⟨rfl, HB.out⟩
  obtain ⟨l0, x, hwx⟩ : ∃ (l0 : Txt) (x : UInt8), words = l0 ++ [x] := ⟨words.dropLast, words.getLast hn, (List.dropLast_concat_getLast hn).symm⟩
  have hnl : words.length = l0.length + 1 := by rw [hwx]; simp
  have e1 : words.isEmpty = false := by cases words <;> first | exact absurd rfl hn | rfl
  have hsz : (mkS words).size = l0.length + 1 := by rw [z2, hnl]
  have hxx : (mkS words)[l0.length]'(by omega) = x := mkS_get _ (by rw [hwx]; simp)
  have hq1 : IntKind.i64.wrap ((words.length : Int) - 1) = (l0.length : Int) := by rw [hnl]; rw [IntWalk.i64_in _ (by omega)]; omega
  by_cases hx32 : x.toNat = 32
  · have d32 : (x.toNat : Int) = 32 := by omega
    clear hwx hn
    go_wp2_with fail
    go_ret
    exact ⟨rfl, HB.out⟩
  have hlast : words.getLast? ≠ some 32 := by rw [hwx, List.getLast?_concat]; intro h; injection h with h; exact hx32 (by rw [h]; rfl)
  have dx : ¬ (x.toNat : Int) = 32 := by omega
  clear hwx
  have hl3I : ¬ (1500 : Int) < (l0.length : Int) + 1 := by omega
  have dx2 : ((x.toNat : Int) == 32) = false := beq_eq_false_iff_ne.2 dx
  have HP := Lib.hid (fun w => P.parse_x wh w (by omega))
  unfold P.PaPost at HP
  have HPP := Lib.hid (show (P.parseV wh).2.2 = 0 → (P.parseV wh).2.1 = [] → P.parseV wh = ((P.parseV wh).1, [], 0) from fun h1 h2 => Prod.ext rfl (Prod.ext h2 h1))
  have HCM := Lib.hid (fun (p : P.Pth) (h : P.parseV wh = (p, [], 0)) => cp_mail h hn hlast)
  have HCR := Lib.hid (fun (p : P.Pth) (h : P.parseV wh = (p, [], 0)) => cp_rcpt h hn hlast)
  have HM := Lib.hid (fun w h => parseM_x words w (by omega) h)
  have HQ := Lib.hid (fun w h => parseR_x words w (by omega) h)
  unfold MailPost mCells at HM
  unfold RcptPost at HQ
  have l1 : (vMAIL ++ (hFROM ++ wh ++ 32 :: words)).length ≤ 100000 := by simp [vMAIL, hFROM]; omega
  have l2 : (vRCPT ++ (hTO ++ wh ++ 32 :: words)).length ≤ 100000 := by simp [vRCPT, hTO]; omega
  have HX := Lib.hid (fun w hR hN => cparse_x (vMAIL ++ (hFROM ++ wh ++ 32 :: words)) w l1 hR hN)
  have HY := Lib.hid (fun w hR hN => cparse_x (vRCPT ++ (hTO ++ wh ++ 32 :: words)) w l2 hR hN)
  unfold CpPost at HX HY
  have a1 : ({ data := #[77, 65, 73, 76, 32, 70, 82, 79, 77, 58] } : ByteArray) ++ mkS wh = mkS (vMAIL ++ (hFROM ++ wh)) := mkS_cat [77, 65, 73, 76, 32, 70, 82, 79, 77, 58] wh
  have a2 : mkS (vMAIL ++ (hFROM ++ wh)) ++ { data := #[32] } = mkS (vMAIL ++ (hFROM ++ wh) ++ [32]) := mkS_cat _ [32]
  have a3 : mkS (vMAIL ++ (hFROM ++ wh) ++ [32]) ++ mkS words = mkS (vMAIL ++ (hFROM ++ wh ++ 32 :: words)) := by rw [mkS_cat]; congr 1; simp
  have b1 : ({ data := #[82, 67, 80, 84, 32, 84, 79, 58] } : ByteArray) ++ mkS wh = mkS (vRCPT ++ (hTO ++ wh)) := mkS_cat [82, 67, 80, 84, 32, 84, 79, 58] wh
  have b2 : mkS (vRCPT ++ (hTO ++ wh)) ++ { data := #[32] } = mkS (vRCPT ++ (hTO ++ wh) ++ [32]) := mkS_cat _ [32]
  have b3 : mkS (vRCPT ++ (hTO ++ wh) ++ [32]) ++ mkS words = mkS (vRCPT ++ (hTO ++ wh ++ 32 :: words)) := by rw [mkS_cat]; congr 1; simp
  have s1 : (mkS (vMAIL ++ (hFROM ++ wh))).size = 10 + wh.length := by rw [mkS_size]; simp [vMAIL, hFROM]; omega
  have s2 : (mkS (vMAIL ++ (hFROM ++ wh) ++ [32])).size = 11 + wh.length := by rw [mkS_size]; simp [vMAIL, hFROM]; omega
  have s3 : (mkS (vRCPT ++ (hTO ++ wh))).size = 8 + wh.length := by rw [mkS_size]; simp [vRCPT, hTO]; omega
  have s4 : (mkS (vRCPT ++ (hTO ++ wh) ++ [32])).size = 9 + wh.length := by rw [mkS_size]; simp [vRCPT, hTO]; omega
  have y0 : ¬ 9223372036854775807 < 10 + (mkS wh).size := by omega
  have y1 : ¬ 9223372036854775807 < 10 + wh.length := by omega
  have y2 : ¬ 9223372036854775807 < 10 + wh.length + 1 := by omega
  have y3 : ¬ 9223372036854775807 < 11 + (mkS words).size := by omega
  have y4 : ¬ 9223372036854775807 < 11 + words.length := by omega
  have y5 : ¬ 9223372036854775807 < 11 + wh.length + (mkS words).size := by omega
  have y6 : ¬ 9223372036854775807 < 11 + wh.length + words.length := by omega
  have y7 : ¬ 9223372036854775807 < 8 + (mkS wh).size := by omega
  have y8 : ¬ 9223372036854775807 < 8 + wh.length := by omega
  have y9 : ¬ 9223372036854775807 < 8 + wh.length + 1 := by omega
  have y10 : ¬ 9223372036854775807 < 9 + wh.length + (mkS words).size := by omega
  have y11 : ¬ 9223372036854775807 < 9 + wh.length + words.length := by omega
  generalize cpE (vMAIL ++ (hFROM ++ wh ++ 32 :: words)) = Ex at HX HCM
  generalize cpV (vMAIL ++ (hFROM ++ wh ++ 32 :: words)) = cx at HX HCM
  generalize cpE (vRCPT ++ (hTO ++ wh ++ 32 :: words)) = Ey at HY HCR
  generalize cpV (vRCPT ++ (hTO ++ wh ++ 32 :: words)) = cy at HY HCR
  generalize vMAIL ++ (hFROM ++ wh ++ 32 :: words) = t1 at HX a3 l1
  generalize vRCPT ++ (hTO ++ wh ++ 32 :: words) = t2 at HY b3 l2
  generalize vMAIL ++ (hFROM ++ wh) ++ [32] = t3 at a2 a3 s2
  generalize vMAIL ++ (hFROM ++ wh) = t4 at a1 a2 s1
  generalize vRCPT ++ (hTO ++ wh) ++ [32] = t5 at b2 b3 s4
  generalize vRCPT ++ (hTO ++ wh) = t6 at b1 b2 s3
  generalize pvM words = X at HM HCM
  generalize peM words = em at HM HCM
  generalize pvR words = Y at HQ HCR
  generalize peR words = er at HQ HCR
  generalize hpv : P.parseV wh = pv at HP HPP HCM HCR h2H
  obtain ⟨p, rs, e0⟩ := pv
  simp only at HP HPP
  have hTr := mkS_toList rs
  have er1 : rs.isEmpty = (rs == []) := by cases rs <;> rfl
  clear hpv l1 l2 hlast hn hz1 hz2
  go_wp2_with fail
  refine (HP.out _).mono ?_
  rintro e w2 ⟨rfl, hb⟩
  have HB2 := Lib.hid (below_next HB.out hb)
  clear hb HB HP
  by_cases he0 : e0 = 0
  rotate_left
  · have d9 : (e0 != 0) = true := bne_iff_ne.2 he0
    clear he0
    have HB3 := Lib.hid (HB2.out.alloc HB2.out.size (.cells #[.string (mkS p.1), .string (mkS p.2)] 23))
    go_wp2_with fail
    go_ret
    exact ⟨rfl, HB3.out⟩
  cases hrs : rs == []
  · rw [hrs] at er1
    have HB3 := Lib.hid (HB2.out.alloc HB2.out.size (.cells #[.string (mkS p.1), .string (mkS p.2)] 23))
    have d9 : (e0 != 0) = false := by rw [he0]; rfl
    clear hrs he0
    go_wp2_with fail
    go_ret
    exact ⟨rfl, HB3.out⟩
  have hrs0 : rs = [] := by simpa using hrs
  subst he0
  subst hrs0
  have HXX := Lib.hid (HCM.out p (HPP.out rfl rfl))
  have HYY := Lib.hid (HCR.out p (HPP.out rfl rfl))
  clear HCM HCR HPP hrs er1
  have e00 : (mkS ([] : Txt)).toList = [] := hTr
  clear hTr
  go_wp2_with (first | (refine wpList_store_blk rfl 23 _ _ rfl w2.heap.size 0 23 #[.string { data := #[] }, .string { data := #[] }] #[.string (mkS p.1), .string (mkS p.2)] #[.string (mkS p.1), .string (mkS p.2)] rfl rfl (newOf w2 _) (by kernel_rfl) (by kernel_rfl) (Nat.le_of_eq rfl) (whole0 _ _ rfl) ?_; intro w3 hB2 hA2; have KP := Lib.hid (BX.fresh HB2.out hB2 hA2); have HB3 := Lib.hid (below_sto HB2.out hA2); clear hB2 hA2) | fail)
  generalize w2.heap.size = bP at KP ⊢
  refine (HM.out _ (HR.out _ KP.out.below)).mono ?_
  rintro e w4 ⟨rfl, hb⟩
  have KP' := Lib.hid (KP.out.next hb)
  clear hb KP HM HB3
  have ltPM := ltOf KP'.out.box
  go_wp2_with (first | (refine wpList_store_blk rfl 27 _ _ rfl w4.heap.size 0 27 #[.bool false, .bool false, .bool false, .bool false, .bool false, .int .i64 0, .int .i64 0, .int .i64 0, .int .i64 0, .int .i64 0, .string { data := #[] }, .string { data := #[] }, .string { data := #[] }, .string { data := #[] }] #[.bool X.hs, .bool X.hf, .bool X.hu, .bool X.hb, .bool X.hp, .int .i64 X.sz, .int .i64 X.fo, .int .i64 X.un, .int .i64 X.by_, .int .i64 X.pr, .string (mkS X.body), .string (mkS X.ret), .string (mkS X.env), .string (mkS X.mode)] #[.bool X.hs, .bool X.hf, .bool X.hu, .bool X.hb, .bool X.hp, .int .i64 X.sz, .int .i64 X.fo, .int .i64 X.un, .int .i64 X.by_, .int .i64 X.pr, .string (mkS X.body), .string (mkS X.ret), .string (mkS X.env), .string (mkS X.mode)] rfl rfl (newOf w4 _) (by kernel_rfl) (by kernel_rfl) (Nat.le_of_eq rfl) (whole0 _ _ rfl) ?_; intro w5 hB2 hA2; have KM := Lib.hid (BX.fresh KP'.out.below hB2 hA2); have KP := Lib.hid (KP'.out.sto hA2); clear hB2 hA2 KP') | fail)
  generalize w4.heap.size = bM at KM ltPM ⊢
  refine (HQ.out _ (HN.out _ KP.out.below)).mono ?_
  rintro e w6 ⟨rfl, hb⟩
  have KP' := Lib.hid (KP.out.next hb)
  have KM' := Lib.hid (KM.out.next hb)
  clear hb KP KM HQ
  have ltPR := ltOf KP'.out.box
  have ltMR := ltOf KM'.out.box
  go_wp2_with (first | (refine wpList_store_blk rfl 29 _ _ rfl w6.heap.size 0 29 #[.string { data := #[] }, .string { data := #[] }, .string { data := #[] }] #[.string (mkS Y.no), .string (mkS Y.kind), .string (mkS Y.oc)] #[.string (mkS Y.no), .string (mkS Y.kind), .string (mkS Y.oc)] rfl rfl (newOf w6 _) (by kernel_rfl) (by kernel_rfl) (Nat.le_of_eq rfl) (whole0 _ _ rfl) ?_; intro w7 hB2 hA2; have KR := Lib.hid (BX.fresh KP'.out.below hB2 hA2); have KP := Lib.hid (KP'.out.sto hA2); have KM := Lib.hid (KM'.out.sto hA2); clear hB2 hA2 KP' KM') | fail)
  generalize w6.heap.size = bR at KR ltPR ltMR ⊢
  refine (HX.out _ (HR.out _ KP.out.below) (HN.out _ KP.out.below)).mono ?_
  rintro e w8 ⟨rfl, hb⟩
  have KP' := Lib.hid (KP.out.next hb)
  have KM' := Lib.hid (KM.out.next hb)
  have KR' := Lib.hid (KR.out.next hb)
  clear hb KP KM KR HX
  have ltPX := ltOf KP'.out.box
  have ltMX := ltOf KM'.out.box
  have ltRX := ltOf KR'.out.box
  go_wp2_with (first | (refine wpList_store_blk rfl 31 _ _ rfl w8.heap.size 0 31 (CC zeroC) (CC cx) (CC cx) rfl rfl (newOf w8 _) size_cmd (one_CC _) (Nat.le_of_eq rfl) (whole_CC zeroC _) ?_; intro w9 hB2 hA2; have KX := Lib.hid (BX.fresh KP'.out.below hB2 hA2); have KP := Lib.hid (KP'.out.sto hA2); have KM := Lib.hid (KM'.out.sto hA2); have KR := Lib.hid (KR'.out.sto hA2); clear hB2 hA2 KP' KM' KR') | fail)
  generalize w8.heap.size = bX at KX ltPX ltMX ltRX ⊢
  refine (HY.out _ (HR.out _ KP.out.below) (HN.out _ KP.out.below)).mono ?_
  rintro e w10 ⟨rfl, hb⟩
  have KP' := Lib.hid (KP.out.next hb)
  have KM' := Lib.hid (KM.out.next hb)
  have KR' := Lib.hid (KR.out.next hb)
  have KX' := Lib.hid (KX.out.next hb)
  clear hb KP KM KR KX HY
  have q2 : p.2.isEmpty = (p.2 == []) := by cases p.2 <;> rfl
  have q1' : p.1.isEmpty = (p.1 == []) := by cases p.1 <;> rfl
  have hT1 := mkS_toList p.1
  have hT2 := mkS_toList p.2
  have HNU := Lib.hid (fun w => P.null_x p w)
  have HHO := Lib.hid (show hostlB p = (p.1 != [] && p.2 == []) from rfl)
  have HNO := Lib.hid (show P.nullB p = (p.1 == [] && p.2 == []) from rfl)
  have hep : ∀ w, (Op.equalIn 10000 23 (.agg #[.string (mkS p.1), .string (mkS p.2)]) (.agg #[.string (mkS p.1), .string (mkS p.2)])).run Tryz.prog w = .ok true w := fun w => (P.eqP p p w).trans (by simp)
  have hem : ∀ w, (Op.equalIn 10000 27 (.agg #[.bool X.hs, .bool X.hf, .bool X.hu, .bool X.hb, .bool X.hp, .int .i64 X.sz, .int .i64 X.fo, .int .i64 X.un, .int .i64 X.by_, .int .i64 X.pr, .string (mkS X.body), .string (mkS X.ret), .string (mkS X.env), .string (mkS X.mode)]) (.agg #[.bool X.hs, .bool X.hf, .bool X.hu, .bool X.hb, .bool X.hp, .int .i64 X.sz, .int .i64 X.fo, .int .i64 X.un, .int .i64 X.by_, .int .i64 X.pr, .string (mkS X.body), .string (mkS X.ret), .string (mkS X.env), .string (mkS X.mode)])).run Tryz.prog w = .ok true w := fun w => (eqMail X X w).trans (by rw [eqML_iff.2 rfl])
  have her : ∀ w, (Op.equalIn 10000 29 (.agg #[.string (mkS Y.no), .string (mkS Y.kind), .string (mkS Y.oc)]) (.agg #[.string (mkS Y.no), .string (mkS Y.kind), .string (mkS Y.oc)])).run Tryz.prog w = .ok true w := fun w => (eqRcpt Y Y w).trans (by rw [eqRL_iff.2 rfl])
  have hez : ∀ w, (Op.equalIn 10000 31 (.agg #[.string { data := #[] }, .string { data := #[] }, .string { data := #[] }, .string { data := #[] }, .bool false, .bool false, .bool false, .bool false, .bool false, .int .i64 0, .int .i64 0, .int .i64 0, .int .i64 0, .int .i64 0, .string { data := #[] }, .string { data := #[] }, .string { data := #[] }, .string { data := #[] }, .string { data := #[] }, .string { data := #[] }, .string { data := #[] }]) (.agg #[.string { data := #[] }, .string { data := #[] }, .string { data := #[] }, .string { data := #[] }, .bool false, .bool false, .bool false, .bool false, .bool false, .int .i64 0, .int .i64 0, .int .i64 0, .int .i64 0, .int .i64 0, .string { data := #[] }, .string { data := #[] }, .string { data := #[] }, .string { data := #[] }, .string { data := #[] }, .string { data := #[] }, .string { data := #[] }])).run Tryz.prog w = .ok true w := fun w => (eqCmd zeroC zeroC w).trans (by rw [eqCL_iff.2 rfl])
  have ltPY := ltOf KP'.out.box
  have ltMY := ltOf KM'.out.box
  have ltRY := ltOf KR'.out.box
  have ltXY := ltOf KX'.out.box
  have h2 := h2H.out
  have HO := Lib.hid (show hostlB p = false by rw [HHO.out, h2, Bool.and_false])
  have HNO1 := Lib.hid (show P.nullB p = false by rw [HNO.out, h2, Bool.and_false])
  have hx := HXX.out
  have hy := HYY.out
  rw [HO.out, if_neg (by decide)] at hx
  rw [HNO1.out, if_neg (by decide)] at hy
  have HX1 := Lib.hid hx
  have HY1 := Lib.hid hy
  rw [h2] at q2
  clear h2 h2H HO HHO HNO HXX HYY hx hy
  go_wp2_with (first | (refine is_store rfl ?_; (refine wpList_store_blk rfl 31 _ _ rfl w10.heap.size 0 31 (CC zeroC) (CC cy) (CC cy) rfl rfl (newOf w10 _) size_cmd (one_CC _) (Nat.le_of_eq rfl) (whole_CC zeroC _) ?_; intro w11 hB2 hA2; have KY := Lib.hid (BX.fresh KP'.out.below hB2 hA2); have KP := Lib.hid (KP'.out.sto hA2); have KM := Lib.hid (KM'.out.sto hA2); have KR := Lib.hid (KR'.out.sto hA2); have KX := Lib.hid (KX'.out.sto hA2); have c0 : w11.cell? ⟨bP, 0, none⟩ = some (.string (mkS p.1)) := cellOf KP.out.box 0; have c1 : w11.cell? ⟨bP, 1, none⟩ = some (.string (mkS p.2)) := cellOf KP.out.box 1; clear hB2 hA2 KP' KM' KR' KX')) | fail)
  generalize w10.heap.size = bY at KY ltPY ltMY ltRY ltXY ⊢
  refine (HNU.out _).mono ?_
  rintro e w13 ⟨rfl, hb⟩
  have KPn := Lib.hid (KP.out.next hb)
  have KMn := Lib.hid (KM.out.next hb)
  have KRn := Lib.hid (KR.out.next hb)
  have KXn := Lib.hid (KX.out.next hb)
  have KYn := Lib.hid (KY.out.next hb)
  clear hb c0 c1 KP KM KR KX KY
  rw [HNO1.out]
  clear HNO1 HNU
  go_upto_region 18 with fail
  clear ltPM ltPR ltMR ltPX ltMX ltRX ltPY ltMY ltRY ltXY
  have HBe := Lib.hid KPn.out.below
  have VP := Lib.hid (loadVar_blk (P := Tryz.prog) (ty := 23) (o := 0) (vs := #[.string (mkS p.1), .string (mkS p.2)]) KPn.out.box Tryz.underlying23 rfl (by kernel_rfl) (at0 _))
  have VM := Lib.hid (loadVar_blk (P := Tryz.prog) (ty := 27) (o := 0) (vs := #[.bool X.hs, .bool X.hf, .bool X.hu, .bool X.hb, .bool X.hp, .int .i64 X.sz, .int .i64 X.fo, .int .i64 X.un, .int .i64 X.by_, .int .i64 X.pr, .string (mkS X.body), .string (mkS X.ret), .string (mkS X.env), .string (mkS X.mode)]) KMn.out.box Tryz.underlying27 rfl (by kernel_rfl) (at0 _))
  have VR := Lib.hid (loadVar_blk (P := Tryz.prog) (ty := 29) (o := 0) (vs := #[.string (mkS Y.no), .string (mkS Y.kind), .string (mkS Y.oc)]) KRn.out.box Tryz.underlying29 rfl (by kernel_rfl) (at0 _))
  have KXq := KXn
  have KYq := KYn
  clear KPn KMn KRn KXn KYn
  have hx := HX1.out
  have hy := HY1.out
  clear HX1 HY1
  by_cases hem0 : em = 0
  · subst hem0
    rw [if_pos rfl] at hx
    obtain ⟨rfl, rfl⟩ := hx
    by_cases her0 : er = 0
    · subst her0
      rw [if_pos rfl] at hy
      obtain ⟨rfl, rfl⟩ := hy
      have VXP := Lib.hid (loadVar_blk (P := Tryz.prog) (ty := 23) (o := 2) (vs := #[.string (mkS p.1), .string (mkS p.2)]) KXq.out.box Tryz.underlying23 rfl (by kernel_rfl) (KB.atp { headC vMAIL with p := p, m := X }))
      have VXM := Lib.hid (loadVar_blk (P := Tryz.prog) (ty := 27) (o := 4) (vs := #[.bool X.hs, .bool X.hf, .bool X.hu, .bool X.hb, .bool X.hp, .int .i64 X.sz, .int .i64 X.fo, .int .i64 X.un, .int .i64 X.by_, .int .i64 X.pr, .string (mkS X.body), .string (mkS X.ret), .string (mkS X.env), .string (mkS X.mode)]) KXq.out.box Tryz.underlying27 rfl (by kernel_rfl) (KB.atm { headC vMAIL with p := p, m := X }))
      have VYP := Lib.hid (loadVar_blk (P := Tryz.prog) (ty := 23) (o := 2) (vs := #[.string (mkS p.1), .string (mkS p.2)]) KYq.out.box Tryz.underlying23 rfl (by kernel_rfl) (KB.atp { headC vRCPT with p := p, r := Y }))
      have VYR := Lib.hid (loadVar_blk (P := Tryz.prog) (ty := 29) (o := 18) (vs := #[.string (mkS Y.no), .string (mkS Y.kind), .string (mkS Y.oc)]) KYq.out.box Tryz.underlying29 rfl (by kernel_rfl) (KB.atr { headC vRCPT with p := p, r := Y }))
      clear KXq KYq
      go_wp2_with (first | ((with_reducible refine is_load (ty := 23) (x := .tmp 102) rfl ?_); refine load_v 23 (.tmp 102) rfl bX 2 rfl ?_ _ VXP.out ?_; (focus (first | rfl | (go_simp; done)))) | ((with_reducible refine is_load (ty := 27) (x := .tmp 107) rfl ?_); refine load_v 27 (.tmp 107) rfl bX 4 rfl ?_ _ VXM.out ?_; (focus (first | rfl | (go_simp; done)))) | ((with_reducible refine is_load (ty := 27) (x := .tmp 8) rfl ?_); refine load_v 27 (.tmp 8) rfl bM 0 rfl ?_ _ VM.out ?_; (focus (first | rfl | (go_simp; done)))) | ((with_reducible refine is_load (ty := 23) (x := .tmp 118) rfl ?_); refine load_v 23 (.tmp 118) rfl bY 2 rfl ?_ _ VYP.out ?_; (focus (first | rfl | (go_simp; done)))) | ((with_reducible refine is_load (ty := 29) (x := .tmp 123) rfl ?_); refine load_v 29 (.tmp 123) rfl bY 18 rfl ?_ _ VYR.out ?_; (focus (first | rfl | (go_simp; done)))) | ((with_reducible refine is_load (ty := 29) (x := .tmp 10) rfl ?_); refine load_v 29 (.tmp 10) rfl bR 0 rfl ?_ _ VR.out ?_; (focus (first | rfl | (go_simp; done)))) | ((with_reducible refine is_load (ty := 23) (x := .tmp 5) rfl ?_); refine load_v 23 (.tmp 5) rfl bP 0 rfl ?_ _ VP.out ?_; (focus (first | rfl | (go_simp; done)))) | fail)
      go_ret
      exact ⟨rfl, HBe.out⟩
    · rw [if_neg her0] at hy
      have dr1 : (er == 0) = false := beq_eq_false_iff_ne.2 her0
      have dr2 : (er != 0) = true := bne_iff_ne.2 her0
      clear her0
      obtain ⟨rfl, rfl⟩ := hy
      have VXP := Lib.hid (loadVar_blk (P := Tryz.prog) (ty := 23) (o := 2) (vs := #[.string (mkS p.1), .string (mkS p.2)]) KXq.out.box Tryz.underlying23 rfl (by kernel_rfl) (KB.atp { headC vMAIL with p := p, m := X }))
      have VXM := Lib.hid (loadVar_blk (P := Tryz.prog) (ty := 27) (o := 4) (vs := #[.bool X.hs, .bool X.hf, .bool X.hu, .bool X.hb, .bool X.hp, .int .i64 X.sz, .int .i64 X.fo, .int .i64 X.un, .int .i64 X.by_, .int .i64 X.pr, .string (mkS X.body), .string (mkS X.ret), .string (mkS X.env), .string (mkS X.mode)]) KXq.out.box Tryz.underlying27 rfl (by kernel_rfl) (KB.atm { headC vMAIL with p := p, m := X }))
      have VYC := Lib.hid (loadVar_blk (P := Tryz.prog) (ty := 31) (o := 0) (vs := #[.string { data := #[] }, .string { data := #[] }, .string { data := #[] }, .string { data := #[] }, .bool false, .bool false, .bool false, .bool false, .bool false, .int .i64 0, .int .i64 0, .int .i64 0, .int .i64 0, .int .i64 0, .string { data := #[] }, .string { data := #[] }, .string { data := #[] }, .string { data := #[] }, .string { data := #[] }, .string { data := #[] }, .string { data := #[] }]) KYq.out.box Tryz.underlying31 rfl (by kernel_rfl) (atc zeroC))
      clear KXq KYq
      go_wp2_with (first | ((with_reducible refine is_load (ty := 23) (x := .tmp 102) rfl ?_); refine load_v 23 (.tmp 102) rfl bX 2 rfl ?_ _ VXP.out ?_; (focus (first | rfl | (go_simp; done)))) | ((with_reducible refine is_load (ty := 27) (x := .tmp 107) rfl ?_); refine load_v 27 (.tmp 107) rfl bX 4 rfl ?_ _ VXM.out ?_; (focus (first | rfl | (go_simp; done)))) | ((with_reducible refine is_load (ty := 27) (x := .tmp 8) rfl ?_); refine load_v 27 (.tmp 8) rfl bM 0 rfl ?_ _ VM.out ?_; (focus (first | rfl | (go_simp; done)))) | ((with_reducible refine is_load (ty := 31) (x := .tmp 14) rfl ?_); refine load_v 31 (.tmp 14) rfl bY 0 rfl ?_ _ VYC.out ?_; (focus (first | rfl | (go_simp; done)))) | ((with_reducible refine is_load (ty := 23) (x := .tmp 5) rfl ?_); refine load_v 23 (.tmp 5) rfl bP 0 rfl ?_ _ VP.out ?_; (focus (first | rfl | (go_simp; done)))) | fail)
      go_ret
      exact ⟨rfl, HBe.out⟩
  · rw [if_neg hem0] at hx
    have dm1 : (em == 0) = false := beq_eq_false_iff_ne.2 hem0
    have dm2 : (em != 0) = true := bne_iff_ne.2 hem0
    clear hem0
    obtain ⟨rfl, rfl⟩ := hx
    by_cases her0 : er = 0
    · subst her0
      rw [if_pos rfl] at hy
      obtain ⟨rfl, rfl⟩ := hy
      have VXC := Lib.hid (loadVar_blk (P := Tryz.prog) (ty := 31) (o := 0) (vs := #[.string { data := #[] }, .string { data := #[] }, .string { data := #[] }, .string { data := #[] }, .bool false, .bool false, .bool false, .bool false, .bool false, .int .i64 0, .int .i64 0, .int .i64 0, .int .i64 0, .int .i64 0, .string { data := #[] }, .string { data := #[] }, .string { data := #[] }, .string { data := #[] }, .string { data := #[] }, .string { data := #[] }, .string { data := #[] }]) KXq.out.box Tryz.underlying31 rfl (by kernel_rfl) (atc zeroC))
      have VYP := Lib.hid (loadVar_blk (P := Tryz.prog) (ty := 23) (o := 2) (vs := #[.string (mkS p.1), .string (mkS p.2)]) KYq.out.box Tryz.underlying23 rfl (by kernel_rfl) (KB.atp { headC vRCPT with p := p, r := Y }))
      have VYR := Lib.hid (loadVar_blk (P := Tryz.prog) (ty := 29) (o := 18) (vs := #[.string (mkS Y.no), .string (mkS Y.kind), .string (mkS Y.oc)]) KYq.out.box Tryz.underlying29 rfl (by kernel_rfl) (KB.atr { headC vRCPT with p := p, r := Y }))
      clear KXq KYq
      go_wp2_with (first | ((with_reducible refine is_load (ty := 31) (x := .tmp 12) rfl ?_); refine load_v 31 (.tmp 12) rfl bX 0 rfl ?_ _ VXC.out ?_; (focus (first | rfl | (go_simp; done)))) | ((with_reducible refine is_load (ty := 23) (x := .tmp 118) rfl ?_); refine load_v 23 (.tmp 118) rfl bY 2 rfl ?_ _ VYP.out ?_; (focus (first | rfl | (go_simp; done)))) | ((with_reducible refine is_load (ty := 29) (x := .tmp 123) rfl ?_); refine load_v 29 (.tmp 123) rfl bY 18 rfl ?_ _ VYR.out ?_; (focus (first | rfl | (go_simp; done)))) | ((with_reducible refine is_load (ty := 29) (x := .tmp 10) rfl ?_); refine load_v 29 (.tmp 10) rfl bR 0 rfl ?_ _ VR.out ?_; (focus (first | rfl | (go_simp; done)))) | ((with_reducible refine is_load (ty := 23) (x := .tmp 5) rfl ?_); refine load_v 23 (.tmp 5) rfl bP 0 rfl ?_ _ VP.out ?_; (focus (first | rfl | (go_simp; done)))) | fail)
      go_ret
      exact ⟨rfl, HBe.out⟩
    · rw [if_neg her0] at hy
      have dr1 : (er == 0) = false := beq_eq_false_iff_ne.2 her0
      have dr2 : (er != 0) = true := bne_iff_ne.2 her0
      clear her0
      obtain ⟨rfl, rfl⟩ := hy
      have VXC := Lib.hid (loadVar_blk (P := Tryz.prog) (ty := 31) (o := 0) (vs := #[.string { data := #[] }, .string { data := #[] }, .string { data := #[] }, .string { data := #[] }, .bool false, .bool false, .bool false, .bool false, .bool false, .int .i64 0, .int .i64 0, .int .i64 0, .int .i64 0, .int .i64 0, .string { data := #[] }, .string { data := #[] }, .string { data := #[] }, .string { data := #[] }, .string { data := #[] }, .string { data := #[] }, .string { data := #[] }]) KXq.out.box Tryz.underlying31 rfl (by kernel_rfl) (atc zeroC))
      have VYC := Lib.hid (loadVar_blk (P := Tryz.prog) (ty := 31) (o := 0) (vs := #[.string { data := #[] }, .string { data := #[] }, .string { data := #[] }, .string { data := #[] }, .bool false, .bool false, .bool false, .bool false, .bool false, .int .i64 0, .int .i64 0, .int .i64 0, .int .i64 0, .int .i64 0, .string { data := #[] }, .string { data := #[] }, .string { data := #[] }, .string { data := #[] }, .string { data := #[] }, .string { data := #[] }, .string { data := #[] }]) KYq.out.box Tryz.underlying31 rfl (by kernel_rfl) (atc zeroC))
      clear KXq KYq
      go_wp2_with (first | ((with_reducible refine is_load (ty := 31) (x := .tmp 12) rfl ?_); refine load_v 31 (.tmp 12) rfl bX 0 rfl ?_ _ VXC.out ?_; (focus (first | rfl | (go_simp; done)))) | ((with_reducible refine is_load (ty := 31) (x := .tmp 14) rfl ?_); refine load_v 31 (.tmp 14) rfl bY 0 rfl ?_ _ VYC.out ?_; (focus (first | rfl | (go_simp; done)))) | fail)
      go_ret
      exact ⟨rfl, HBe.out⟩
end Go.Proofs.YtgkjbminokgddaaGreatDoor.PN
/-
  The walk of the law CommandParts, some of its cases.
-/
namespace Go.Proofs.YtgkjbminokgddaaGreatDoor.PH
set_option maxRecDepth 100000
open Go.RowKit Go.Shelf
/-- A block that was made behind W; nothing that lay ahead of W has turned. -/
structure BX (W : World) (b : Nat) (o : Obj) (w : World) : Prop where
  box : w.heap[b]? = some o
  below : Below W.heap.size W w
  new : W.heap.size ≤ b
theorem BX.next {W w w' : World} {b : Nat} {o : Obj} (h : BX W b o w) (hb : Below w.heap.size w w') : BX W b o w' := ⟨(hb.block _ (ltOf h.box)).trans h.box, below_next h.below hb, h.new⟩
theorem BX.sto {W w w' : World} {b : Nat} {o z : Obj} (h : BX W b o w) (hA : Apart w.heap.size (w.alloc z).heap.size (w.alloc z) w') : BX W b o w' :=
  ⟨(hA.block b (by have := ltOf h.box; simp; omega) (by have := ltOf h.box; omega)).trans (old_alloc h.box), below_sto h.below hA, h.new⟩
theorem BX.fresh {W w w' : World} {o z : Obj} (h : Below W.heap.size W w) (hb : w'.heap[w.heap.size]? = some o) (hA : Apart w.heap.size (w.alloc z).heap.size (w.alloc z) w') : BX W w.heap.size o w' := ⟨hb, below_sto h hA, h.size⟩
theorem BX.apart {W w w' : World} {b b' : Nat} {o : Obj} (h : BX W b o w) (hn : W.heap.size ≤ b') (hA : Apart b' w.heap.size w w') (hne : b ≠ b') : BX W b o w' :=
  ⟨(hA.block b (ltOf h.box) hne).trans h.box, h.below.trans (hA.below h.below.size hn), h.new⟩
theorem BX.told {W w w' : World} {b : Nat} {o o' : Obj} (h : BX W b o w) (hA : Apart b w.heap.size w w') (hb : w'.heap[b]? = some o') : BX W b o' w' := ⟨hb, h.below.trans (hA.below h.below.size h.new), h.new⟩
/-- The same load, its operation looked at first. -/
theorem load_w {P : Program} {ops : Array Oper} {rest : List Oper} {op : Oper} {a : Act} {w : World} {Q : Exit → Act → World → Prop} (ty : TypeId) (x : Operand) (ho : op.op = .load ty x) (b o : Nat) (hx : a.eval x = .pointer (some ⟨b, o, none⟩)) (hw : Region.wanted op (yielded ops a.tmps) = true) (t : TypeId) (cs vs : Array Value) (d : TypeDesc) (hb : w.heap[b]? = some (.cells cs t (0, 0)))
    (hu : P.underlying ty = some d) (hd : d.isRow = true) (hi : (P.info? ty).map (·.size) = some vs.size) (hc : ∀ j, j < vs.size → cs[o + j]? = vs[j]?)
    (h : wpList P ops Q rest (a.put op.dst (.agg vs)) w) : wpList P ops Q (op :: rest) a w := wpList_load_want hw ty x ho b o t cs vs d hx hb hu hd hi hc h
theorem is_load {P : Program} {ops : Array Oper} {rest : List Oper} {op : Oper} {a : Act} {w : World} {Q : Exit → Act → World → Prop} {ty : TypeId} {x : Operand} (_ : op.op = .load ty x) (h : wpList P ops Q (op :: rest) a w) : wpList P ops Q (op :: rest) a w := h
theorem is_store {P : Program} {ops : Array Oper} {rest : List Oper} {op : Oper} {a : Act} {w : World} {Q : Exit → Act → World → Prop} {ty : TypeId} {x y : Operand} (_ : op.op = .store ty x y) (h : wpList P ops Q (op :: rest) a w) : wpList P ops Q (op :: rest) a w := h
theorem atc (c : CL) : ∀ j, j < (CC c).size → (CC c)[0 + j]? = (CC c)[j]? := fun j _ => by rw [Nat.zero_add]
theorem load_v {P : Program} {ops : Array Oper} {rest : List Oper} {op : Oper} {a : Act} {w : World} {Q : Exit → Act → World → Prop} (ty : TypeId) (x : Operand) (ho : op.op = .load ty x) (b o : Nat) (hx : a.eval x = .pointer (some ⟨b, o, none⟩)) (hw : Region.wanted op (yielded ops a.tmps) = true) (v : Value) (hv : (loadVar ty ⟨b, o, none⟩).run P w = .ok v w)
    (h : wpList P ops Q rest (a.put op.dst v) w) : wpList P ops Q (op :: rest) a w := by
  refine wpList_step fun K hK => ?_
  rw [if_pos hw]
  unfold Oper.wp execOp
  simp only [ho, hx, Instr.loadAt, Instr.sureAddr, Sem.run_bind, Sem.run_pure, Result.andThen_ok, hv]
  exact hK _ _ h
theorem at0 (vs : Array Value) : ∀ j, j < vs.size → vs[0 + j]? = vs[j]? := fun j _ => by rw [Nat.zero_add]
theorem whole0 (cs vs : Array Value) (h : cs.size = vs.size) : vs = (cs.toList.take 0 ++ vs.toList ++ cs.toList.drop (0 + vs.size)).toArray := by
  rw [List.take_zero, List.nil_append, List.drop_of_length_le (by simp; omega), List.append_nil]
set_option maxHeartbeats 32000000 in
theorem commandParts_H (wh words : Txt) (w : World) (hR : Ready w) (hN : NotR w) (hz1 : wh.length ≤ 140737488355328) (hz2 : words.length ≤ 140737488355328) (h2 : ((P.parseV wh).1.2 == []) = true) (h1 : ((P.parseV wh).1.1 == []) = false) :
    Calls Tryz.prog 4 #[.string (mkS wh), .string (mkS words)] w fun e w' => e = .returned (.bool true) ∧ Below w.heap.size w w' := by
  have h2H := Lib.hid h2
  clear h2
  have h1H := Lib.hid h1
  clear h1
  have HA := Lib.hid (awake_x w hR hN)
  have HR := Lib.hid (fun w' (h : Below w.heap.size w w') => hR.below h)
  have HN := Lib.hid (fun w' (h : Below w.heap.size w w') => hN.below h)
  have z1 := mkS_size wh
  have z2 := mkS_size words
  have hTw := mkS_toList words
  clear hR hN
  go_enter Tryz.func4, Tryz.ntmps4
  go_wp2_with fail
  refine HA.out.mono ?_
  rintro e w1 ⟨rfl, hb⟩
  have HB := Lib.hid hb
  clear hb HA
  by_cases hl1 : 1500 < wh.length
  · have hlI : (1500 : Int) < (wh.length : Int) := by omega
    go_wp2_with fail
    go_ret
    exact ⟨rfl, HB.out⟩
  have hl1I : ¬ (1500 : Int) < (wh.length : Int) := by omega
  by_cases hl2 : 1500 < words.length
  · have hlI : (1500 : Int) < (words.length : Int) := by omega
    go_wp2_with fail
    go_ret
    exact ⟨rfl, HB.out⟩
  have hl2I : ¬ (1500 : Int) < (words.length : Int) := by omega
  by_cases hn : words = []
  · subst hn
    have e0 : (mkS ([] : Txt)).toList = [] := hTw
    go_wp2_with fail
    go_ret
    exact ⟨rfl, HB.out⟩
  obtain ⟨l0, x, hwx⟩ : ∃ (l0 : Txt) (x : UInt8), words = l0 ++ [x] := ⟨words.dropLast, words.getLast hn, (List.dropLast_concat_getLast hn).symm⟩
  have hnl : words.length = l0.length + 1 := by rw [hwx]; simp
  have e1 : words.isEmpty = false := by cases words <;> first | exact absurd rfl hn | rfl
  have hsz : (mkS words).size = l0.length + 1 := by rw [z2, hnl]
  have hxx : (mkS words)[l0.length]'(by omega) = x := mkS_get _ (by rw [hwx]; simp)
  have hq1 : IntKind.i64.wrap ((words.length : Int) - 1) = (l0.length : Int) := by rw [hnl]; rw [IntWalk.i64_in _ (by omega)]; omega
  by_cases hx32 : x.toNat = 32
  · have d32 : (x.toNat : Int) = 32 := by omega
    clear hwx hn
    go_wp2_with fail
    go_ret
    exact ⟨rfl, HB.out⟩
  have hlast : words.getLast? ≠ some 32 := by rw [hwx, List.getLast?_concat]; intro h; injection h with h; exact hx32 (by rw [h]; rfl)
  have dx : ¬ (x.toNat : Int) = 32 := by omega
  clear hwx
  have hl3I : ¬ (1500 : Int) < (l0.length : Int) + 1 := by omega
  have dx2 : ((x.toNat : Int) == 32) = false := beq_eq_false_iff_ne.2 dx
  have HP := Lib.hid (fun w => P.parse_x wh w (by omega))
  unfold P.PaPost at HP
  have HPP := Lib.hid (show (P.parseV wh).2.2 = 0 → (P.parseV wh).2.1 = [] → P.parseV wh = ((P.parseV wh).1, [], 0) from fun h1 h2 => Prod.ext rfl (Prod.ext h2 h1))
  have HCM := Lib.hid (fun (p : P.Pth) (h : P.parseV wh = (p, [], 0)) => cp_mail h hn hlast)
  have HCR := Lib.hid (fun (p : P.Pth) (h : P.parseV wh = (p, [], 0)) => cp_rcpt h hn hlast)
  have HM := Lib.hid (fun w h => parseM_x words w (by omega) h)
  have HQ := Lib.hid (fun w h => parseR_x words w (by omega) h)
  unfold MailPost mCells at HM
  unfold RcptPost at HQ
  have l1 : (vMAIL ++ (hFROM ++ wh ++ 32 :: words)).length ≤ 100000 := by simp [vMAIL, hFROM]; omega
  have l2 : (vRCPT ++ (hTO ++ wh ++ 32 :: words)).length ≤ 100000 := by simp [vRCPT, hTO]; omega
  have HX := Lib.hid (fun w hR hN => cparse_x (vMAIL ++ (hFROM ++ wh ++ 32 :: words)) w l1 hR hN)
  have HY := Lib.hid (fun w hR hN => cparse_x (vRCPT ++ (hTO ++ wh ++ 32 :: words)) w l2 hR hN)
  unfold CpPost at HX HY
  have a1 : ({ data := #[77, 65, 73, 76, 32, 70, 82, 79, 77, 58] } : ByteArray) ++ mkS wh = mkS (vMAIL ++ (hFROM ++ wh)) := mkS_cat [77, 65, 73, 76, 32, 70, 82, 79, 77, 58] wh
  have a2 : mkS (vMAIL ++ (hFROM ++ wh)) ++ { data := #[32] } = mkS (vMAIL ++ (hFROM ++ wh) ++ [32]) := mkS_cat _ [32]
  have a3 : mkS (vMAIL ++ (hFROM ++ wh) ++ [32]) ++ mkS words = mkS (vMAIL ++ (hFROM ++ wh ++ 32 :: words)) := by rw [mkS_cat]; congr 1; simp
  have b1 : ({ data := #[82, 67, 80, 84, 32, 84, 79, 58] } : ByteArray) ++ mkS wh = mkS (vRCPT ++ (hTO ++ wh)) := mkS_cat [82, 67, 80, 84, 32, 84, 79, 58] wh
  have b2 : mkS (vRCPT ++ (hTO ++ wh)) ++ { data := #[32] } = mkS (vRCPT ++ (hTO ++ wh) ++ [32]) := mkS_cat _ [32]
  have b3 : mkS (vRCPT ++ (hTO ++ wh) ++ [32]) ++ mkS words = mkS (vRCPT ++ (hTO ++ wh ++ 32 :: words)) := by rw [mkS_cat]; congr 1; simp
  have s1 : (mkS (vMAIL ++ (hFROM ++ wh))).size = 10 + wh.length := by rw [mkS_size]; simp [vMAIL, hFROM]; omega
  have s2 : (mkS (vMAIL ++ (hFROM ++ wh) ++ [32])).size = 11 + wh.length := by rw [mkS_size]; simp [vMAIL, hFROM]; omega
  have s3 : (mkS (vRCPT ++ (hTO ++ wh))).size = 8 + wh.length := by rw [mkS_size]; simp [vRCPT, hTO]; omega
  have s4 : (mkS (vRCPT ++ (hTO ++ wh) ++ [32])).size = 9 + wh.length := by rw [mkS_size]; simp [vRCPT, hTO]; omega
  have y0 : ¬ 9223372036854775807 < 10 + (mkS wh).size := by omega
  have y1 : ¬ 9223372036854775807 < 10 + wh.length := by omega
  have y2 : ¬ 9223372036854775807 < 10 + wh.length + 1 := by omega
  have y3 : ¬ 9223372036854775807 < 11 + (mkS words).size := by omega
  have y4 : ¬ 9223372036854775807 < 11 + words.length := by omega
  have y5 : ¬ 9223372036854775807 < 11 + wh.length + (mkS words).size := by omega
  have y6 : ¬ 9223372036854775807 < 11 + wh.length + words.length := by omega
  have y7 : ¬ 9223372036854775807 < 8 + (mkS wh).size := by omega
  have y8 : ¬ 9223372036854775807 < 8 + wh.length := by omega
  have y9 : ¬ 9223372036854775807 < 8 + wh.length + 1 := by omega
  have y10 : ¬ 9223372036854775807 < 9 + wh.length + (mkS words).size := by omega
  have y11 : ¬ 9223372036854775807 < 9 + wh.length + words.length := by omega
  generalize cpE (vMAIL ++ (hFROM ++ wh ++ 32 :: words)) = Ex at HX HCM
  generalize cpV (vMAIL ++ (hFROM ++ wh ++ 32 :: words)) = cx at HX HCM
  generalize cpE (vRCPT ++ (hTO ++ wh ++ 32 :: words)) = Ey at HY HCR
  generalize cpV (vRCPT ++ (hTO ++ wh ++ 32 :: words)) = cy at HY HCR
  generalize vMAIL ++ (hFROM ++ wh ++ 32 :: words) = t1 at HX a3 l1
  generalize vRCPT ++ (hTO ++ wh ++ 32 :: words) = t2 at HY b3 l2
  generalize vMAIL ++ (hFROM ++ wh) ++ [32] = t3 at a2 a3 s2
  generalize vMAIL ++ (hFROM ++ wh) = t4 at a1 a2 s1
  generalize vRCPT ++ (hTO ++ wh) ++ [32] = t5 at b2 b3 s4
  generalize vRCPT ++ (hTO ++ wh) = t6 at b1 b2 s3
  generalize pvM words = X at HM HCM
  generalize peM words = em at HM HCM
  generalize pvR words = Y at HQ HCR
  generalize peR words = er at HQ HCR
  generalize hpv : P.parseV wh = pv at HP HPP HCM HCR h2H h1H
  obtain ⟨p, rs, e0⟩ := pv
  simp only at HP HPP
  have hTr := mkS_toList rs
  have er1 : rs.isEmpty = (rs == []) := by cases rs <;> rfl
  clear hpv l1 l2 hlast hn hz1 hz2
  go_wp2_with fail
  refine (HP.out _).mono ?_
  rintro e w2 ⟨rfl, hb⟩
  have HB2 := Lib.hid (below_next HB.out hb)
  clear hb HB HP
  by_cases he0 : e0 = 0
  rotate_left
  · have d9 : (e0 != 0) = true := bne_iff_ne.2 he0
    clear he0
    have HB3 := Lib.hid (HB2.out.alloc HB2.out.size (.cells #[.string (mkS p.1), .string (mkS p.2)] 23))
    go_wp2_with fail
    go_ret
    exact ⟨rfl, HB3.out⟩
  cases hrs : rs == []
  · rw [hrs] at er1
    have HB3 := Lib.hid (HB2.out.alloc HB2.out.size (.cells #[.string (mkS p.1), .string (mkS p.2)] 23))
    have d9 : (e0 != 0) = false := by rw [he0]; rfl
    clear hrs he0
    go_wp2_with fail
    go_ret
    exact ⟨rfl, HB3.out⟩
  have hrs0 : rs = [] := by simpa using hrs
  subst he0
  subst hrs0
  have HXX := Lib.hid (HCM.out p (HPP.out rfl rfl))
  have HYY := Lib.hid (HCR.out p (HPP.out rfl rfl))
  clear HCM HCR HPP hrs er1
  have e00 : (mkS ([] : Txt)).toList = [] := hTr
  clear hTr
  go_wp2_with (first | (refine wpList_store_blk rfl 23 _ _ rfl w2.heap.size 0 23 #[.string { data := #[] }, .string { data := #[] }] #[.string (mkS p.1), .string (mkS p.2)] #[.string (mkS p.1), .string (mkS p.2)] rfl rfl (newOf w2 _) (by kernel_rfl) (by kernel_rfl) (Nat.le_of_eq rfl) (whole0 _ _ rfl) ?_; intro w3 hB2 hA2; have KP := Lib.hid (BX.fresh HB2.out hB2 hA2); have HB3 := Lib.hid (below_sto HB2.out hA2); clear hB2 hA2) | fail)
  generalize w2.heap.size = bP at KP ⊢
  refine (HM.out _ (HR.out _ KP.out.below)).mono ?_
  rintro e w4 ⟨rfl, hb⟩
  have KP' := Lib.hid (KP.out.next hb)
  clear hb KP HM HB3
  have ltPM := ltOf KP'.out.box
  go_wp2_with (first | (refine wpList_store_blk rfl 27 _ _ rfl w4.heap.size 0 27 #[.bool false, .bool false, .bool false, .bool false, .bool false, .int .i64 0, .int .i64 0, .int .i64 0, .int .i64 0, .int .i64 0, .string { data := #[] }, .string { data := #[] }, .string { data := #[] }, .string { data := #[] }] #[.bool X.hs, .bool X.hf, .bool X.hu, .bool X.hb, .bool X.hp, .int .i64 X.sz, .int .i64 X.fo, .int .i64 X.un, .int .i64 X.by_, .int .i64 X.pr, .string (mkS X.body), .string (mkS X.ret), .string (mkS X.env), .string (mkS X.mode)] #[.bool X.hs, .bool X.hf, .bool X.hu, .bool X.hb, .bool X.hp, .int .i64 X.sz, .int .i64 X.fo, .int .i64 X.un, .int .i64 X.by_, .int .i64 X.pr, .string (mkS X.body), .string (mkS X.ret), .string (mkS X.env), .string (mkS X.mode)] rfl rfl (newOf w4 _) (by kernel_rfl) (by kernel_rfl) (Nat.le_of_eq rfl) (whole0 _ _ rfl) ?_; intro w5 hB2 hA2; have KM := Lib.hid (BX.fresh KP'.out.below hB2 hA2); have KP := Lib.hid (KP'.out.sto hA2); clear hB2 hA2 KP') | fail)
  generalize w4.heap.size = bM at KM ltPM ⊢
  refine (HQ.out _ (HN.out _ KP.out.below)).mono ?_
  rintro e w6 ⟨rfl, hb⟩
  have KP' := Lib.hid (KP.out.next hb)
  have KM' := Lib.hid (KM.out.next hb)
  clear hb KP KM HQ
  have ltPR := ltOf KP'.out.box
  have ltMR := ltOf KM'.out.box
  go_wp2_with (first | (refine wpList_store_blk rfl 29 _ _ rfl w6.heap.size 0 29 #[.string { data := #[] }, .string { data := #[] }, .string { data := #[] }] #[.string (mkS Y.no), .string (mkS Y.kind), .string (mkS Y.oc)] #[.string (mkS Y.no), .string (mkS Y.kind), .string (mkS Y.oc)] rfl rfl (newOf w6 _) (by kernel_rfl) (by kernel_rfl) (Nat.le_of_eq rfl) (whole0 _ _ rfl) ?_; intro w7 hB2 hA2; have KR := Lib.hid (BX.fresh KP'.out.below hB2 hA2); have KP := Lib.hid (KP'.out.sto hA2); have KM := Lib.hid (KM'.out.sto hA2); clear hB2 hA2 KP' KM') | fail)
  generalize w6.heap.size = bR at KR ltPR ltMR ⊢
  refine (HX.out _ (HR.out _ KP.out.below) (HN.out _ KP.out.below)).mono ?_
  rintro e w8 ⟨rfl, hb⟩
  have KP' := Lib.hid (KP.out.next hb)
  have KM' := Lib.hid (KM.out.next hb)
  have KR' := Lib.hid (KR.out.next hb)
  clear hb KP KM KR HX
  have ltPX := ltOf KP'.out.box
  have ltMX := ltOf KM'.out.box
  have ltRX := ltOf KR'.out.box
  go_wp2_with (first | (refine wpList_store_blk rfl 31 _ _ rfl w8.heap.size 0 31 (CC zeroC) (CC cx) (CC cx) rfl rfl (newOf w8 _) size_cmd (one_CC _) (Nat.le_of_eq rfl) (whole_CC zeroC _) ?_; intro w9 hB2 hA2; have KX := Lib.hid (BX.fresh KP'.out.below hB2 hA2); have KP := Lib.hid (KP'.out.sto hA2); have KM := Lib.hid (KM'.out.sto hA2); have KR := Lib.hid (KR'.out.sto hA2); clear hB2 hA2 KP' KM' KR') | fail)
  generalize w8.heap.size = bX at KX ltPX ltMX ltRX ⊢
  refine (HY.out _ (HR.out _ KP.out.below) (HN.out _ KP.out.below)).mono ?_
  rintro e w10 ⟨rfl, hb⟩
  have KP' := Lib.hid (KP.out.next hb)
  have KM' := Lib.hid (KM.out.next hb)
  have KR' := Lib.hid (KR.out.next hb)
  have KX' := Lib.hid (KX.out.next hb)
  clear hb KP KM KR KX HY
  have q2 : p.2.isEmpty = (p.2 == []) := by cases p.2 <;> rfl
  have q1' : p.1.isEmpty = (p.1 == []) := by cases p.1 <;> rfl
  have hT1 := mkS_toList p.1
  have hT2 := mkS_toList p.2
  have HNU := Lib.hid (fun w => P.null_x p w)
  have HHO := Lib.hid (show hostlB p = (p.1 != [] && p.2 == []) from rfl)
  have HNO := Lib.hid (show P.nullB p = (p.1 == [] && p.2 == []) from rfl)
  have hep : ∀ w, (Op.equalIn 10000 23 (.agg #[.string (mkS p.1), .string (mkS p.2)]) (.agg #[.string (mkS p.1), .string (mkS p.2)])).run Tryz.prog w = .ok true w := fun w => (P.eqP p p w).trans (by simp)
  have hem : ∀ w, (Op.equalIn 10000 27 (.agg #[.bool X.hs, .bool X.hf, .bool X.hu, .bool X.hb, .bool X.hp, .int .i64 X.sz, .int .i64 X.fo, .int .i64 X.un, .int .i64 X.by_, .int .i64 X.pr, .string (mkS X.body), .string (mkS X.ret), .string (mkS X.env), .string (mkS X.mode)]) (.agg #[.bool X.hs, .bool X.hf, .bool X.hu, .bool X.hb, .bool X.hp, .int .i64 X.sz, .int .i64 X.fo, .int .i64 X.un, .int .i64 X.by_, .int .i64 X.pr, .string (mkS X.body), .string (mkS X.ret), .string (mkS X.env), .string (mkS X.mode)])).run Tryz.prog w = .ok true w := fun w => (eqMail X X w).trans (by rw [eqML_iff.2 rfl])
  have her : ∀ w, (Op.equalIn 10000 29 (.agg #[.string (mkS Y.no), .string (mkS Y.kind), .string (mkS Y.oc)]) (.agg #[.string (mkS Y.no), .string (mkS Y.kind), .string (mkS Y.oc)])).run Tryz.prog w = .ok true w := fun w => (eqRcpt Y Y w).trans (by rw [eqRL_iff.2 rfl])
  have hez : ∀ w, (Op.equalIn 10000 31 (.agg #[.string { data := #[] }, .string { data := #[] }, .string { data := #[] }, .string { data := #[] }, .bool false, .bool false, .bool false, .bool false, .bool false, .int .i64 0, .int .i64 0, .int .i64 0, .int .i64 0, .int .i64 0, .string { data := #[] }, .string { data := #[] }, .string { data := #[] }, .string { data := #[] }, .string { data := #[] }, .string { data := #[] }, .string { data := #[] }]) (.agg #[.string { data := #[] }, .string { data := #[] }, .string { data := #[] }, .string { data := #[] }, .bool false, .bool false, .bool false, .bool false, .bool false, .int .i64 0, .int .i64 0, .int .i64 0, .int .i64 0, .int .i64 0, .string { data := #[] }, .string { data := #[] }, .string { data := #[] }, .string { data := #[] }, .string { data := #[] }, .string { data := #[] }, .string { data := #[] }])).run Tryz.prog w = .ok true w := fun w => (eqCmd zeroC zeroC w).trans (by rw [eqCL_iff.2 rfl])
  have ltPY := ltOf KP'.out.box
  have ltMY := ltOf KM'.out.box
  have ltRY := ltOf KR'.out.box
  have ltXY := ltOf KX'.out.box
  have h2 := h2H.out
  have h1 := h1H.out
  have HO := Lib.hid (show hostlB p = true by rw [HHO.out, bne, h1, h2]; rfl)
  have HNO1 := Lib.hid (show P.nullB p = false by rw [HNO.out, h1, h2]; rfl)
  have hx := HXX.out
  have hy := HYY.out
  rw [HO.out, if_pos rfl] at hx
  rw [HNO1.out, if_neg (by decide)] at hy
  rw [if_neg (by decide)] at hx
  have HX1 := Lib.hid hx
  have HY1 := Lib.hid hy
  rw [h2] at q2
  rw [h1] at q1'
  clear h2 h2H HO HHO HNO HXX HYY hx hy h1 h1H
  go_upto_region 14 with (first | (refine is_store rfl ?_; (refine wpList_store_blk rfl 31 _ _ rfl w10.heap.size 0 31 (CC zeroC) (CC cy) (CC cy) rfl rfl (newOf w10 _) size_cmd (one_CC _) (Nat.le_of_eq rfl) (whole_CC zeroC _) ?_; intro w11 hB2 hA2; have KY := Lib.hid (BX.fresh KP'.out.below hB2 hA2); have KP := Lib.hid (KP'.out.sto hA2); have KM := Lib.hid (KM'.out.sto hA2); have KR := Lib.hid (KR'.out.sto hA2); have KX := Lib.hid (KX'.out.sto hA2); have c0 : w11.cell? ⟨bP, 0, none⟩ = some (.string (mkS p.1)) := cellOf KP.out.box 0; have c1 : w11.cell? ⟨bP, 1, none⟩ = some (.string (mkS p.2)) := cellOf KP.out.box 1; clear hB2 hA2 KP' KM' KR' KX')) | fail)
  generalize w10.heap.size = bY at KY ltPY ltMY ltRY ltXY ⊢
  go_wp2_with (first | (refine is_store rfl ?_; (refine wpList_store_blk rfl 27 _ _ rfl bM 0 27 #[.bool X.hs, .bool X.hf, .bool X.hu, .bool X.hb, .bool X.hp, .int .i64 X.sz, .int .i64 X.fo, .int .i64 X.un, .int .i64 X.by_, .int .i64 X.pr, .string (mkS X.body), .string (mkS X.ret), .string (mkS X.env), .string (mkS X.mode)] #[.bool false, .bool false, .bool false, .bool false, .bool false, .int .i64 0, .int .i64 0, .int .i64 0, .int .i64 0, .int .i64 0, .string { data := #[] }, .string { data := #[] }, .string { data := #[] }, .string { data := #[] }] #[.bool false, .bool false, .bool false, .bool false, .bool false, .int .i64 0, .int .i64 0, .int .i64 0, .int .i64 0, .int .i64 0, .string { data := #[] }, .string { data := #[] }, .string { data := #[] }, .string { data := #[] }] rfl rfl KM.out.box (by kernel_rfl) (by kernel_rfl) (Nat.le_of_eq rfl) (whole0 _ _ rfl) ?_; intro w12 hB3 hA3; have KPz := Lib.hid (KP.out.apart KM.out.new hA3 (by omega)); have KRz := Lib.hid (KR.out.apart KM.out.new hA3 (by omega)); have KXz := Lib.hid (KX.out.apart KM.out.new hA3 (by omega)); have KYz := Lib.hid (KY.out.apart KM.out.new hA3 (by omega)); have KMz := Lib.hid (KM.out.told hA3 hB3); clear hB3 hA3); clear KP KM KR KX KY c0 c1; have c0 : w12.cell? ⟨bP, 0, none⟩ = some (.string (mkS p.1)) := cellOf KPz.out.box 0; have c1 : w12.cell? ⟨bP, 1, none⟩ = some (.string (mkS p.2)) := cellOf KPz.out.box 1) | fail)
  refine (HNU.out _).mono ?_
  rintro e w13 ⟨rfl, hb⟩
  have KPn := Lib.hid (KPz.out.next hb)
  have KMn := Lib.hid (KMz.out.next hb)
  have KRn := Lib.hid (KRz.out.next hb)
  have KXn := Lib.hid (KXz.out.next hb)
  have KYn := Lib.hid (KYz.out.next hb)
  clear hb c0 c1 KPz KMz KRz KXz KYz
  rw [HNO1.out]
  clear HNO1 HNU
  go_upto_region 18 with fail
  clear ltPM ltPR ltMR ltPX ltMX ltRX ltPY ltMY ltRY ltXY
  have HBe := Lib.hid KPn.out.below
  have VP := Lib.hid (loadVar_blk (P := Tryz.prog) (ty := 23) (o := 0) (vs := #[.string (mkS p.1), .string (mkS p.2)]) KPn.out.box Tryz.underlying23 rfl (by kernel_rfl) (at0 _))
  have VM := Lib.hid (loadVar_blk (P := Tryz.prog) (ty := 27) (o := 0) (vs := #[.bool false, .bool false, .bool false, .bool false, .bool false, .int .i64 0, .int .i64 0, .int .i64 0, .int .i64 0, .int .i64 0, .string { data := #[] }, .string { data := #[] }, .string { data := #[] }, .string { data := #[] }]) KMn.out.box Tryz.underlying27 rfl (by kernel_rfl) (at0 _))
  have VR := Lib.hid (loadVar_blk (P := Tryz.prog) (ty := 29) (o := 0) (vs := #[.string (mkS Y.no), .string (mkS Y.kind), .string (mkS Y.oc)]) KRn.out.box Tryz.underlying29 rfl (by kernel_rfl) (at0 _))
  have KXq := KXn
  have KYq := KYn
  clear KPn KMn KRn KXn KYn
  have hx := HX1.out
  have hy := HY1.out
  clear HX1 HY1
  obtain ⟨rfl, rfl⟩ := hx
  by_cases her0 : er = 0
  · subst her0
    rw [if_pos rfl] at hy
    obtain ⟨rfl, rfl⟩ := hy
    have VXC := Lib.hid (loadVar_blk (P := Tryz.prog) (ty := 31) (o := 0) (vs := #[.string { data := #[] }, .string { data := #[] }, .string { data := #[] }, .string { data := #[] }, .bool false, .bool false, .bool false, .bool false, .bool false, .int .i64 0, .int .i64 0, .int .i64 0, .int .i64 0, .int .i64 0, .string { data := #[] }, .string { data := #[] }, .string { data := #[] }, .string { data := #[] }, .string { data := #[] }, .string { data := #[] }, .string { data := #[] }]) KXq.out.box Tryz.underlying31 rfl (by kernel_rfl) (atc zeroC))
    have VYP := Lib.hid (loadVar_blk (P := Tryz.prog) (ty := 23) (o := 2) (vs := #[.string (mkS p.1), .string (mkS p.2)]) KYq.out.box Tryz.underlying23 rfl (by kernel_rfl) (KB.atp { headC vRCPT with p := p, r := Y }))
    have VYR := Lib.hid (loadVar_blk (P := Tryz.prog) (ty := 29) (o := 18) (vs := #[.string (mkS Y.no), .string (mkS Y.kind), .string (mkS Y.oc)]) KYq.out.box Tryz.underlying29 rfl (by kernel_rfl) (KB.atr { headC vRCPT with p := p, r := Y }))
    clear KXq KYq
    go_wp2_with (first | ((with_reducible refine is_load (ty := 31) (x := .tmp 12) rfl ?_); refine load_v 31 (.tmp 12) rfl bX 0 rfl ?_ _ VXC.out ?_; (focus (first | rfl | (go_simp; done)))) | ((with_reducible refine is_load (ty := 23) (x := .tmp 118) rfl ?_); refine load_v 23 (.tmp 118) rfl bY 2 rfl ?_ _ VYP.out ?_; (focus (first | rfl | (go_simp; done)))) | ((with_reducible refine is_load (ty := 29) (x := .tmp 123) rfl ?_); refine load_v 29 (.tmp 123) rfl bY 18 rfl ?_ _ VYR.out ?_; (focus (first | rfl | (go_simp; done)))) | ((with_reducible refine is_load (ty := 29) (x := .tmp 10) rfl ?_); refine load_v 29 (.tmp 10) rfl bR 0 rfl ?_ _ VR.out ?_; (focus (first | rfl | (go_simp; done)))) | ((with_reducible refine is_load (ty := 23) (x := .tmp 5) rfl ?_); refine load_v 23 (.tmp 5) rfl bP 0 rfl ?_ _ VP.out ?_; (focus (first | rfl | (go_simp; done)))) | fail)
    go_ret
    exact ⟨rfl, HBe.out⟩
  · rw [if_neg her0] at hy
    have dr1 : (er == 0) = false := beq_eq_false_iff_ne.2 her0
    have dr2 : (er != 0) = true := bne_iff_ne.2 her0
    clear her0
    obtain ⟨rfl, rfl⟩ := hy
    have VXC := Lib.hid (loadVar_blk (P := Tryz.prog) (ty := 31) (o := 0) (vs := #[.string { data := #[] }, .string { data := #[] }, .string { data := #[] }, .string { data := #[] }, .bool false, .bool false, .bool false, .bool false, .bool false, .int .i64 0, .int .i64 0, .int .i64 0, .int .i64 0, .int .i64 0, .string { data := #[] }, .string { data := #[] }, .string { data := #[] }, .string { data := #[] }, .string { data := #[] }, .string { data := #[] }, .string { data := #[] }]) KXq.out.box Tryz.underlying31 rfl (by kernel_rfl) (atc zeroC))
    have VYC := Lib.hid (loadVar_blk (P := Tryz.prog) (ty := 31) (o := 0) (vs := #[.string { data := #[] }, .string { data := #[] }, .string { data := #[] }, .string { data := #[] }, .bool false, .bool false, .bool false, .bool false, .bool false, .int .i64 0, .int .i64 0, .int .i64 0, .int .i64 0, .int .i64 0, .string { data := #[] }, .string { data := #[] }, .string { data := #[] }, .string { data := #[] }, .string { data := #[] }, .string { data := #[] }, .string { data := #[] }]) KYq.out.box Tryz.underlying31 rfl (by kernel_rfl) (atc zeroC))
    clear KXq KYq
    go_wp2_with (first | ((with_reducible refine is_load (ty := 31) (x := .tmp 12) rfl ?_); refine load_v 31 (.tmp 12) rfl bX 0 rfl ?_ _ VXC.out ?_; (focus (first | rfl | (go_simp; done)))) | ((with_reducible refine is_load (ty := 31) (x := .tmp 14) rfl ?_); refine load_v 31 (.tmp 14) rfl bY 0 rfl ?_ _ VYC.out ?_; (focus (first | rfl | (go_simp; done)))) | fail)
    go_ret
    exact ⟨rfl, HBe.out⟩
end Go.Proofs.YtgkjbminokgddaaGreatDoor.PH
/-
  The walk of the law CommandParts, some of its cases.
-/
namespace Go.Proofs.YtgkjbminokgddaaGreatDoor.PU
set_option maxRecDepth 100000
open Go.RowKit Go.Shelf
/-- A block that was made behind W; nothing that lay ahead of W has turned. -/
structure BX (W : World) (b : Nat) (o : Obj) (w : World) : Prop where
  box : w.heap[b]? = some o
  below : Below W.heap.size W w
  new : W.heap.size ≤ b
theorem BX.next {W w w' : World} {b : Nat} {o : Obj} (h : BX W b o w) (hb : Below w.heap.size w w') : BX W b o w' := ⟨(hb.block _ (ltOf h.box)).trans h.box, below_next h.below hb, h.new⟩
theorem BX.sto {W w w' : World} {b : Nat} {o z : Obj} (h : BX W b o w) (hA : Apart w.heap.size (w.alloc z).heap.size (w.alloc z) w') : BX W b o w' :=
  ⟨(hA.block b (by have := ltOf h.box; simp; omega) (by have := ltOf h.box; omega)).trans (old_alloc h.box), below_sto h.below hA, h.new⟩
theorem BX.fresh {W w w' : World} {o z : Obj} (h : Below W.heap.size W w) (hb : w'.heap[w.heap.size]? = some o) (hA : Apart w.heap.size (w.alloc z).heap.size (w.alloc z) w') : BX W w.heap.size o w' := ⟨hb, below_sto h hA, h.size⟩
theorem BX.apart {W w w' : World} {b b' : Nat} {o : Obj} (h : BX W b o w) (hn : W.heap.size ≤ b') (hA : Apart b' w.heap.size w w') (hne : b ≠ b') : BX W b o w' :=
  ⟨(hA.block b (ltOf h.box) hne).trans h.box, h.below.trans (hA.below h.below.size hn), h.new⟩
theorem BX.told {W w w' : World} {b : Nat} {o o' : Obj} (h : BX W b o w) (hA : Apart b w.heap.size w w') (hb : w'.heap[b]? = some o') : BX W b o' w' := ⟨hb, h.below.trans (hA.below h.below.size h.new), h.new⟩
/-- The same load, its operation looked at first. -/
theorem load_w {P : Program} {ops : Array Oper} {rest : List Oper} {op : Oper} {a : Act} {w : World} {Q : Exit → Act → World → Prop} (ty : TypeId) (x : Operand) (ho : op.op = .load ty x) (b o : Nat) (hx : a.eval x = .pointer (some ⟨b, o, none⟩)) (hw : Region.wanted op (yielded ops a.tmps) = true) (t : TypeId) (cs vs : Array Value) (d : TypeDesc) (hb : w.heap[b]? = some (.cells cs t (0, 0)))
    (hu : P.underlying ty = some d) (hd : d.isRow = true) (hi : (P.info? ty).map (·.size) = some vs.size) (hc : ∀ j, j < vs.size → cs[o + j]? = vs[j]?)
    (h : wpList P ops Q rest (a.put op.dst (.agg vs)) w) : wpList P ops Q (op :: rest) a w := wpList_load_want hw ty x ho b o t cs vs d hx hb hu hd hi hc h
theorem is_load {P : Program} {ops : Array Oper} {rest : List Oper} {op : Oper} {a : Act} {w : World} {Q : Exit → Act → World → Prop} {ty : TypeId} {x : Operand} (_ : op.op = .load ty x) (h : wpList P ops Q (op :: rest) a w) : wpList P ops Q (op :: rest) a w := h
theorem is_store {P : Program} {ops : Array Oper} {rest : List Oper} {op : Oper} {a : Act} {w : World} {Q : Exit → Act → World → Prop} {ty : TypeId} {x y : Operand} (_ : op.op = .store ty x y) (h : wpList P ops Q (op :: rest) a w) : wpList P ops Q (op :: rest) a w := h
theorem atc (c : CL) : ∀ j, j < (CC c).size → (CC c)[0 + j]? = (CC c)[j]? := fun j _ => by rw [Nat.zero_add]
theorem load_v {P : Program} {ops : Array Oper} {rest : List Oper} {op : Oper} {a : Act} {w : World} {Q : Exit → Act → World → Prop} (ty : TypeId) (x : Operand) (ho : op.op = .load ty x) (b o : Nat) (hx : a.eval x = .pointer (some ⟨b, o, none⟩)) (hw : Region.wanted op (yielded ops a.tmps) = true) (v : Value) (hv : (loadVar ty ⟨b, o, none⟩).run P w = .ok v w)
    (h : wpList P ops Q rest (a.put op.dst v) w) : wpList P ops Q (op :: rest) a w := by
  refine wpList_step fun K hK => ?_
  rw [if_pos hw]
  unfold Oper.wp execOp
  simp only [ho, hx, Instr.loadAt, Instr.sureAddr, Sem.run_bind, Sem.run_pure, Result.andThen_ok, hv]
  exact hK _ _ h
theorem at0 (vs : Array Value) : ∀ j, j < vs.size → vs[0 + j]? = vs[j]? := fun j _ => by rw [Nat.zero_add]
theorem whole0 (cs vs : Array Value) (h : cs.size = vs.size) : vs = (cs.toList.take 0 ++ vs.toList ++ cs.toList.drop (0 + vs.size)).toArray := by
  rw [List.take_zero, List.nil_append, List.drop_of_length_le (by simp; omega), List.append_nil]
set_option maxHeartbeats 32000000 in
theorem commandParts_U (wh words : Txt) (w : World) (hR : Ready w) (hN : NotR w) (hz1 : wh.length ≤ 140737488355328) (hz2 : words.length ≤ 140737488355328) (h2 : ((P.parseV wh).1.2 == []) = true) (h1 : ((P.parseV wh).1.1 == []) = true) :
    Calls Tryz.prog 4 #[.string (mkS wh), .string (mkS words)] w fun e w' => e = .returned (.bool true) ∧ Below w.heap.size w w' := by
  have h2H := Lib.hid h2
  clear h2
  have h1H := Lib.hid h1
  clear h1
  have HA := Lib.hid (awake_x w hR hN)
  have HR := Lib.hid (fun w' (h : Below w.heap.size w w') => hR.below h)
  have HN := Lib.hid (fun w' (h : Below w.heap.size w w') => hN.below h)
  have z1 := mkS_size wh
  have z2 := mkS_size words
  have hTw := mkS_toList words
  clear hR hN
  go_enter Tryz.func4, Tryz.ntmps4
  go_wp2_with fail
  refine HA.out.mono ?_
  rintro e w1 ⟨rfl, hb⟩
  have HB := Lib.hid hb
  clear hb HA
  by_cases hl1 : 1500 < wh.length
  · have hlI : (1500 : Int) < (wh.length : Int) := by omega
    go_wp2_with fail
    go_ret
    exact ⟨rfl, HB.out⟩
  have hl1I : ¬ (1500 : Int) < (wh.length : Int) := by omega
  by_cases hl2 : 1500 < words.length
  · have hlI : (1500 : Int) < (words.length : Int) := by omega
    go_wp2_with fail
    go_ret
    exact ⟨rfl, HB.out⟩
  have hl2I : ¬ (1500 : Int) < (words.length : Int) := by omega
  by_cases hn : words = []
  · subst hn
    have e0 : (mkS ([] : Txt)).toList = [] := hTw
    go_wp2_with fail
    go_ret
    exact ⟨rfl, HB.out⟩
  obtain ⟨l0, x, hwx⟩ : ∃ (l0 : Txt) (x : UInt8), words = l0 ++ [x] := ⟨words.dropLast, words.getLast hn, (List.dropLast_concat_getLast hn).symm⟩
  have hnl : words.length = l0.length + 1 := by rw [hwx]; simp
  have e1 : words.isEmpty = false := by cases words <;> first | exact absurd rfl hn | rfl
  have hsz : (mkS words).size = l0.length + 1 := by rw [z2, hnl]
  have hxx : (mkS words)[l0.length]'(by omega) = x := mkS_get _ (by rw [hwx]; simp)
  have hq1 : IntKind.i64.wrap ((words.length : Int) - 1) = (l0.length : Int) := by rw [hnl]; rw [IntWalk.i64_in _ (by omega)]; omega
  by_cases hx32 : x.toNat = 32
  · have d32 : (x.toNat : Int) = 32 := by omega
    clear hwx hn
    go_wp2_with fail
    go_ret
    exact ⟨rfl, HB.out⟩
  have hlast : words.getLast? ≠ some 32 := by rw [hwx, List.getLast?_concat]; intro h; injection h with h; exact hx32 (by rw [h]; rfl)
  have dx : ¬ (x.toNat : Int) = 32 := by omega
  clear hwx
  have hl3I : ¬ (1500 : Int) < (l0.length : Int) + 1 := by omega
  have dx2 : ((x.toNat : Int) == 32) = false := beq_eq_false_iff_ne.2 dx
  have HP := Lib.hid (fun w => P.parse_x wh w (by omega))
  unfold P.PaPost at HP
  have HPP := Lib.hid (show (P.parseV wh).2.2 = 0 → (P.parseV wh).2.1 = [] → P.parseV wh = ((P.parseV wh).1, [], 0) from fun h1 h2 => Prod.ext rfl (Prod.ext h2 h1))
  have HCM := Lib.hid (fun (p : P.Pth) (h : P.parseV wh = (p, [], 0)) => cp_mail h hn hlast)
  have HCR := Lib.hid (fun (p : P.Pth) (h : P.parseV wh = (p, [], 0)) => cp_rcpt h hn hlast)
  have HM := Lib.hid (fun w h => parseM_x words w (by omega) h)
  have HQ := Lib.hid (fun w h => parseR_x words w (by omega) h)
  unfold MailPost mCells at HM
  unfold RcptPost at HQ
  have l1 : (vMAIL ++ (hFROM ++ wh ++ 32 :: words)).length ≤ 100000 := by simp [vMAIL, hFROM]; omega
  have l2 : (vRCPT ++ (hTO ++ wh ++ 32 :: words)).length ≤ 100000 := by simp [vRCPT, hTO]; omega
  have HX := Lib.hid (fun w hR hN => cparse_x (vMAIL ++ (hFROM ++ wh ++ 32 :: words)) w l1 hR hN)
  have HY := Lib.hid (fun w hR hN => cparse_x (vRCPT ++ (hTO ++ wh ++ 32 :: words)) w l2 hR hN)
  unfold CpPost at HX HY
  have a1 : ({ data := #[77, 65, 73, 76, 32, 70, 82, 79, 77, 58] } : ByteArray) ++ mkS wh = mkS (vMAIL ++ (hFROM ++ wh)) := mkS_cat [77, 65, 73, 76, 32, 70, 82, 79, 77, 58] wh
  have a2 : mkS (vMAIL ++ (hFROM ++ wh)) ++ { data := #[32] } = mkS (vMAIL ++ (hFROM ++ wh) ++ [32]) := mkS_cat _ [32]
  have a3 : mkS (vMAIL ++ (hFROM ++ wh) ++ [32]) ++ mkS words = mkS (vMAIL ++ (hFROM ++ wh ++ 32 :: words)) := by rw [mkS_cat]; congr 1; simp
  have b1 : ({ data := #[82, 67, 80, 84, 32, 84, 79, 58] } : ByteArray) ++ mkS wh = mkS (vRCPT ++ (hTO ++ wh)) := mkS_cat [82, 67, 80, 84, 32, 84, 79, 58] wh
  have b2 : mkS (vRCPT ++ (hTO ++ wh)) ++ { data := #[32] } = mkS (vRCPT ++ (hTO ++ wh) ++ [32]) := mkS_cat _ [32]
  have b3 : mkS (vRCPT ++ (hTO ++ wh) ++ [32]) ++ mkS words = mkS (vRCPT ++ (hTO ++ wh ++ 32 :: words)) := by rw [mkS_cat]; congr 1; simp
  have s1 : (mkS (vMAIL ++ (hFROM ++ wh))).size = 10 + wh.length := by rw [mkS_size]; simp [vMAIL, hFROM]; omega
  have s2 : (mkS (vMAIL ++ (hFROM ++ wh) ++ [32])).size = 11 + wh.length := by rw [mkS_size]; simp [vMAIL, hFROM]; omega
  have s3 : (mkS (vRCPT ++ (hTO ++ wh))).size = 8 + wh.length := by rw [mkS_size]; simp [vRCPT, hTO]; omega
  have s4 : (mkS (vRCPT ++ (hTO ++ wh) ++ [32])).size = 9 + wh.length := by rw [mkS_size]; simp [vRCPT, hTO]; omega
  have y0 : ¬ 9223372036854775807 < 10 + (mkS wh).size := by omega
  have y1 : ¬ 9223372036854775807 < 10 + wh.length := by omega
  have y2 : ¬ 9223372036854775807 < 10 + wh.length + 1 := by omega
  have y3 : ¬ 9223372036854775807 < 11 + (mkS words).size := by omega
  have y4 : ¬ 9223372036854775807 < 11 + words.length := by omega
  have y5 : ¬ 9223372036854775807 < 11 + wh.length + (mkS words).size := by omega
  have y6 : ¬ 9223372036854775807 < 11 + wh.length + words.length := by omega
  have y7 : ¬ 9223372036854775807 < 8 + (mkS wh).size := by omega
  have y8 : ¬ 9223372036854775807 < 8 + wh.length := by omega
  have y9 : ¬ 9223372036854775807 < 8 + wh.length + 1 := by omega
  have y10 : ¬ 9223372036854775807 < 9 + wh.length + (mkS words).size := by omega
  have y11 : ¬ 9223372036854775807 < 9 + wh.length + words.length := by omega
  generalize cpE (vMAIL ++ (hFROM ++ wh ++ 32 :: words)) = Ex at HX HCM
  generalize cpV (vMAIL ++ (hFROM ++ wh ++ 32 :: words)) = cx at HX HCM
  generalize cpE (vRCPT ++ (hTO ++ wh ++ 32 :: words)) = Ey at HY HCR
  generalize cpV (vRCPT ++ (hTO ++ wh ++ 32 :: words)) = cy at HY HCR
  generalize vMAIL ++ (hFROM ++ wh ++ 32 :: words) = t1 at HX a3 l1
  generalize vRCPT ++ (hTO ++ wh ++ 32 :: words) = t2 at HY b3 l2
  generalize vMAIL ++ (hFROM ++ wh) ++ [32] = t3 at a2 a3 s2
  generalize vMAIL ++ (hFROM ++ wh) = t4 at a1 a2 s1
  generalize vRCPT ++ (hTO ++ wh) ++ [32] = t5 at b2 b3 s4
  generalize vRCPT ++ (hTO ++ wh) = t6 at b1 b2 s3
  generalize pvM words = X at HM HCM
  generalize peM words = em at HM HCM
  generalize pvR words = Y at HQ HCR
  generalize peR words = er at HQ HCR
  generalize hpv : P.parseV wh = pv at HP HPP HCM HCR h2H h1H
  obtain ⟨p, rs, e0⟩ := pv
  simp only at HP HPP
  have hTr := mkS_toList rs
  have er1 : rs.isEmpty = (rs == []) := by cases rs <;> rfl
  clear hpv l1 l2 hlast hn hz1 hz2
  go_wp2_with fail
  refine (HP.out _).mono ?_
  rintro e w2 ⟨rfl, hb⟩
  have HB2 := Lib.hid (below_next HB.out hb)
  clear hb HB HP
  by_cases he0 : e0 = 0
  rotate_left
  · have d9 : (e0 != 0) = true := bne_iff_ne.2 he0
    clear he0
    have HB3 := Lib.hid (HB2.out.alloc HB2.out.size (.cells #[.string (mkS p.1), .string (mkS p.2)] 23))
    go_wp2_with fail
    go_ret
    exact ⟨rfl, HB3.out⟩
  cases hrs : rs == []
  · rw [hrs] at er1
    have HB3 := Lib.hid (HB2.out.alloc HB2.out.size (.cells #[.string (mkS p.1), .string (mkS p.2)] 23))
    have d9 : (e0 != 0) = false := by rw [he0]; rfl
    clear hrs he0
    go_wp2_with fail
    go_ret
    exact ⟨rfl, HB3.out⟩
  have hrs0 : rs = [] := by simpa using hrs
  subst he0
  subst hrs0
  have HXX := Lib.hid (HCM.out p (HPP.out rfl rfl))
  have HYY := Lib.hid (HCR.out p (HPP.out rfl rfl))
  clear HCM HCR HPP hrs er1
  have e00 : (mkS ([] : Txt)).toList = [] := hTr
  clear hTr
  go_wp2_with (first | (refine wpList_store_blk rfl 23 _ _ rfl w2.heap.size 0 23 #[.string { data := #[] }, .string { data := #[] }] #[.string (mkS p.1), .string (mkS p.2)] #[.string (mkS p.1), .string (mkS p.2)] rfl rfl (newOf w2 _) (by kernel_rfl) (by kernel_rfl) (Nat.le_of_eq rfl) (whole0 _ _ rfl) ?_; intro w3 hB2 hA2; have KP := Lib.hid (BX.fresh HB2.out hB2 hA2); have HB3 := Lib.hid (below_sto HB2.out hA2); clear hB2 hA2) | fail)
  generalize w2.heap.size = bP at KP ⊢
  refine (HM.out _ (HR.out _ KP.out.below)).mono ?_
  rintro e w4 ⟨rfl, hb⟩
  have KP' := Lib.hid (KP.out.next hb)
  clear hb KP HM HB3
  have ltPM := ltOf KP'.out.box
  go_wp2_with (first | (refine wpList_store_blk rfl 27 _ _ rfl w4.heap.size 0 27 #[.bool false, .bool false, .bool false, .bool false, .bool false, .int .i64 0, .int .i64 0, .int .i64 0, .int .i64 0, .int .i64 0, .string { data := #[] }, .string { data := #[] }, .string { data := #[] }, .string { data := #[] }] #[.bool X.hs, .bool X.hf, .bool X.hu, .bool X.hb, .bool X.hp, .int .i64 X.sz, .int .i64 X.fo, .int .i64 X.un, .int .i64 X.by_, .int .i64 X.pr, .string (mkS X.body), .string (mkS X.ret), .string (mkS X.env), .string (mkS X.mode)] #[.bool X.hs, .bool X.hf, .bool X.hu, .bool X.hb, .bool X.hp, .int .i64 X.sz, .int .i64 X.fo, .int .i64 X.un, .int .i64 X.by_, .int .i64 X.pr, .string (mkS X.body), .string (mkS X.ret), .string (mkS X.env), .string (mkS X.mode)] rfl rfl (newOf w4 _) (by kernel_rfl) (by kernel_rfl) (Nat.le_of_eq rfl) (whole0 _ _ rfl) ?_; intro w5 hB2 hA2; have KM := Lib.hid (BX.fresh KP'.out.below hB2 hA2); have KP := Lib.hid (KP'.out.sto hA2); clear hB2 hA2 KP') | fail)
  generalize w4.heap.size = bM at KM ltPM ⊢
  refine (HQ.out _ (HN.out _ KP.out.below)).mono ?_
  rintro e w6 ⟨rfl, hb⟩
  have KP' := Lib.hid (KP.out.next hb)
  have KM' := Lib.hid (KM.out.next hb)
  clear hb KP KM HQ
  have ltPR := ltOf KP'.out.box
  have ltMR := ltOf KM'.out.box
  go_wp2_with (first | (refine wpList_store_blk rfl 29 _ _ rfl w6.heap.size 0 29 #[.string { data := #[] }, .string { data := #[] }, .string { data := #[] }] #[.string (mkS Y.no), .string (mkS Y.kind), .string (mkS Y.oc)] #[.string (mkS Y.no), .string (mkS Y.kind), .string (mkS Y.oc)] rfl rfl (newOf w6 _) (by kernel_rfl) (by kernel_rfl) (Nat.le_of_eq rfl) (whole0 _ _ rfl) ?_; intro w7 hB2 hA2; have KR := Lib.hid (BX.fresh KP'.out.below hB2 hA2); have KP := Lib.hid (KP'.out.sto hA2); have KM := Lib.hid (KM'.out.sto hA2); clear hB2 hA2 KP' KM') | fail)
  generalize w6.heap.size = bR at KR ltPR ltMR ⊢
  refine (HX.out _ (HR.out _ KP.out.below) (HN.out _ KP.out.below)).mono ?_
  rintro e w8 ⟨rfl, hb⟩
  have KP' := Lib.hid (KP.out.next hb)
  have KM' := Lib.hid (KM.out.next hb)
  have KR' := Lib.hid (KR.out.next hb)
  clear hb KP KM KR HX
  have ltPX := ltOf KP'.out.box
  have ltMX := ltOf KM'.out.box
  have ltRX := ltOf KR'.out.box
  go_wp2_with (first | (refine wpList_store_blk rfl 31 _ _ rfl w8.heap.size 0 31 (CC zeroC) (CC cx) (CC cx) rfl rfl (newOf w8 _) size_cmd (one_CC _) (Nat.le_of_eq rfl) (whole_CC zeroC _) ?_; intro w9 hB2 hA2; have KX := Lib.hid (BX.fresh KP'.out.below hB2 hA2); have KP := Lib.hid (KP'.out.sto hA2); have KM := Lib.hid (KM'.out.sto hA2); have KR := Lib.hid (KR'.out.sto hA2); clear hB2 hA2 KP' KM' KR') | fail)
  generalize w8.heap.size = bX at KX ltPX ltMX ltRX ⊢
  refine (HY.out _ (HR.out _ KP.out.below) (HN.out _ KP.out.below)).mono ?_
  rintro e w10 ⟨rfl, hb⟩
  have KP' := Lib.hid (KP.out.next hb)
  have KM' := Lib.hid (KM.out.next hb)
  have KR' := Lib.hid (KR.out.next hb)
  have KX' := Lib.hid (KX.out.next hb)
  clear hb KP KM KR KX HY
  have q2 : p.2.isEmpty = (p.2 == []) := by cases p.2 <;> rfl
  have q1' : p.1.isEmpty = (p.1 == []) := by cases p.1 <;> rfl
  have hT1 := mkS_toList p.1
  have hT2 := mkS_toList p.2
  have HNU := Lib.hid (fun w => P.null_x p w)
  have HHO := Lib.hid (show hostlB p = (p.1 != [] && p.2 == []) from rfl)
  have HNO := Lib.hid (show P.nullB p = (p.1 == [] && p.2 == []) from rfl)
  have hep : ∀ w, (Op.equalIn 10000 23 (.agg #[.string (mkS p.1), .string (mkS p.2)]) (.agg #[.string (mkS p.1), .string (mkS p.2)])).run Tryz.prog w = .ok true w := fun w => (P.eqP p p w).trans (by simp)
  have hem : ∀ w, (Op.equalIn 10000 27 (.agg #[.bool X.hs, .bool X.hf, .bool X.hu, .bool X.hb, .bool X.hp, .int .i64 X.sz, .int .i64 X.fo, .int .i64 X.un, .int .i64 X.by_, .int .i64 X.pr, .string (mkS X.body), .string (mkS X.ret), .string (mkS X.env), .string (mkS X.mode)]) (.agg #[.bool X.hs, .bool X.hf, .bool X.hu, .bool X.hb, .bool X.hp, .int .i64 X.sz, .int .i64 X.fo, .int .i64 X.un, .int .i64 X.by_, .int .i64 X.pr, .string (mkS X.body), .string (mkS X.ret), .string (mkS X.env), .string (mkS X.mode)])).run Tryz.prog w = .ok true w := fun w => (eqMail X X w).trans (by rw [eqML_iff.2 rfl])
  have her : ∀ w, (Op.equalIn 10000 29 (.agg #[.string (mkS Y.no), .string (mkS Y.kind), .string (mkS Y.oc)]) (.agg #[.string (mkS Y.no), .string (mkS Y.kind), .string (mkS Y.oc)])).run Tryz.prog w = .ok true w := fun w => (eqRcpt Y Y w).trans (by rw [eqRL_iff.2 rfl])
  have hez : ∀ w, (Op.equalIn 10000 31 (.agg #[.string { data := #[] }, .string { data := #[] }, .string { data := #[] }, .string { data := #[] }, .bool false, .bool false, .bool false, .bool false, .bool false, .int .i64 0, .int .i64 0, .int .i64 0, .int .i64 0, .int .i64 0, .string { data := #[] }, .string { data := #[] }, .string { data := #[] }, .string { data := #[] }, .string { data := #[] }, .string { data := #[] }, .string { data := #[] }]) (.agg #[.string { data := #[] }, .string { data := #[] }, .string { data := #[] }, .string { data := #[] }, .bool false, .bool false, .bool false, .bool false, .bool false, .int .i64 0, .int .i64 0, .int .i64 0, .int .i64 0, .int .i64 0, .string { data := #[] }, .string { data := #[] }, .string { data := #[] }, .string { data := #[] }, .string { data := #[] }, .string { data := #[] }, .string { data := #[] }])).run Tryz.prog w = .ok true w := fun w => (eqCmd zeroC zeroC w).trans (by rw [eqCL_iff.2 rfl])
  have ltPY := ltOf KP'.out.box
  have ltMY := ltOf KM'.out.box
  have ltRY := ltOf KR'.out.box
  have ltXY := ltOf KX'.out.box
  have h2 := h2H.out
  have h1 := h1H.out
  have HO := Lib.hid (show hostlB p = false by rw [HHO.out, bne, h1, h2]; rfl)
  have HNO1 := Lib.hid (show P.nullB p = true by rw [HNO.out, h1, h2]; rfl)
  have hx := HXX.out
  have hy := HYY.out
  rw [HO.out, if_neg (by decide)] at hx
  rw [HNO1.out, if_pos rfl] at hy
  rw [if_neg (by decide)] at hy
  have HX1 := Lib.hid hx
  have HY1 := Lib.hid hy
  rw [h2] at q2
  rw [h1] at q1'
  clear h2 h2H HO HHO HNO HXX HYY hx hy h1 h1H
  go_wp2_with (first | (refine is_store rfl ?_; (refine wpList_store_blk rfl 31 _ _ rfl w10.heap.size 0 31 (CC zeroC) (CC cy) (CC cy) rfl rfl (newOf w10 _) size_cmd (one_CC _) (Nat.le_of_eq rfl) (whole_CC zeroC _) ?_; intro w11 hB2 hA2; have KY := Lib.hid (BX.fresh KP'.out.below hB2 hA2); have KP := Lib.hid (KP'.out.sto hA2); have KM := Lib.hid (KM'.out.sto hA2); have KR := Lib.hid (KR'.out.sto hA2); have KX := Lib.hid (KX'.out.sto hA2); have c0 : w11.cell? ⟨bP, 0, none⟩ = some (.string (mkS p.1)) := cellOf KP.out.box 0; have c1 : w11.cell? ⟨bP, 1, none⟩ = some (.string (mkS p.2)) := cellOf KP.out.box 1; clear hB2 hA2 KP' KM' KR' KX')) | fail)
  generalize w10.heap.size = bY at KY ltPY ltMY ltRY ltXY ⊢
  refine (HNU.out _).mono ?_
  rintro e w13 ⟨rfl, hb⟩
  have KPn := Lib.hid (KP.out.next hb)
  have KMn := Lib.hid (KM.out.next hb)
  have KRn := Lib.hid (KR.out.next hb)
  have KXn := Lib.hid (KX.out.next hb)
  have KYn := Lib.hid (KY.out.next hb)
  clear hb c0 c1 KP KM KR KX KY
  rw [HNO1.out]
  clear HNO1 HNU
  go_upto_region 17 with fail
  go_upto_region 18 with (first | (refine is_store rfl ?_; (refine wpList_store_blk rfl 29 _ _ rfl bR 0 29 #[.string (mkS Y.no), .string (mkS Y.kind), .string (mkS Y.oc)] #[.string { data := #[] }, .string { data := #[] }, .string { data := #[] }] #[.string { data := #[] }, .string { data := #[] }, .string { data := #[] }] rfl rfl KRn.out.box (by kernel_rfl) (by kernel_rfl) (Nat.le_of_eq rfl) (whole0 _ _ rfl) ?_; intro w14 hB3 hA3; have KPnz := Lib.hid (KPn.out.apart KRn.out.new hA3 (by omega)); have KMnz := Lib.hid (KMn.out.apart KRn.out.new hA3 (by omega)); have KXnz := Lib.hid (KXn.out.apart KRn.out.new hA3 (by omega)); have KYnz := Lib.hid (KYn.out.apart KRn.out.new hA3 (by omega)); have KRnz := Lib.hid (KRn.out.told hA3 hB3); clear hB3 hA3)) | fail)
  clear KPn KMn KRn KXn KYn
  clear ltPM ltPR ltMR ltPX ltMX ltRX ltPY ltMY ltRY ltXY
  have HBe := Lib.hid KPnz.out.below
  have VP := Lib.hid (loadVar_blk (P := Tryz.prog) (ty := 23) (o := 0) (vs := #[.string (mkS p.1), .string (mkS p.2)]) KPnz.out.box Tryz.underlying23 rfl (by kernel_rfl) (at0 _))
  have VM := Lib.hid (loadVar_blk (P := Tryz.prog) (ty := 27) (o := 0) (vs := #[.bool X.hs, .bool X.hf, .bool X.hu, .bool X.hb, .bool X.hp, .int .i64 X.sz, .int .i64 X.fo, .int .i64 X.un, .int .i64 X.by_, .int .i64 X.pr, .string (mkS X.body), .string (mkS X.ret), .string (mkS X.env), .string (mkS X.mode)]) KMnz.out.box Tryz.underlying27 rfl (by kernel_rfl) (at0 _))
  have VR := Lib.hid (loadVar_blk (P := Tryz.prog) (ty := 29) (o := 0) (vs := #[.string { data := #[] }, .string { data := #[] }, .string { data := #[] }]) KRnz.out.box Tryz.underlying29 rfl (by kernel_rfl) (at0 _))
  have KXq := KXnz
  have KYq := KYnz
  clear KPnz KMnz KRnz KXnz KYnz
  have hx := HX1.out
  have hy := HY1.out
  clear HX1 HY1
  obtain ⟨rfl, rfl⟩ := hy
  by_cases hem0 : em = 0
  · subst hem0
    rw [if_pos rfl] at hx
    obtain ⟨rfl, rfl⟩ := hx
    have VXP := Lib.hid (loadVar_blk (P := Tryz.prog) (ty := 23) (o := 2) (vs := #[.string (mkS p.1), .string (mkS p.2)]) KXq.out.box Tryz.underlying23 rfl (by kernel_rfl) (KB.atp { headC vMAIL with p := p, m := X }))
    have VXM := Lib.hid (loadVar_blk (P := Tryz.prog) (ty := 27) (o := 4) (vs := #[.bool X.hs, .bool X.hf, .bool X.hu, .bool X.hb, .bool X.hp, .int .i64 X.sz, .int .i64 X.fo, .int .i64 X.un, .int .i64 X.by_, .int .i64 X.pr, .string (mkS X.body), .string (mkS X.ret), .string (mkS X.env), .string (mkS X.mode)]) KXq.out.box Tryz.underlying27 rfl (by kernel_rfl) (KB.atm { headC vMAIL with p := p, m := X }))
    have VYC := Lib.hid (loadVar_blk (P := Tryz.prog) (ty := 31) (o := 0) (vs := #[.string { data := #[] }, .string { data := #[] }, .string { data := #[] }, .string { data := #[] }, .bool false, .bool false, .bool false, .bool false, .bool false, .int .i64 0, .int .i64 0, .int .i64 0, .int .i64 0, .int .i64 0, .string { data := #[] }, .string { data := #[] }, .string { data := #[] }, .string { data := #[] }, .string { data := #[] }, .string { data := #[] }, .string { data := #[] }]) KYq.out.box Tryz.underlying31 rfl (by kernel_rfl) (atc zeroC))
    clear KXq KYq
    go_wp2_with (first | ((with_reducible refine is_load (ty := 23) (x := .tmp 102) rfl ?_); refine load_v 23 (.tmp 102) rfl bX 2 rfl ?_ _ VXP.out ?_; (focus (first | rfl | (go_simp; done)))) | ((with_reducible refine is_load (ty := 27) (x := .tmp 107) rfl ?_); refine load_v 27 (.tmp 107) rfl bX 4 rfl ?_ _ VXM.out ?_; (focus (first | rfl | (go_simp; done)))) | ((with_reducible refine is_load (ty := 27) (x := .tmp 8) rfl ?_); refine load_v 27 (.tmp 8) rfl bM 0 rfl ?_ _ VM.out ?_; (focus (first | rfl | (go_simp; done)))) | ((with_reducible refine is_load (ty := 31) (x := .tmp 14) rfl ?_); refine load_v 31 (.tmp 14) rfl bY 0 rfl ?_ _ VYC.out ?_; (focus (first | rfl | (go_simp; done)))) | ((with_reducible refine is_load (ty := 23) (x := .tmp 5) rfl ?_); refine load_v 23 (.tmp 5) rfl bP 0 rfl ?_ _ VP.out ?_; (focus (first | rfl | (go_simp; done)))) | fail)
    go_ret
    exact ⟨rfl, HBe.out⟩
  · rw [if_neg hem0] at hx
    have dm1 : (em == 0) = false := beq_eq_false_iff_ne.2 hem0
    have dm2 : (em != 0) = true := bne_iff_ne.2 hem0
    clear hem0
    obtain ⟨rfl, rfl⟩ := hx
    have VXC := Lib.hid (loadVar_blk (P := Tryz.prog) (ty := 31) (o := 0) (vs := #[.string { data := #[] }, .string { data := #[] }, .string { data := #[] }, .string { data := #[] }, .bool false, .bool false, .bool false, .bool false, .bool false, .int .i64 0, .int .i64 0, .int .i64 0, .int .i64 0, .int .i64 0, .string { data := #[] }, .string { data := #[] }, .string { data := #[] }, .string { data := #[] }, .string { data := #[] }, .string { data := #[] }, .string { data := #[] }]) KXq.out.box Tryz.underlying31 rfl (by kernel_rfl) (atc zeroC))
    have VYC := Lib.hid (loadVar_blk (P := Tryz.prog) (ty := 31) (o := 0) (vs := #[.string { data := #[] }, .string { data := #[] }, .string { data := #[] }, .string { data := #[] }, .bool false, .bool false, .bool false, .bool false, .bool false, .int .i64 0, .int .i64 0, .int .i64 0, .int .i64 0, .int .i64 0, .string { data := #[] }, .string { data := #[] }, .string { data := #[] }, .string { data := #[] }, .string { data := #[] }, .string { data := #[] }, .string { data := #[] }]) KYq.out.box Tryz.underlying31 rfl (by kernel_rfl) (atc zeroC))
    clear KXq KYq
    go_wp2_with (first | ((with_reducible refine is_load (ty := 31) (x := .tmp 12) rfl ?_); refine load_v 31 (.tmp 12) rfl bX 0 rfl ?_ _ VXC.out ?_; (focus (first | rfl | (go_simp; done)))) | ((with_reducible refine is_load (ty := 31) (x := .tmp 14) rfl ?_); refine load_v 31 (.tmp 14) rfl bY 0 rfl ?_ _ VYC.out ?_; (focus (first | rfl | (go_simp; done)))) | fail)
    go_ret
    exact ⟨rfl, HBe.out⟩
end Go.Proofs.YtgkjbminokgddaaGreatDoor.PU
