/-
  JgAlarm · JgEq, in one text.
-/
import Derived.Test.YtcedhgihebollaaGreatDoorJgTime
import Derived.Test.YtcedhgihebollaaGreatDoorMaJgF
import Derived.Laws.StructEq
/-
  The walk of Alarm.
-/
namespace Go.Proofs.YtcedhgihebollaaGreatDoor.E.J
set_option maxRecDepth 100000
open Go.RowKit Go.Shelf
set_option maxHeartbeats 16000000 in
theorem alarm_no (p : PJ) (x : EM) (vr vl : Value) (t : ST) (w : World) (hp : okP p = true) (hx : BdJ x) (h0 : 0 ≤ t.told) (h7 : t.told ≤ 7) (hst : (t.st == [82]) = false) (r : Int) (hr : r = 0) :
    Calls Tryz.prog 16 #[.agg #[.int .i64 p.base, .int .i64 p.most, .int .i64 p.life, .int .i64 p.warn], .agg #[.int .i64 x.id, .int .i64 x.at_, .int .i64 x.rel, .string (mkS x.fr.1), .string (mkS x.fr.2), .bool x.m.hs, .bool x.m.hf, .bool x.m.hu, .bool x.m.hb, .bool x.m.hp, .int .i64 x.m.sz, .int .i64 x.m.fo, .int .i64 x.m.un, .int .i64 x.m.by_, .int .i64 x.m.pr, .string (mkS x.m.body), .string (mkS x.m.ret), .string (mkS x.m.env), .string (mkS x.m.mode), vr, vl], .agg #[.int .i64 t.pl, .string (mkS t.st), .int .i64 t.tr, .int .i64 t.ne, .int .i64 t.told]] w fun e w' => e = .returned (.int .i64 r) ∧ Below w.heap.size w w' := by
  have HB := Lib.hid (XB.new w p x vr vl t)
  have e1 : ((mkS t.st).toList == [82]) = (t.st == [82]) := by rw [mkS_toList]
  have HEX := Lib.hid (fun w => expires_x p x vr vl w hp hx)
  have HWA := Lib.hid (fun w => warned_x p x vr vl w hp hx)
  have HDL := Lib.hid (fun w => deadline_x x vr vl w hx)
  have HRT := Lib.hid (fun w => returned_x x.m w)
  have HHR := Lib.hid hr
  have HAN := Lib.hid (and_has h0 h7 (.inl rfl) : (bits .and .i64 t.told 1 != 0) = hasB t.told 1)
  unfold dlV at HDL
  rw [hst] at e1
  clear hp hx h0 h7 hr hst
  have c1 : (((w.alloc (.cells #[.int .i64 p.base, .int .i64 p.most, .int .i64 p.life, .int .i64 p.warn] 23)).alloc (.cells (EC x vr vl) 33)).alloc (.cells (TC t) 41)).cell? ⟨w.heap.size + 1 + 1, 1, none⟩ = some (.string (mkS t.st)) := cellOf HB.out.tb 1
  unfold EC TC at c1
  go_enter Tryz.func16, Tryz.ntmps16
  go_wp2_with fail
  go_ret
  exact ⟨ret_int HHR.out.symm, HB.out.below⟩
set_option maxHeartbeats 16000000 in
theorem alarm_ft (p : PJ) (x : EM) (vr vl : Value) (t : ST) (w : World) (hp : okP p = true) (hx : BdJ x) (h0 : 0 ≤ t.told) (h7 : t.told ≤ 7) (hst : (t.st == [82]) = true) (hq : hasB t.told 1 = false) (hhb : x.m.hb = false) (r : Int) (hr : r = min (min t.ne (expJ p x)) (warJ p x)) :
    Calls Tryz.prog 16 #[.agg #[.int .i64 p.base, .int .i64 p.most, .int .i64 p.life, .int .i64 p.warn], .agg #[.int .i64 x.id, .int .i64 x.at_, .int .i64 x.rel, .string (mkS x.fr.1), .string (mkS x.fr.2), .bool x.m.hs, .bool x.m.hf, .bool x.m.hu, .bool x.m.hb, .bool x.m.hp, .int .i64 x.m.sz, .int .i64 x.m.fo, .int .i64 x.m.un, .int .i64 x.m.by_, .int .i64 x.m.pr, .string (mkS x.m.body), .string (mkS x.m.ret), .string (mkS x.m.env), .string (mkS x.m.mode), vr, vl], .agg #[.int .i64 t.pl, .string (mkS t.st), .int .i64 t.tr, .int .i64 t.ne, .int .i64 t.told]] w fun e w' => e = .returned (.int .i64 r) ∧ Below w.heap.size w w' := by
  have HB := Lib.hid (XB.new w p x vr vl t)
  have e1 : ((mkS t.st).toList == [82]) = (t.st == [82]) := by rw [mkS_toList]
  have HEX := Lib.hid (fun w => expires_x p x vr vl w hp hx)
  have HWA := Lib.hid (fun w => warned_x p x vr vl w hp hx)
  have HDL := Lib.hid (fun w => deadline_x x vr vl w hx)
  have HRT := Lib.hid (fun w => returned_x x.m w)
  have HHR := Lib.hid hr
  have HAN := Lib.hid (and_has h0 h7 (.inl rfl) : (bits .and .i64 t.told 1 != 0) = hasB t.told 1)
  unfold dlV at HDL
  rw [hst] at e1
  clear hp hx h0 h7 hr hst
  rw [hhb] at HDL
  simp only [Bool.false_eq_true, if_false] at HDL
  clear hhb
  have c1 : (((w.alloc (.cells #[.int .i64 p.base, .int .i64 p.most, .int .i64 p.life, .int .i64 p.warn] 23)).alloc (.cells (EC x vr vl) 33)).alloc (.cells (TC t) 41)).cell? ⟨w.heap.size + 1 + 1, 1, none⟩ = some (.string (mkS t.st)) := cellOf HB.out.tb 1
  unfold EC TC at c1
  go_enter Tryz.func16, Tryz.ntmps16
  go_wp2_with fail
  have HQ := Lib.hid (show (bits .and .i64 t.told 1 == 0) = true by
    have := HAN.out
    rw [hq] at this
    cases hz : bits .and .i64 t.told 1 == 0 with
    | false => first | rfl | (rw [bne, hz] at this; cases this)
    | true => first | rfl | (rw [bne, hz] at this; cases this))
  clear hq c1
  generalize hW0 : ((w.alloc (.cells #[.int .i64 p.base, .int .i64 p.most, .int .i64 p.life, .int .i64 p.warn] 23)).alloc _).alloc _ = w0
  have HB0 := Lib.hid (show XB w p x vr vl t w0 by rw [← hW0]; exact HB.out)
  clear HB hW0
  have HC0 := Lib.hid (show w0.drew.cell? ⟨w.heap.size + 1 + 1, 4, none⟩ = some (.int .i64 t.told) from cellOf (show w0.drew.heap[w.heap.size + 1 + 1]? = _ from HB0.out.tb) 4)
  have HKI := Lib.hid (kinds_x w0.drew)
  have HLK := Lib.hid (fun (w1 : World) (M : Nat) (hM : MapIs w1 M 4 kdF) => hM.look Tryz.underlying77 (z := zKd) (by kernel_rfl) (show kD.name.length ≤ 1000000000 by decide))
  rw [show kdF kD.name = some (kdA kD) from rfl] at HLK
  refine wp_region_held_drew (S := fun wr => wr.cell? ⟨w.heap.size + 1 + 1, 4, none⟩ = some (.int .i64 t.told)) (by kernel_rfl) HC0.out (fun hH => ?_)
  refine wpAnyH_take (i := 0) (oi := { dst := some 14, op := Op.fieldAddr 41 (Operand.tmp 5) 4, type := 0, pos := "judge.go:134", after := #[], guard := none }) (v := .pointer (some ⟨w.heap.size + 1 + 1, 4, none⟩)) rfl (by kernel_rfl) (by kernel_rfl) (by kernel_rfl) (fun _ _ _ h => h) (Or.inl ⟨by kernel_rfl, fun wz hz => by kernel_rfl⟩) hH ?_
  try simp only [Act.put, List.setIfInBounds_toArray, List.set_cons_zero, List.set_cons_succ]
  refine wpAnyH_take (i := 1) (oi := { dst := some 15, op := Op.load 3 (Operand.tmp 14), type := 3, pos := "judge.go:134", after := #[{ on := 0, ground := Ground.data }], guard := none }) (v := .int .i64 t.told) rfl (by kernel_rfl) (by kernel_rfl) (by kernel_rfl) (fun _ _ _ h => h) (Or.inl ⟨by kernel_rfl, fun wz hz => by go_simp⟩) hH ?_
  try simp only [Act.put, List.setIfInBounds_toArray, List.set_cons_zero, List.set_cons_succ]
  refine wpAnyH_ready (rs := [2]) (by kernel_rfl) (by simp) ?_
  refine AllReadyH.cons (o := { dst := some 16, op := Op.call { callee := Callee.value (Operand.func 28), args := #[], argTypes := #[] }, type := 77, pos := "judge.go:134", after := #[], guard := none }) rfl (fun K hK => ?_) AllReadyH.nil
  go_simp
  go_at_call 28
  refine HKI.out.mono ?_
  rintro r1 w1 ⟨M, rfl, hb1, hM⟩
  have lk := HLK.out w1 M hM
  simp only [Option.getD_some] at lk
  rw [show kdA kD = .agg #[.int .i64 1, .string ⟨#[68]⟩, .bool true] from rfl] at lk
  rw [show mkS kD.name = { data := #[100, 101, 108, 97, 121, 101, 100] } from rfl] at lk
  have HB1 := Lib.hid (HB0.out.next (⟨hb1.os, hb1.tape, hb1.output, hb1.size, hb1.block⟩ : Below w0.heap.size w0 w1))
  refine hK.out _ _ (show w1.cell? ⟨w.heap.size + 1 + 1, 4, none⟩ = some (.int .i64 t.told) from cellOf HB1.out.tb 4) (fun hH0 => ?_)
  clear hK K hM hb1
  try simp only [Act.put, List.setIfInBounds_toArray, List.set_cons_zero, List.set_cons_succ]
  refine wpAnyH_ready (rs := [3]) (by kernel_rfl) (by simp) ?_
  refine AllReadyH.cons (o := { dst := some 17, op := Op.lookup 77 (Operand.tmp 16) (Operand.const (Value.string { data := #[100, 101, 108, 97, 121, 101, 100] })) false, type := 76, pos := "judge.go:134", after := #[{ on := 2, ground := Ground.data }], guard := none }) rfl (fun K hK => ?_) AllReadyH.nil
  go_simp
  refine hK.out _ _ (show w1.cell? ⟨w.heap.size + 1 + 1, 4, none⟩ = some (.int .i64 t.told) from cellOf HB1.out.tb 4) (fun hH1 => ?_)
  clear hK K lk hH0
  try simp only [Act.put, List.setIfInBounds_toArray, List.set_cons_zero, List.set_cons_succ]
  refine wpAnyH_take (i := 4) (oi := { dst := some 18, op := Op.field 76 (Operand.tmp 17) 0, type := 3, pos := "judge.go:134", after := #[{ on := 3, ground := Ground.data }], guard := none }) (v := .int .i64 1) rfl (by kernel_rfl) (by kernel_rfl) (by kernel_rfl) (fun _ _ _ h => h) (Or.inl ⟨by kernel_rfl, fun wz hz => by kernel_rfl⟩) hH1 ?_
  try simp only [Act.put, List.setIfInBounds_toArray, List.set_cons_zero, List.set_cons_succ]
  refine wpAnyH_take (i := 5) (oi := { dst := some 19, op := Op.binOp BinOp.and 3 (Operand.tmp 15) (Operand.tmp 18) 3, type := 3, pos := "judge.go:134", after := #[{ on := 1, ground := Ground.data }, { on := 4, ground := Ground.data }], guard := none }) (v := .int .i64 (bits .and .i64 t.told 1)) rfl (by kernel_rfl) (by kernel_rfl) (by kernel_rfl) (fun _ _ _ h => h) (Or.inl ⟨by kernel_rfl, fun wz hz => by go_simp⟩) hH1 ?_
  try simp only [Act.put, List.setIfInBounds_toArray, List.set_cons_zero, List.set_cons_succ]
  refine wpAnyH_take (i := 6) (oi := { dst := some 20, op := Op.binOp BinOp.eql 3 (Operand.tmp 19) (Operand.const (Value.int IntKind.i64 0)) 3, type := 4, pos := "judge.go:134", after := #[{ on := 5, ground := Ground.data }], guard := none }) (v := .bool (bits .and .i64 t.told 1 == 0)) rfl (by kernel_rfl) (by kernel_rfl) (by kernel_rfl) (fun _ _ _ h => h) (Or.inl ⟨by kernel_rfl, fun wz hz => by go_simp⟩) hH1 ?_
  try simp only [Act.put, List.setIfInBounds_toArray, List.set_cons_zero, List.set_cons_succ]
  refine wpAnyH_take (i := 7) (oi := { dst := some 7, op := Op.assign (Operand.tmp 20), type := 4, pos := "judge.go:134", after := #[{ on := 6, ground := Ground.data }, { on := 2, ground := Ground.chain }, { on := 0, ground := Ground.phase }, { on := 1, ground := Ground.phase }, { on := 2, ground := Ground.phase }, { on := 3, ground := Ground.phase }, { on := 4, ground := Ground.phase }, { on := 5, ground := Ground.phase }, { on := 6, ground := Ground.phase }], guard := none }) (v := .bool (bits .and .i64 t.told 1 == 0)) rfl (by kernel_rfl) (by kernel_rfl) (by kernel_rfl) (fun _ _ _ h => h) (Or.inl ⟨by kernel_rfl, fun wz hz => by kernel_rfl⟩) hH1 ?_
  try simp only [Act.put, List.setIfInBounds_toArray, List.set_cons_zero, List.set_cons_succ]
  refine wpAnyH_done (by kernel_rfl) ?_ _
  rw [HQ.out]
  clear hH hH1
  go_wp2_with fail
  have HCE := Lib.hid (fun w2 (h : XB w p x vr vl t w2) => show w2.cell? ⟨w.heap.size + 1 + 1, 3, none⟩ = some (.int .i64 t.ne) ∧ (loadVar 23 ⟨w.heap.size, 0, none⟩).run Tryz.prog w2 = .ok (plA p) w2 ∧ (loadVar 33 ⟨w.heap.size + 1, 0, none⟩).run Tryz.prog w2 = .ok (.agg (EC x vr vl)) w2 from ⟨cellOf h.tb 3, jl_plan h.pb, jl_msg h.mb⟩)
  have HB1d := Lib.hid (HB1.out.next (Below.refl _ _).drew)
  refine wp_region_held_drew (S := fun wr => wr.cell? ⟨w.heap.size + 1 + 1, 3, none⟩ = some (.int .i64 t.ne) ∧ (loadVar 23 ⟨w.heap.size, 0, none⟩).run Tryz.prog wr = .ok (plA p) wr ∧ (loadVar 33 ⟨w.heap.size + 1, 0, none⟩).run Tryz.prog wr = .ok (.agg (EC x vr vl)) wr) (by kernel_rfl) (HCE.out _ HB1d.out) (fun hH => ?_)
  refine wpAnyH_take (i := 0) (oi := { dst := some 21, op := Op.fieldAddr 41 (Operand.tmp 5) 3, type := 0, pos := "judge.go:135", after := #[], guard := none }) (v := .pointer (some ⟨w.heap.size + 1 + 1, 3, none⟩)) rfl (by kernel_rfl) (by kernel_rfl) (by kernel_rfl) (fun _ _ _ h => h) (Or.inl ⟨by kernel_rfl, fun wz hz => by kernel_rfl⟩) hH ?_
  try simp only [Act.put, List.setIfInBounds_toArray, List.set_cons_zero, List.set_cons_succ]
  refine wpAnyH_take (i := 1) (oi := { dst := some 22, op := Op.load 3 (Operand.tmp 21), type := 3, pos := "judge.go:135", after := #[{ on := 0, ground := Ground.data }], guard := none }) (v := .int .i64 t.ne) rfl (by kernel_rfl) (by kernel_rfl) (by kernel_rfl) (fun _ _ _ h => h) (Or.inl ⟨by kernel_rfl, fun wz hz => by go_simp⟩) hH ?_
  try simp only [Act.put, List.setIfInBounds_toArray, List.set_cons_zero, List.set_cons_succ]
  refine wpAnyH_take (i := 2) (oi := { dst := some 23, op := Op.load 23 (Operand.tmp 3), type := 23, pos := "judge.go:135", after := #[], guard := none }) (v := plA p) rfl (by kernel_rfl) (by kernel_rfl) (by kernel_rfl) (fun _ _ _ h => h) (Or.inl ⟨by kernel_rfl, fun wz hz => jload_op _ ⟨rfl, rfl⟩ hz.2.1⟩) hH ?_
  try simp only [Act.put, List.setIfInBounds_toArray, List.set_cons_zero, List.set_cons_succ]
  refine wpAnyH_take (i := 3) (oi := { dst := some 24, op := Op.load 33 (Operand.tmp 4), type := 33, pos := "judge.go:135", after := #[], guard := none }) (v := .agg (EC x vr vl)) rfl (by kernel_rfl) (by kernel_rfl) (by kernel_rfl) (fun _ _ _ h => h) (Or.inl ⟨by kernel_rfl, fun wz hz => jload_op _ ⟨rfl, rfl⟩ hz.2.2⟩) hH ?_
  try simp only [Act.put, List.setIfInBounds_toArray, List.set_cons_zero, List.set_cons_succ]
  refine wpAnyH_ready (rs := [4]) (by kernel_rfl) (by simp) ?_
  refine AllReadyH.cons (o := { dst := some 25, op := Op.call { callee := Callee.value (Operand.func 14), args := #[Operand.tmp 23, Operand.tmp 24], argTypes := #[23, 33] }, type := 3, pos := "judge.go:135", after := #[{ on := 2, ground := Ground.data }, { on := 3, ground := Ground.data }], guard := none }) rfl (fun K hK => ?_) AllReadyH.nil
  go_simp
  go_at_call 14
  refine (HEX.out _).mono ?_
  rintro r2 w2 ⟨rfl, hb2⟩
  have HB2 := Lib.hid (HB1d.out.next hb2)
  refine hK.out _ _ (HCE.out _ HB2.out) (fun hH0 => ?_)
  clear hK K hb2
  try simp only [Act.put, List.setIfInBounds_toArray, List.set_cons_zero, List.set_cons_succ]
  refine wpAnyH_take (i := 5) (oi := { dst := some 26, op := Op.call { callee := Callee.builtin Builtin.min, args := #[Operand.tmp 22, Operand.tmp 25], argTypes := #[3, 3] }, type := 3, pos := "judge.go:135", after := #[{ on := 1, ground := Ground.data }, { on := 4, ground := Ground.data }], guard := none }) (v := .int .i64 (min t.ne (expJ p x))) rfl (by kernel_rfl) (by kernel_rfl) (by kernel_rfl) (fun _ _ _ h => h) (Or.inl ⟨by kernel_rfl, fun wz hz => by go_simp⟩) hH0 ?_
  try simp only [Act.put, List.setIfInBounds_toArray, List.set_cons_zero, List.set_cons_succ]
  refine wpAnyH_take (i := 6) (oi := { dst := some 8, op := Op.assign (Operand.tmp 26), type := 3, pos := "judge.go:135", after := #[{ on := 5, ground := Ground.data }, { on := 4, ground := Ground.chain }, { on := 0, ground := Ground.phase }, { on := 1, ground := Ground.phase }, { on := 2, ground := Ground.phase }, { on := 3, ground := Ground.phase }, { on := 4, ground := Ground.phase }, { on := 5, ground := Ground.phase }], guard := none }) (v := .int .i64 (min t.ne (expJ p x))) rfl (by kernel_rfl) (by kernel_rfl) (by kernel_rfl) (fun _ _ _ h => h) (Or.inl ⟨by kernel_rfl, fun wz hz => by kernel_rfl⟩) hH0 ?_
  try simp only [Act.put, List.setIfInBounds_toArray, List.set_cons_zero, List.set_cons_succ]
  refine wpAnyH_done (by kernel_rfl) ?_ _
  clear hH hH0 HCE
  go_wp2_with (first | ((with_reducible refine jis_load (ty := 33) (x := .tmp 4) rfl ?_); refine jload ?_ 33 (.tmp 4) rfl ((w.heap.size + 1)) 0 33 (EC x vr vl) (EC x vr vl) _ rfl HB2.out.mb Tryz.underlying33 rfl size_msg (fun j _ => by rw [Nat.zero_add]) ?_; (focus (first | rfl | (go_simp; done)))))
  refine (HDL.out _).mono ?_
  rintro e w3 ⟨rfl, hb⟩
  have HB3 := Lib.hid (HB2.out.next hb)
  clear hb HB2 HB1 HB1d HB0
  go_wp2_with (first | ((with_reducible refine jis_load (ty := 23) (x := .tmp 3) rfl ?_); refine jload ?_ 23 (.tmp 3) rfl (w.heap.size) 0 23 #[.int .i64 p.base, .int .i64 p.most, .int .i64 p.life, .int .i64 p.warn] #[.int .i64 p.base, .int .i64 p.most, .int .i64 p.life, .int .i64 p.warn] _ rfl HB3.out.pb Tryz.underlying23 rfl jsize_plan (fun j _ => by rw [Nat.zero_add]) ?_; (focus (first | rfl | (go_simp; done)))) | ((with_reducible refine jis_load (ty := 33) (x := .tmp 4) rfl ?_); refine jload ?_ 33 (.tmp 4) rfl ((w.heap.size + 1)) 0 33 (EC x vr vl) (EC x vr vl) _ rfl HB3.out.mb Tryz.underlying33 rfl size_msg (fun j _ => by rw [Nat.zero_add]) ?_; (focus (first | rfl | (go_simp; done)))))
  refine (HWA.out _).mono ?_
  rintro e w5 ⟨rfl, hb⟩
  have HB5 := Lib.hid (HB3.out.next hb)
  clear hb
  go_wp2_with fail
  go_ret
  exact ⟨ret_int (by have := HHR.out; omega), HB5.out.below⟩
set_option maxHeartbeats 16000000 in
theorem alarm_ff (p : PJ) (x : EM) (vr vl : Value) (t : ST) (w : World) (hp : okP p = true) (hx : BdJ x) (h0 : 0 ≤ t.told) (h7 : t.told ≤ 7) (hst : (t.st == [82]) = true) (hq : hasB t.told 1 = true) (hhb : x.m.hb = false) (r : Int) (hr : r = min t.ne (expJ p x)) :
    Calls Tryz.prog 16 #[.agg #[.int .i64 p.base, .int .i64 p.most, .int .i64 p.life, .int .i64 p.warn], .agg #[.int .i64 x.id, .int .i64 x.at_, .int .i64 x.rel, .string (mkS x.fr.1), .string (mkS x.fr.2), .bool x.m.hs, .bool x.m.hf, .bool x.m.hu, .bool x.m.hb, .bool x.m.hp, .int .i64 x.m.sz, .int .i64 x.m.fo, .int .i64 x.m.un, .int .i64 x.m.by_, .int .i64 x.m.pr, .string (mkS x.m.body), .string (mkS x.m.ret), .string (mkS x.m.env), .string (mkS x.m.mode), vr, vl], .agg #[.int .i64 t.pl, .string (mkS t.st), .int .i64 t.tr, .int .i64 t.ne, .int .i64 t.told]] w fun e w' => e = .returned (.int .i64 r) ∧ Below w.heap.size w w' := by
  have HB := Lib.hid (XB.new w p x vr vl t)
  have e1 : ((mkS t.st).toList == [82]) = (t.st == [82]) := by rw [mkS_toList]
  have HEX := Lib.hid (fun w => expires_x p x vr vl w hp hx)
  have HWA := Lib.hid (fun w => warned_x p x vr vl w hp hx)
  have HDL := Lib.hid (fun w => deadline_x x vr vl w hx)
  have HRT := Lib.hid (fun w => returned_x x.m w)
  have HHR := Lib.hid hr
  have HAN := Lib.hid (and_has h0 h7 (.inl rfl) : (bits .and .i64 t.told 1 != 0) = hasB t.told 1)
  unfold dlV at HDL
  rw [hst] at e1
  clear hp hx h0 h7 hr hst
  rw [hhb] at HDL
  simp only [Bool.false_eq_true, if_false] at HDL
  clear hhb
  have c1 : (((w.alloc (.cells #[.int .i64 p.base, .int .i64 p.most, .int .i64 p.life, .int .i64 p.warn] 23)).alloc (.cells (EC x vr vl) 33)).alloc (.cells (TC t) 41)).cell? ⟨w.heap.size + 1 + 1, 1, none⟩ = some (.string (mkS t.st)) := cellOf HB.out.tb 1
  unfold EC TC at c1
  go_enter Tryz.func16, Tryz.ntmps16
  go_wp2_with fail
  have HQ := Lib.hid (show (bits .and .i64 t.told 1 == 0) = false by
    have := HAN.out
    rw [hq] at this
    cases hz : bits .and .i64 t.told 1 == 0 with
    | false => first | rfl | (rw [bne, hz] at this; cases this)
    | true => first | rfl | (rw [bne, hz] at this; cases this))
  clear hq c1
  generalize hW0 : ((w.alloc (.cells #[.int .i64 p.base, .int .i64 p.most, .int .i64 p.life, .int .i64 p.warn] 23)).alloc _).alloc _ = w0
  have HB0 := Lib.hid (show XB w p x vr vl t w0 by rw [← hW0]; exact HB.out)
  clear HB hW0
  have HC0 := Lib.hid (show w0.drew.cell? ⟨w.heap.size + 1 + 1, 4, none⟩ = some (.int .i64 t.told) from cellOf (show w0.drew.heap[w.heap.size + 1 + 1]? = _ from HB0.out.tb) 4)
  have HKI := Lib.hid (kinds_x w0.drew)
  have HLK := Lib.hid (fun (w1 : World) (M : Nat) (hM : MapIs w1 M 4 kdF) => hM.look Tryz.underlying77 (z := zKd) (by kernel_rfl) (show kD.name.length ≤ 1000000000 by decide))
  rw [show kdF kD.name = some (kdA kD) from rfl] at HLK
  refine wp_region_held_drew (S := fun wr => wr.cell? ⟨w.heap.size + 1 + 1, 4, none⟩ = some (.int .i64 t.told)) (by kernel_rfl) HC0.out (fun hH => ?_)
  refine wpAnyH_take (i := 0) (oi := { dst := some 14, op := Op.fieldAddr 41 (Operand.tmp 5) 4, type := 0, pos := "judge.go:134", after := #[], guard := none }) (v := .pointer (some ⟨w.heap.size + 1 + 1, 4, none⟩)) rfl (by kernel_rfl) (by kernel_rfl) (by kernel_rfl) (fun _ _ _ h => h) (Or.inl ⟨by kernel_rfl, fun wz hz => by kernel_rfl⟩) hH ?_
  try simp only [Act.put, List.setIfInBounds_toArray, List.set_cons_zero, List.set_cons_succ]
  refine wpAnyH_take (i := 1) (oi := { dst := some 15, op := Op.load 3 (Operand.tmp 14), type := 3, pos := "judge.go:134", after := #[{ on := 0, ground := Ground.data }], guard := none }) (v := .int .i64 t.told) rfl (by kernel_rfl) (by kernel_rfl) (by kernel_rfl) (fun _ _ _ h => h) (Or.inl ⟨by kernel_rfl, fun wz hz => by go_simp⟩) hH ?_
  try simp only [Act.put, List.setIfInBounds_toArray, List.set_cons_zero, List.set_cons_succ]
  refine wpAnyH_ready (rs := [2]) (by kernel_rfl) (by simp) ?_
  refine AllReadyH.cons (o := { dst := some 16, op := Op.call { callee := Callee.value (Operand.func 28), args := #[], argTypes := #[] }, type := 77, pos := "judge.go:134", after := #[], guard := none }) rfl (fun K hK => ?_) AllReadyH.nil
  go_simp
  go_at_call 28
  refine HKI.out.mono ?_
  rintro r1 w1 ⟨M, rfl, hb1, hM⟩
  have lk := HLK.out w1 M hM
  simp only [Option.getD_some] at lk
  rw [show kdA kD = .agg #[.int .i64 1, .string ⟨#[68]⟩, .bool true] from rfl] at lk
  rw [show mkS kD.name = { data := #[100, 101, 108, 97, 121, 101, 100] } from rfl] at lk
  have HB1 := Lib.hid (HB0.out.next (⟨hb1.os, hb1.tape, hb1.output, hb1.size, hb1.block⟩ : Below w0.heap.size w0 w1))
  refine hK.out _ _ (show w1.cell? ⟨w.heap.size + 1 + 1, 4, none⟩ = some (.int .i64 t.told) from cellOf HB1.out.tb 4) (fun hH0 => ?_)
  clear hK K hM hb1
  try simp only [Act.put, List.setIfInBounds_toArray, List.set_cons_zero, List.set_cons_succ]
  refine wpAnyH_ready (rs := [3]) (by kernel_rfl) (by simp) ?_
  refine AllReadyH.cons (o := { dst := some 17, op := Op.lookup 77 (Operand.tmp 16) (Operand.const (Value.string { data := #[100, 101, 108, 97, 121, 101, 100] })) false, type := 76, pos := "judge.go:134", after := #[{ on := 2, ground := Ground.data }], guard := none }) rfl (fun K hK => ?_) AllReadyH.nil
  go_simp
  refine hK.out _ _ (show w1.cell? ⟨w.heap.size + 1 + 1, 4, none⟩ = some (.int .i64 t.told) from cellOf HB1.out.tb 4) (fun hH1 => ?_)
  clear hK K lk hH0
  try simp only [Act.put, List.setIfInBounds_toArray, List.set_cons_zero, List.set_cons_succ]
  refine wpAnyH_take (i := 4) (oi := { dst := some 18, op := Op.field 76 (Operand.tmp 17) 0, type := 3, pos := "judge.go:134", after := #[{ on := 3, ground := Ground.data }], guard := none }) (v := .int .i64 1) rfl (by kernel_rfl) (by kernel_rfl) (by kernel_rfl) (fun _ _ _ h => h) (Or.inl ⟨by kernel_rfl, fun wz hz => by kernel_rfl⟩) hH1 ?_
  try simp only [Act.put, List.setIfInBounds_toArray, List.set_cons_zero, List.set_cons_succ]
  refine wpAnyH_take (i := 5) (oi := { dst := some 19, op := Op.binOp BinOp.and 3 (Operand.tmp 15) (Operand.tmp 18) 3, type := 3, pos := "judge.go:134", after := #[{ on := 1, ground := Ground.data }, { on := 4, ground := Ground.data }], guard := none }) (v := .int .i64 (bits .and .i64 t.told 1)) rfl (by kernel_rfl) (by kernel_rfl) (by kernel_rfl) (fun _ _ _ h => h) (Or.inl ⟨by kernel_rfl, fun wz hz => by go_simp⟩) hH1 ?_
  try simp only [Act.put, List.setIfInBounds_toArray, List.set_cons_zero, List.set_cons_succ]
  refine wpAnyH_take (i := 6) (oi := { dst := some 20, op := Op.binOp BinOp.eql 3 (Operand.tmp 19) (Operand.const (Value.int IntKind.i64 0)) 3, type := 4, pos := "judge.go:134", after := #[{ on := 5, ground := Ground.data }], guard := none }) (v := .bool (bits .and .i64 t.told 1 == 0)) rfl (by kernel_rfl) (by kernel_rfl) (by kernel_rfl) (fun _ _ _ h => h) (Or.inl ⟨by kernel_rfl, fun wz hz => by go_simp⟩) hH1 ?_
  try simp only [Act.put, List.setIfInBounds_toArray, List.set_cons_zero, List.set_cons_succ]
  refine wpAnyH_take (i := 7) (oi := { dst := some 7, op := Op.assign (Operand.tmp 20), type := 4, pos := "judge.go:134", after := #[{ on := 6, ground := Ground.data }, { on := 2, ground := Ground.chain }, { on := 0, ground := Ground.phase }, { on := 1, ground := Ground.phase }, { on := 2, ground := Ground.phase }, { on := 3, ground := Ground.phase }, { on := 4, ground := Ground.phase }, { on := 5, ground := Ground.phase }, { on := 6, ground := Ground.phase }], guard := none }) (v := .bool (bits .and .i64 t.told 1 == 0)) rfl (by kernel_rfl) (by kernel_rfl) (by kernel_rfl) (fun _ _ _ h => h) (Or.inl ⟨by kernel_rfl, fun wz hz => by kernel_rfl⟩) hH1 ?_
  try simp only [Act.put, List.setIfInBounds_toArray, List.set_cons_zero, List.set_cons_succ]
  refine wpAnyH_done (by kernel_rfl) ?_ _
  rw [HQ.out]
  clear hH hH1
  go_wp2_with fail
  have HCE := Lib.hid (fun w2 (h : XB w p x vr vl t w2) => show w2.cell? ⟨w.heap.size + 1 + 1, 3, none⟩ = some (.int .i64 t.ne) ∧ (loadVar 23 ⟨w.heap.size, 0, none⟩).run Tryz.prog w2 = .ok (plA p) w2 ∧ (loadVar 33 ⟨w.heap.size + 1, 0, none⟩).run Tryz.prog w2 = .ok (.agg (EC x vr vl)) w2 from ⟨cellOf h.tb 3, jl_plan h.pb, jl_msg h.mb⟩)
  have HB1d := Lib.hid (HB1.out.next (Below.refl _ _).drew)
  refine wp_region_held_drew (S := fun wr => wr.cell? ⟨w.heap.size + 1 + 1, 3, none⟩ = some (.int .i64 t.ne) ∧ (loadVar 23 ⟨w.heap.size, 0, none⟩).run Tryz.prog wr = .ok (plA p) wr ∧ (loadVar 33 ⟨w.heap.size + 1, 0, none⟩).run Tryz.prog wr = .ok (.agg (EC x vr vl)) wr) (by kernel_rfl) (HCE.out _ HB1d.out) (fun hH => ?_)
  refine wpAnyH_take (i := 0) (oi := { dst := some 21, op := Op.fieldAddr 41 (Operand.tmp 5) 3, type := 0, pos := "judge.go:135", after := #[], guard := none }) (v := .pointer (some ⟨w.heap.size + 1 + 1, 3, none⟩)) rfl (by kernel_rfl) (by kernel_rfl) (by kernel_rfl) (fun _ _ _ h => h) (Or.inl ⟨by kernel_rfl, fun wz hz => by kernel_rfl⟩) hH ?_
  try simp only [Act.put, List.setIfInBounds_toArray, List.set_cons_zero, List.set_cons_succ]
  refine wpAnyH_take (i := 1) (oi := { dst := some 22, op := Op.load 3 (Operand.tmp 21), type := 3, pos := "judge.go:135", after := #[{ on := 0, ground := Ground.data }], guard := none }) (v := .int .i64 t.ne) rfl (by kernel_rfl) (by kernel_rfl) (by kernel_rfl) (fun _ _ _ h => h) (Or.inl ⟨by kernel_rfl, fun wz hz => by go_simp⟩) hH ?_
  try simp only [Act.put, List.setIfInBounds_toArray, List.set_cons_zero, List.set_cons_succ]
  refine wpAnyH_take (i := 2) (oi := { dst := some 23, op := Op.load 23 (Operand.tmp 3), type := 23, pos := "judge.go:135", after := #[], guard := none }) (v := plA p) rfl (by kernel_rfl) (by kernel_rfl) (by kernel_rfl) (fun _ _ _ h => h) (Or.inl ⟨by kernel_rfl, fun wz hz => jload_op _ ⟨rfl, rfl⟩ hz.2.1⟩) hH ?_
  try simp only [Act.put, List.setIfInBounds_toArray, List.set_cons_zero, List.set_cons_succ]
  refine wpAnyH_take (i := 3) (oi := { dst := some 24, op := Op.load 33 (Operand.tmp 4), type := 33, pos := "judge.go:135", after := #[], guard := none }) (v := .agg (EC x vr vl)) rfl (by kernel_rfl) (by kernel_rfl) (by kernel_rfl) (fun _ _ _ h => h) (Or.inl ⟨by kernel_rfl, fun wz hz => jload_op _ ⟨rfl, rfl⟩ hz.2.2⟩) hH ?_
  try simp only [Act.put, List.setIfInBounds_toArray, List.set_cons_zero, List.set_cons_succ]
  refine wpAnyH_ready (rs := [4]) (by kernel_rfl) (by simp) ?_
  refine AllReadyH.cons (o := { dst := some 25, op := Op.call { callee := Callee.value (Operand.func 14), args := #[Operand.tmp 23, Operand.tmp 24], argTypes := #[23, 33] }, type := 3, pos := "judge.go:135", after := #[{ on := 2, ground := Ground.data }, { on := 3, ground := Ground.data }], guard := none }) rfl (fun K hK => ?_) AllReadyH.nil
  go_simp
  go_at_call 14
  refine (HEX.out _).mono ?_
  rintro r2 w2 ⟨rfl, hb2⟩
  have HB2 := Lib.hid (HB1d.out.next hb2)
  refine hK.out _ _ (HCE.out _ HB2.out) (fun hH0 => ?_)
  clear hK K hb2
  try simp only [Act.put, List.setIfInBounds_toArray, List.set_cons_zero, List.set_cons_succ]
  refine wpAnyH_take (i := 5) (oi := { dst := some 26, op := Op.call { callee := Callee.builtin Builtin.min, args := #[Operand.tmp 22, Operand.tmp 25], argTypes := #[3, 3] }, type := 3, pos := "judge.go:135", after := #[{ on := 1, ground := Ground.data }, { on := 4, ground := Ground.data }], guard := none }) (v := .int .i64 (min t.ne (expJ p x))) rfl (by kernel_rfl) (by kernel_rfl) (by kernel_rfl) (fun _ _ _ h => h) (Or.inl ⟨by kernel_rfl, fun wz hz => by go_simp⟩) hH0 ?_
  try simp only [Act.put, List.setIfInBounds_toArray, List.set_cons_zero, List.set_cons_succ]
  refine wpAnyH_take (i := 6) (oi := { dst := some 8, op := Op.assign (Operand.tmp 26), type := 3, pos := "judge.go:135", after := #[{ on := 5, ground := Ground.data }, { on := 4, ground := Ground.chain }, { on := 0, ground := Ground.phase }, { on := 1, ground := Ground.phase }, { on := 2, ground := Ground.phase }, { on := 3, ground := Ground.phase }, { on := 4, ground := Ground.phase }, { on := 5, ground := Ground.phase }], guard := none }) (v := .int .i64 (min t.ne (expJ p x))) rfl (by kernel_rfl) (by kernel_rfl) (by kernel_rfl) (fun _ _ _ h => h) (Or.inl ⟨by kernel_rfl, fun wz hz => by kernel_rfl⟩) hH0 ?_
  try simp only [Act.put, List.setIfInBounds_toArray, List.set_cons_zero, List.set_cons_succ]
  refine wpAnyH_done (by kernel_rfl) ?_ _
  clear hH hH0 HCE
  go_wp2_with (first | ((with_reducible refine jis_load (ty := 33) (x := .tmp 4) rfl ?_); refine jload ?_ 33 (.tmp 4) rfl ((w.heap.size + 1)) 0 33 (EC x vr vl) (EC x vr vl) _ rfl HB2.out.mb Tryz.underlying33 rfl size_msg (fun j _ => by rw [Nat.zero_add]) ?_; (focus (first | rfl | (go_simp; done)))))
  refine (HDL.out _).mono ?_
  rintro e w3 ⟨rfl, hb⟩
  have HB3 := Lib.hid (HB2.out.next hb)
  clear hb HB2 HB1 HB1d HB0
  go_wp2_with fail
  go_ret
  exact ⟨ret_int (by have := HHR.out; omega), HB3.out.below⟩
set_option maxHeartbeats 16000000 in
theorem alarm_tt (p : PJ) (x : EM) (vr vl : Value) (t : ST) (w : World) (hp : okP p = true) (hx : BdJ x) (h0 : 0 ≤ t.told) (h7 : t.told ≤ 7) (hst : (t.st == [82]) = true) (hq : hasB t.told 1 = false) (hhb : x.m.hb = true) (r : Int) (hr : r = min (min (min t.ne (expJ p x)) (dlJ x)) (warJ p x)) :
    Calls Tryz.prog 16 #[.agg #[.int .i64 p.base, .int .i64 p.most, .int .i64 p.life, .int .i64 p.warn], .agg #[.int .i64 x.id, .int .i64 x.at_, .int .i64 x.rel, .string (mkS x.fr.1), .string (mkS x.fr.2), .bool x.m.hs, .bool x.m.hf, .bool x.m.hu, .bool x.m.hb, .bool x.m.hp, .int .i64 x.m.sz, .int .i64 x.m.fo, .int .i64 x.m.un, .int .i64 x.m.by_, .int .i64 x.m.pr, .string (mkS x.m.body), .string (mkS x.m.ret), .string (mkS x.m.env), .string (mkS x.m.mode), vr, vl], .agg #[.int .i64 t.pl, .string (mkS t.st), .int .i64 t.tr, .int .i64 t.ne, .int .i64 t.told]] w fun e w' => e = .returned (.int .i64 r) ∧ Below w.heap.size w w' := by
  have HB := Lib.hid (XB.new w p x vr vl t)
  have e1 : ((mkS t.st).toList == [82]) = (t.st == [82]) := by rw [mkS_toList]
  have HEX := Lib.hid (fun w => expires_x p x vr vl w hp hx)
  have HWA := Lib.hid (fun w => warned_x p x vr vl w hp hx)
  have HDL := Lib.hid (fun w => deadline_x x vr vl w hx)
  have HRT := Lib.hid (fun w => returned_x x.m w)
  have HHR := Lib.hid hr
  have HAN := Lib.hid (and_has h0 h7 (.inl rfl) : (bits .and .i64 t.told 1 != 0) = hasB t.told 1)
  unfold dlV at HDL
  rw [hst] at e1
  clear hp hx h0 h7 hr hst
  rw [hhb] at HDL
  simp only [if_true] at HDL
  clear hhb
  have c1 : (((w.alloc (.cells #[.int .i64 p.base, .int .i64 p.most, .int .i64 p.life, .int .i64 p.warn] 23)).alloc (.cells (EC x vr vl) 33)).alloc (.cells (TC t) 41)).cell? ⟨w.heap.size + 1 + 1, 1, none⟩ = some (.string (mkS t.st)) := cellOf HB.out.tb 1
  unfold EC TC at c1
  go_enter Tryz.func16, Tryz.ntmps16
  go_wp2_with fail
  have HQ := Lib.hid (show (bits .and .i64 t.told 1 == 0) = true by
    have := HAN.out
    rw [hq] at this
    cases hz : bits .and .i64 t.told 1 == 0 with
    | false => first | rfl | (rw [bne, hz] at this; cases this)
    | true => first | rfl | (rw [bne, hz] at this; cases this))
  clear hq c1
  generalize hW0 : ((w.alloc (.cells #[.int .i64 p.base, .int .i64 p.most, .int .i64 p.life, .int .i64 p.warn] 23)).alloc _).alloc _ = w0
  have HB0 := Lib.hid (show XB w p x vr vl t w0 by rw [← hW0]; exact HB.out)
  clear HB hW0
  have HC0 := Lib.hid (show w0.drew.cell? ⟨w.heap.size + 1 + 1, 4, none⟩ = some (.int .i64 t.told) from cellOf (show w0.drew.heap[w.heap.size + 1 + 1]? = _ from HB0.out.tb) 4)
  have HKI := Lib.hid (kinds_x w0.drew)
  have HLK := Lib.hid (fun (w1 : World) (M : Nat) (hM : MapIs w1 M 4 kdF) => hM.look Tryz.underlying77 (z := zKd) (by kernel_rfl) (show kD.name.length ≤ 1000000000 by decide))
  rw [show kdF kD.name = some (kdA kD) from rfl] at HLK
  refine wp_region_held_drew (S := fun wr => wr.cell? ⟨w.heap.size + 1 + 1, 4, none⟩ = some (.int .i64 t.told)) (by kernel_rfl) HC0.out (fun hH => ?_)
  refine wpAnyH_take (i := 0) (oi := { dst := some 14, op := Op.fieldAddr 41 (Operand.tmp 5) 4, type := 0, pos := "judge.go:134", after := #[], guard := none }) (v := .pointer (some ⟨w.heap.size + 1 + 1, 4, none⟩)) rfl (by kernel_rfl) (by kernel_rfl) (by kernel_rfl) (fun _ _ _ h => h) (Or.inl ⟨by kernel_rfl, fun wz hz => by kernel_rfl⟩) hH ?_
  try simp only [Act.put, List.setIfInBounds_toArray, List.set_cons_zero, List.set_cons_succ]
  refine wpAnyH_take (i := 1) (oi := { dst := some 15, op := Op.load 3 (Operand.tmp 14), type := 3, pos := "judge.go:134", after := #[{ on := 0, ground := Ground.data }], guard := none }) (v := .int .i64 t.told) rfl (by kernel_rfl) (by kernel_rfl) (by kernel_rfl) (fun _ _ _ h => h) (Or.inl ⟨by kernel_rfl, fun wz hz => by go_simp⟩) hH ?_
  try simp only [Act.put, List.setIfInBounds_toArray, List.set_cons_zero, List.set_cons_succ]
  refine wpAnyH_ready (rs := [2]) (by kernel_rfl) (by simp) ?_
  refine AllReadyH.cons (o := { dst := some 16, op := Op.call { callee := Callee.value (Operand.func 28), args := #[], argTypes := #[] }, type := 77, pos := "judge.go:134", after := #[], guard := none }) rfl (fun K hK => ?_) AllReadyH.nil
  go_simp
  go_at_call 28
  refine HKI.out.mono ?_
  rintro r1 w1 ⟨M, rfl, hb1, hM⟩
  have lk := HLK.out w1 M hM
  simp only [Option.getD_some] at lk
  rw [show kdA kD = .agg #[.int .i64 1, .string ⟨#[68]⟩, .bool true] from rfl] at lk
  rw [show mkS kD.name = { data := #[100, 101, 108, 97, 121, 101, 100] } from rfl] at lk
  have HB1 := Lib.hid (HB0.out.next (⟨hb1.os, hb1.tape, hb1.output, hb1.size, hb1.block⟩ : Below w0.heap.size w0 w1))
  refine hK.out _ _ (show w1.cell? ⟨w.heap.size + 1 + 1, 4, none⟩ = some (.int .i64 t.told) from cellOf HB1.out.tb 4) (fun hH0 => ?_)
  clear hK K hM hb1
  try simp only [Act.put, List.setIfInBounds_toArray, List.set_cons_zero, List.set_cons_succ]
  refine wpAnyH_ready (rs := [3]) (by kernel_rfl) (by simp) ?_
  refine AllReadyH.cons (o := { dst := some 17, op := Op.lookup 77 (Operand.tmp 16) (Operand.const (Value.string { data := #[100, 101, 108, 97, 121, 101, 100] })) false, type := 76, pos := "judge.go:134", after := #[{ on := 2, ground := Ground.data }], guard := none }) rfl (fun K hK => ?_) AllReadyH.nil
  go_simp
  refine hK.out _ _ (show w1.cell? ⟨w.heap.size + 1 + 1, 4, none⟩ = some (.int .i64 t.told) from cellOf HB1.out.tb 4) (fun hH1 => ?_)
  clear hK K lk hH0
  try simp only [Act.put, List.setIfInBounds_toArray, List.set_cons_zero, List.set_cons_succ]
  refine wpAnyH_take (i := 4) (oi := { dst := some 18, op := Op.field 76 (Operand.tmp 17) 0, type := 3, pos := "judge.go:134", after := #[{ on := 3, ground := Ground.data }], guard := none }) (v := .int .i64 1) rfl (by kernel_rfl) (by kernel_rfl) (by kernel_rfl) (fun _ _ _ h => h) (Or.inl ⟨by kernel_rfl, fun wz hz => by kernel_rfl⟩) hH1 ?_
  try simp only [Act.put, List.setIfInBounds_toArray, List.set_cons_zero, List.set_cons_succ]
  refine wpAnyH_take (i := 5) (oi := { dst := some 19, op := Op.binOp BinOp.and 3 (Operand.tmp 15) (Operand.tmp 18) 3, type := 3, pos := "judge.go:134", after := #[{ on := 1, ground := Ground.data }, { on := 4, ground := Ground.data }], guard := none }) (v := .int .i64 (bits .and .i64 t.told 1)) rfl (by kernel_rfl) (by kernel_rfl) (by kernel_rfl) (fun _ _ _ h => h) (Or.inl ⟨by kernel_rfl, fun wz hz => by go_simp⟩) hH1 ?_
  try simp only [Act.put, List.setIfInBounds_toArray, List.set_cons_zero, List.set_cons_succ]
  refine wpAnyH_take (i := 6) (oi := { dst := some 20, op := Op.binOp BinOp.eql 3 (Operand.tmp 19) (Operand.const (Value.int IntKind.i64 0)) 3, type := 4, pos := "judge.go:134", after := #[{ on := 5, ground := Ground.data }], guard := none }) (v := .bool (bits .and .i64 t.told 1 == 0)) rfl (by kernel_rfl) (by kernel_rfl) (by kernel_rfl) (fun _ _ _ h => h) (Or.inl ⟨by kernel_rfl, fun wz hz => by go_simp⟩) hH1 ?_
  try simp only [Act.put, List.setIfInBounds_toArray, List.set_cons_zero, List.set_cons_succ]
  refine wpAnyH_take (i := 7) (oi := { dst := some 7, op := Op.assign (Operand.tmp 20), type := 4, pos := "judge.go:134", after := #[{ on := 6, ground := Ground.data }, { on := 2, ground := Ground.chain }, { on := 0, ground := Ground.phase }, { on := 1, ground := Ground.phase }, { on := 2, ground := Ground.phase }, { on := 3, ground := Ground.phase }, { on := 4, ground := Ground.phase }, { on := 5, ground := Ground.phase }, { on := 6, ground := Ground.phase }], guard := none }) (v := .bool (bits .and .i64 t.told 1 == 0)) rfl (by kernel_rfl) (by kernel_rfl) (by kernel_rfl) (fun _ _ _ h => h) (Or.inl ⟨by kernel_rfl, fun wz hz => by kernel_rfl⟩) hH1 ?_
  try simp only [Act.put, List.setIfInBounds_toArray, List.set_cons_zero, List.set_cons_succ]
  refine wpAnyH_done (by kernel_rfl) ?_ _
  rw [HQ.out]
  clear hH hH1
  go_wp2_with fail
  have HCE := Lib.hid (fun w2 (h : XB w p x vr vl t w2) => show w2.cell? ⟨w.heap.size + 1 + 1, 3, none⟩ = some (.int .i64 t.ne) ∧ (loadVar 23 ⟨w.heap.size, 0, none⟩).run Tryz.prog w2 = .ok (plA p) w2 ∧ (loadVar 33 ⟨w.heap.size + 1, 0, none⟩).run Tryz.prog w2 = .ok (.agg (EC x vr vl)) w2 from ⟨cellOf h.tb 3, jl_plan h.pb, jl_msg h.mb⟩)
  have HB1d := Lib.hid (HB1.out.next (Below.refl _ _).drew)
  refine wp_region_held_drew (S := fun wr => wr.cell? ⟨w.heap.size + 1 + 1, 3, none⟩ = some (.int .i64 t.ne) ∧ (loadVar 23 ⟨w.heap.size, 0, none⟩).run Tryz.prog wr = .ok (plA p) wr ∧ (loadVar 33 ⟨w.heap.size + 1, 0, none⟩).run Tryz.prog wr = .ok (.agg (EC x vr vl)) wr) (by kernel_rfl) (HCE.out _ HB1d.out) (fun hH => ?_)
  refine wpAnyH_take (i := 0) (oi := { dst := some 21, op := Op.fieldAddr 41 (Operand.tmp 5) 3, type := 0, pos := "judge.go:135", after := #[], guard := none }) (v := .pointer (some ⟨w.heap.size + 1 + 1, 3, none⟩)) rfl (by kernel_rfl) (by kernel_rfl) (by kernel_rfl) (fun _ _ _ h => h) (Or.inl ⟨by kernel_rfl, fun wz hz => by kernel_rfl⟩) hH ?_
  try simp only [Act.put, List.setIfInBounds_toArray, List.set_cons_zero, List.set_cons_succ]
  refine wpAnyH_take (i := 1) (oi := { dst := some 22, op := Op.load 3 (Operand.tmp 21), type := 3, pos := "judge.go:135", after := #[{ on := 0, ground := Ground.data }], guard := none }) (v := .int .i64 t.ne) rfl (by kernel_rfl) (by kernel_rfl) (by kernel_rfl) (fun _ _ _ h => h) (Or.inl ⟨by kernel_rfl, fun wz hz => by go_simp⟩) hH ?_
  try simp only [Act.put, List.setIfInBounds_toArray, List.set_cons_zero, List.set_cons_succ]
  refine wpAnyH_take (i := 2) (oi := { dst := some 23, op := Op.load 23 (Operand.tmp 3), type := 23, pos := "judge.go:135", after := #[], guard := none }) (v := plA p) rfl (by kernel_rfl) (by kernel_rfl) (by kernel_rfl) (fun _ _ _ h => h) (Or.inl ⟨by kernel_rfl, fun wz hz => jload_op _ ⟨rfl, rfl⟩ hz.2.1⟩) hH ?_
  try simp only [Act.put, List.setIfInBounds_toArray, List.set_cons_zero, List.set_cons_succ]
  refine wpAnyH_take (i := 3) (oi := { dst := some 24, op := Op.load 33 (Operand.tmp 4), type := 33, pos := "judge.go:135", after := #[], guard := none }) (v := .agg (EC x vr vl)) rfl (by kernel_rfl) (by kernel_rfl) (by kernel_rfl) (fun _ _ _ h => h) (Or.inl ⟨by kernel_rfl, fun wz hz => jload_op _ ⟨rfl, rfl⟩ hz.2.2⟩) hH ?_
  try simp only [Act.put, List.setIfInBounds_toArray, List.set_cons_zero, List.set_cons_succ]
  refine wpAnyH_ready (rs := [4]) (by kernel_rfl) (by simp) ?_
  refine AllReadyH.cons (o := { dst := some 25, op := Op.call { callee := Callee.value (Operand.func 14), args := #[Operand.tmp 23, Operand.tmp 24], argTypes := #[23, 33] }, type := 3, pos := "judge.go:135", after := #[{ on := 2, ground := Ground.data }, { on := 3, ground := Ground.data }], guard := none }) rfl (fun K hK => ?_) AllReadyH.nil
  go_simp
  go_at_call 14
  refine (HEX.out _).mono ?_
  rintro r2 w2 ⟨rfl, hb2⟩
  have HB2 := Lib.hid (HB1d.out.next hb2)
  refine hK.out _ _ (HCE.out _ HB2.out) (fun hH0 => ?_)
  clear hK K hb2
  try simp only [Act.put, List.setIfInBounds_toArray, List.set_cons_zero, List.set_cons_succ]
  refine wpAnyH_take (i := 5) (oi := { dst := some 26, op := Op.call { callee := Callee.builtin Builtin.min, args := #[Operand.tmp 22, Operand.tmp 25], argTypes := #[3, 3] }, type := 3, pos := "judge.go:135", after := #[{ on := 1, ground := Ground.data }, { on := 4, ground := Ground.data }], guard := none }) (v := .int .i64 (min t.ne (expJ p x))) rfl (by kernel_rfl) (by kernel_rfl) (by kernel_rfl) (fun _ _ _ h => h) (Or.inl ⟨by kernel_rfl, fun wz hz => by go_simp⟩) hH0 ?_
  try simp only [Act.put, List.setIfInBounds_toArray, List.set_cons_zero, List.set_cons_succ]
  refine wpAnyH_take (i := 6) (oi := { dst := some 8, op := Op.assign (Operand.tmp 26), type := 3, pos := "judge.go:135", after := #[{ on := 5, ground := Ground.data }, { on := 4, ground := Ground.chain }, { on := 0, ground := Ground.phase }, { on := 1, ground := Ground.phase }, { on := 2, ground := Ground.phase }, { on := 3, ground := Ground.phase }, { on := 4, ground := Ground.phase }, { on := 5, ground := Ground.phase }], guard := none }) (v := .int .i64 (min t.ne (expJ p x))) rfl (by kernel_rfl) (by kernel_rfl) (by kernel_rfl) (fun _ _ _ h => h) (Or.inl ⟨by kernel_rfl, fun wz hz => by kernel_rfl⟩) hH0 ?_
  try simp only [Act.put, List.setIfInBounds_toArray, List.set_cons_zero, List.set_cons_succ]
  refine wpAnyH_done (by kernel_rfl) ?_ _
  clear hH hH0 HCE
  go_wp2_with (first | ((with_reducible refine jis_load (ty := 33) (x := .tmp 4) rfl ?_); refine jload ?_ 33 (.tmp 4) rfl ((w.heap.size + 1)) 0 33 (EC x vr vl) (EC x vr vl) _ rfl HB2.out.mb Tryz.underlying33 rfl size_msg (fun j _ => by rw [Nat.zero_add]) ?_; (focus (first | rfl | (go_simp; done)))))
  refine (HDL.out _).mono ?_
  rintro e w3 ⟨rfl, hb⟩
  have HB3 := Lib.hid (HB2.out.next hb)
  clear hb HB2 HB1 HB1d HB0
  go_wp2_with (first | ((with_reducible refine jis_load (ty := 23) (x := .tmp 3) rfl ?_); refine jload ?_ 23 (.tmp 3) rfl (w.heap.size) 0 23 #[.int .i64 p.base, .int .i64 p.most, .int .i64 p.life, .int .i64 p.warn] #[.int .i64 p.base, .int .i64 p.most, .int .i64 p.life, .int .i64 p.warn] _ rfl HB3.out.pb Tryz.underlying23 rfl jsize_plan (fun j _ => by rw [Nat.zero_add]) ?_; (focus (first | rfl | (go_simp; done)))) | ((with_reducible refine jis_load (ty := 33) (x := .tmp 4) rfl ?_); refine jload ?_ 33 (.tmp 4) rfl ((w.heap.size + 1)) 0 33 (EC x vr vl) (EC x vr vl) _ rfl HB3.out.mb Tryz.underlying33 rfl size_msg (fun j _ => by rw [Nat.zero_add]) ?_; (focus (first | rfl | (go_simp; done)))))
  refine (HWA.out _).mono ?_
  rintro e w5 ⟨rfl, hb⟩
  have HB5 := Lib.hid (HB3.out.next hb)
  clear hb
  go_wp2_with fail
  go_ret
  exact ⟨ret_int (by have := HHR.out; omega), HB5.out.below⟩
set_option maxHeartbeats 16000000 in
theorem alarm_tfb (p : PJ) (x : EM) (vr vl : Value) (t : ST) (w : World) (hp : okP p = true) (hx : BdJ x) (h0 : 0 ≤ t.told) (h7 : t.told ≤ 7) (hst : (t.st == [82]) = true) (hq : hasB t.told 1 = true) (hhb : x.m.hb = true) (hbb : backB x.m.mode = true) (r : Int) (hr : r = min (min t.ne (expJ p x)) (dlJ x)) :
    Calls Tryz.prog 16 #[.agg #[.int .i64 p.base, .int .i64 p.most, .int .i64 p.life, .int .i64 p.warn], .agg #[.int .i64 x.id, .int .i64 x.at_, .int .i64 x.rel, .string (mkS x.fr.1), .string (mkS x.fr.2), .bool x.m.hs, .bool x.m.hf, .bool x.m.hu, .bool x.m.hb, .bool x.m.hp, .int .i64 x.m.sz, .int .i64 x.m.fo, .int .i64 x.m.un, .int .i64 x.m.by_, .int .i64 x.m.pr, .string (mkS x.m.body), .string (mkS x.m.ret), .string (mkS x.m.env), .string (mkS x.m.mode), vr, vl], .agg #[.int .i64 t.pl, .string (mkS t.st), .int .i64 t.tr, .int .i64 t.ne, .int .i64 t.told]] w fun e w' => e = .returned (.int .i64 r) ∧ Below w.heap.size w w' := by
  have HB := Lib.hid (XB.new w p x vr vl t)
  have e1 : ((mkS t.st).toList == [82]) = (t.st == [82]) := by rw [mkS_toList]
  have HEX := Lib.hid (fun w => expires_x p x vr vl w hp hx)
  have HWA := Lib.hid (fun w => warned_x p x vr vl w hp hx)
  have HDL := Lib.hid (fun w => deadline_x x vr vl w hx)
  have HRT := Lib.hid (fun w => returned_x x.m w)
  have HHR := Lib.hid hr
  have HAN := Lib.hid (and_has h0 h7 (.inl rfl) : (bits .and .i64 t.told 1 != 0) = hasB t.told 1)
  unfold dlV at HDL
  rw [hst] at e1
  clear hp hx h0 h7 hr hst
  rw [hhb] at HDL
  simp only [if_true] at HDL
  clear hhb
  have c1 : (((w.alloc (.cells #[.int .i64 p.base, .int .i64 p.most, .int .i64 p.life, .int .i64 p.warn] 23)).alloc (.cells (EC x vr vl) 33)).alloc (.cells (TC t) 41)).cell? ⟨w.heap.size + 1 + 1, 1, none⟩ = some (.string (mkS t.st)) := cellOf HB.out.tb 1
  unfold EC TC at c1
  go_enter Tryz.func16, Tryz.ntmps16
  go_wp2_with fail
  have HQ := Lib.hid (show (bits .and .i64 t.told 1 == 0) = false by
    have := HAN.out
    rw [hq] at this
    cases hz : bits .and .i64 t.told 1 == 0 with
    | false => first | rfl | (rw [bne, hz] at this; cases this)
    | true => first | rfl | (rw [bne, hz] at this; cases this))
  clear hq c1
  generalize hW0 : ((w.alloc (.cells #[.int .i64 p.base, .int .i64 p.most, .int .i64 p.life, .int .i64 p.warn] 23)).alloc _).alloc _ = w0
  have HB0 := Lib.hid (show XB w p x vr vl t w0 by rw [← hW0]; exact HB.out)
  clear HB hW0
  have HC0 := Lib.hid (show w0.drew.cell? ⟨w.heap.size + 1 + 1, 4, none⟩ = some (.int .i64 t.told) from cellOf (show w0.drew.heap[w.heap.size + 1 + 1]? = _ from HB0.out.tb) 4)
  have HKI := Lib.hid (kinds_x w0.drew)
  have HLK := Lib.hid (fun (w1 : World) (M : Nat) (hM : MapIs w1 M 4 kdF) => hM.look Tryz.underlying77 (z := zKd) (by kernel_rfl) (show kD.name.length ≤ 1000000000 by decide))
  rw [show kdF kD.name = some (kdA kD) from rfl] at HLK
  refine wp_region_held_drew (S := fun wr => wr.cell? ⟨w.heap.size + 1 + 1, 4, none⟩ = some (.int .i64 t.told)) (by kernel_rfl) HC0.out (fun hH => ?_)
  refine wpAnyH_take (i := 0) (oi := { dst := some 14, op := Op.fieldAddr 41 (Operand.tmp 5) 4, type := 0, pos := "judge.go:134", after := #[], guard := none }) (v := .pointer (some ⟨w.heap.size + 1 + 1, 4, none⟩)) rfl (by kernel_rfl) (by kernel_rfl) (by kernel_rfl) (fun _ _ _ h => h) (Or.inl ⟨by kernel_rfl, fun wz hz => by kernel_rfl⟩) hH ?_
  try simp only [Act.put, List.setIfInBounds_toArray, List.set_cons_zero, List.set_cons_succ]
  refine wpAnyH_take (i := 1) (oi := { dst := some 15, op := Op.load 3 (Operand.tmp 14), type := 3, pos := "judge.go:134", after := #[{ on := 0, ground := Ground.data }], guard := none }) (v := .int .i64 t.told) rfl (by kernel_rfl) (by kernel_rfl) (by kernel_rfl) (fun _ _ _ h => h) (Or.inl ⟨by kernel_rfl, fun wz hz => by go_simp⟩) hH ?_
  try simp only [Act.put, List.setIfInBounds_toArray, List.set_cons_zero, List.set_cons_succ]
  refine wpAnyH_ready (rs := [2]) (by kernel_rfl) (by simp) ?_
  refine AllReadyH.cons (o := { dst := some 16, op := Op.call { callee := Callee.value (Operand.func 28), args := #[], argTypes := #[] }, type := 77, pos := "judge.go:134", after := #[], guard := none }) rfl (fun K hK => ?_) AllReadyH.nil
  go_simp
  go_at_call 28
  refine HKI.out.mono ?_
  rintro r1 w1 ⟨M, rfl, hb1, hM⟩
  have lk := HLK.out w1 M hM
  simp only [Option.getD_some] at lk
  rw [show kdA kD = .agg #[.int .i64 1, .string ⟨#[68]⟩, .bool true] from rfl] at lk
  rw [show mkS kD.name = { data := #[100, 101, 108, 97, 121, 101, 100] } from rfl] at lk
  have HB1 := Lib.hid (HB0.out.next (⟨hb1.os, hb1.tape, hb1.output, hb1.size, hb1.block⟩ : Below w0.heap.size w0 w1))
  refine hK.out _ _ (show w1.cell? ⟨w.heap.size + 1 + 1, 4, none⟩ = some (.int .i64 t.told) from cellOf HB1.out.tb 4) (fun hH0 => ?_)
  clear hK K hM hb1
  try simp only [Act.put, List.setIfInBounds_toArray, List.set_cons_zero, List.set_cons_succ]
  refine wpAnyH_ready (rs := [3]) (by kernel_rfl) (by simp) ?_
  refine AllReadyH.cons (o := { dst := some 17, op := Op.lookup 77 (Operand.tmp 16) (Operand.const (Value.string { data := #[100, 101, 108, 97, 121, 101, 100] })) false, type := 76, pos := "judge.go:134", after := #[{ on := 2, ground := Ground.data }], guard := none }) rfl (fun K hK => ?_) AllReadyH.nil
  go_simp
  refine hK.out _ _ (show w1.cell? ⟨w.heap.size + 1 + 1, 4, none⟩ = some (.int .i64 t.told) from cellOf HB1.out.tb 4) (fun hH1 => ?_)
  clear hK K lk hH0
  try simp only [Act.put, List.setIfInBounds_toArray, List.set_cons_zero, List.set_cons_succ]
  refine wpAnyH_take (i := 4) (oi := { dst := some 18, op := Op.field 76 (Operand.tmp 17) 0, type := 3, pos := "judge.go:134", after := #[{ on := 3, ground := Ground.data }], guard := none }) (v := .int .i64 1) rfl (by kernel_rfl) (by kernel_rfl) (by kernel_rfl) (fun _ _ _ h => h) (Or.inl ⟨by kernel_rfl, fun wz hz => by kernel_rfl⟩) hH1 ?_
  try simp only [Act.put, List.setIfInBounds_toArray, List.set_cons_zero, List.set_cons_succ]
  refine wpAnyH_take (i := 5) (oi := { dst := some 19, op := Op.binOp BinOp.and 3 (Operand.tmp 15) (Operand.tmp 18) 3, type := 3, pos := "judge.go:134", after := #[{ on := 1, ground := Ground.data }, { on := 4, ground := Ground.data }], guard := none }) (v := .int .i64 (bits .and .i64 t.told 1)) rfl (by kernel_rfl) (by kernel_rfl) (by kernel_rfl) (fun _ _ _ h => h) (Or.inl ⟨by kernel_rfl, fun wz hz => by go_simp⟩) hH1 ?_
  try simp only [Act.put, List.setIfInBounds_toArray, List.set_cons_zero, List.set_cons_succ]
  refine wpAnyH_take (i := 6) (oi := { dst := some 20, op := Op.binOp BinOp.eql 3 (Operand.tmp 19) (Operand.const (Value.int IntKind.i64 0)) 3, type := 4, pos := "judge.go:134", after := #[{ on := 5, ground := Ground.data }], guard := none }) (v := .bool (bits .and .i64 t.told 1 == 0)) rfl (by kernel_rfl) (by kernel_rfl) (by kernel_rfl) (fun _ _ _ h => h) (Or.inl ⟨by kernel_rfl, fun wz hz => by go_simp⟩) hH1 ?_
  try simp only [Act.put, List.setIfInBounds_toArray, List.set_cons_zero, List.set_cons_succ]
  refine wpAnyH_take (i := 7) (oi := { dst := some 7, op := Op.assign (Operand.tmp 20), type := 4, pos := "judge.go:134", after := #[{ on := 6, ground := Ground.data }, { on := 2, ground := Ground.chain }, { on := 0, ground := Ground.phase }, { on := 1, ground := Ground.phase }, { on := 2, ground := Ground.phase }, { on := 3, ground := Ground.phase }, { on := 4, ground := Ground.phase }, { on := 5, ground := Ground.phase }, { on := 6, ground := Ground.phase }], guard := none }) (v := .bool (bits .and .i64 t.told 1 == 0)) rfl (by kernel_rfl) (by kernel_rfl) (by kernel_rfl) (fun _ _ _ h => h) (Or.inl ⟨by kernel_rfl, fun wz hz => by kernel_rfl⟩) hH1 ?_
  try simp only [Act.put, List.setIfInBounds_toArray, List.set_cons_zero, List.set_cons_succ]
  refine wpAnyH_done (by kernel_rfl) ?_ _
  rw [HQ.out]
  clear hH hH1
  go_wp2_with fail
  have HCE := Lib.hid (fun w2 (h : XB w p x vr vl t w2) => show w2.cell? ⟨w.heap.size + 1 + 1, 3, none⟩ = some (.int .i64 t.ne) ∧ (loadVar 23 ⟨w.heap.size, 0, none⟩).run Tryz.prog w2 = .ok (plA p) w2 ∧ (loadVar 33 ⟨w.heap.size + 1, 0, none⟩).run Tryz.prog w2 = .ok (.agg (EC x vr vl)) w2 from ⟨cellOf h.tb 3, jl_plan h.pb, jl_msg h.mb⟩)
  have HB1d := Lib.hid (HB1.out.next (Below.refl _ _).drew)
  refine wp_region_held_drew (S := fun wr => wr.cell? ⟨w.heap.size + 1 + 1, 3, none⟩ = some (.int .i64 t.ne) ∧ (loadVar 23 ⟨w.heap.size, 0, none⟩).run Tryz.prog wr = .ok (plA p) wr ∧ (loadVar 33 ⟨w.heap.size + 1, 0, none⟩).run Tryz.prog wr = .ok (.agg (EC x vr vl)) wr) (by kernel_rfl) (HCE.out _ HB1d.out) (fun hH => ?_)
  refine wpAnyH_take (i := 0) (oi := { dst := some 21, op := Op.fieldAddr 41 (Operand.tmp 5) 3, type := 0, pos := "judge.go:135", after := #[], guard := none }) (v := .pointer (some ⟨w.heap.size + 1 + 1, 3, none⟩)) rfl (by kernel_rfl) (by kernel_rfl) (by kernel_rfl) (fun _ _ _ h => h) (Or.inl ⟨by kernel_rfl, fun wz hz => by kernel_rfl⟩) hH ?_
  try simp only [Act.put, List.setIfInBounds_toArray, List.set_cons_zero, List.set_cons_succ]
  refine wpAnyH_take (i := 1) (oi := { dst := some 22, op := Op.load 3 (Operand.tmp 21), type := 3, pos := "judge.go:135", after := #[{ on := 0, ground := Ground.data }], guard := none }) (v := .int .i64 t.ne) rfl (by kernel_rfl) (by kernel_rfl) (by kernel_rfl) (fun _ _ _ h => h) (Or.inl ⟨by kernel_rfl, fun wz hz => by go_simp⟩) hH ?_
  try simp only [Act.put, List.setIfInBounds_toArray, List.set_cons_zero, List.set_cons_succ]
  refine wpAnyH_take (i := 2) (oi := { dst := some 23, op := Op.load 23 (Operand.tmp 3), type := 23, pos := "judge.go:135", after := #[], guard := none }) (v := plA p) rfl (by kernel_rfl) (by kernel_rfl) (by kernel_rfl) (fun _ _ _ h => h) (Or.inl ⟨by kernel_rfl, fun wz hz => jload_op _ ⟨rfl, rfl⟩ hz.2.1⟩) hH ?_
  try simp only [Act.put, List.setIfInBounds_toArray, List.set_cons_zero, List.set_cons_succ]
  refine wpAnyH_take (i := 3) (oi := { dst := some 24, op := Op.load 33 (Operand.tmp 4), type := 33, pos := "judge.go:135", after := #[], guard := none }) (v := .agg (EC x vr vl)) rfl (by kernel_rfl) (by kernel_rfl) (by kernel_rfl) (fun _ _ _ h => h) (Or.inl ⟨by kernel_rfl, fun wz hz => jload_op _ ⟨rfl, rfl⟩ hz.2.2⟩) hH ?_
  try simp only [Act.put, List.setIfInBounds_toArray, List.set_cons_zero, List.set_cons_succ]
  refine wpAnyH_ready (rs := [4]) (by kernel_rfl) (by simp) ?_
  refine AllReadyH.cons (o := { dst := some 25, op := Op.call { callee := Callee.value (Operand.func 14), args := #[Operand.tmp 23, Operand.tmp 24], argTypes := #[23, 33] }, type := 3, pos := "judge.go:135", after := #[{ on := 2, ground := Ground.data }, { on := 3, ground := Ground.data }], guard := none }) rfl (fun K hK => ?_) AllReadyH.nil
  go_simp
  go_at_call 14
  refine (HEX.out _).mono ?_
  rintro r2 w2 ⟨rfl, hb2⟩
  have HB2 := Lib.hid (HB1d.out.next hb2)
  refine hK.out _ _ (HCE.out _ HB2.out) (fun hH0 => ?_)
  clear hK K hb2
  try simp only [Act.put, List.setIfInBounds_toArray, List.set_cons_zero, List.set_cons_succ]
  refine wpAnyH_take (i := 5) (oi := { dst := some 26, op := Op.call { callee := Callee.builtin Builtin.min, args := #[Operand.tmp 22, Operand.tmp 25], argTypes := #[3, 3] }, type := 3, pos := "judge.go:135", after := #[{ on := 1, ground := Ground.data }, { on := 4, ground := Ground.data }], guard := none }) (v := .int .i64 (min t.ne (expJ p x))) rfl (by kernel_rfl) (by kernel_rfl) (by kernel_rfl) (fun _ _ _ h => h) (Or.inl ⟨by kernel_rfl, fun wz hz => by go_simp⟩) hH0 ?_
  try simp only [Act.put, List.setIfInBounds_toArray, List.set_cons_zero, List.set_cons_succ]
  refine wpAnyH_take (i := 6) (oi := { dst := some 8, op := Op.assign (Operand.tmp 26), type := 3, pos := "judge.go:135", after := #[{ on := 5, ground := Ground.data }, { on := 4, ground := Ground.chain }, { on := 0, ground := Ground.phase }, { on := 1, ground := Ground.phase }, { on := 2, ground := Ground.phase }, { on := 3, ground := Ground.phase }, { on := 4, ground := Ground.phase }, { on := 5, ground := Ground.phase }], guard := none }) (v := .int .i64 (min t.ne (expJ p x))) rfl (by kernel_rfl) (by kernel_rfl) (by kernel_rfl) (fun _ _ _ h => h) (Or.inl ⟨by kernel_rfl, fun wz hz => by kernel_rfl⟩) hH0 ?_
  try simp only [Act.put, List.setIfInBounds_toArray, List.set_cons_zero, List.set_cons_succ]
  refine wpAnyH_done (by kernel_rfl) ?_ _
  clear hH hH0 HCE
  go_wp2_with (first | ((with_reducible refine jis_load (ty := 33) (x := .tmp 4) rfl ?_); refine jload ?_ 33 (.tmp 4) rfl ((w.heap.size + 1)) 0 33 (EC x vr vl) (EC x vr vl) _ rfl HB2.out.mb Tryz.underlying33 rfl size_msg (fun j _ => by rw [Nat.zero_add]) ?_; (focus (first | rfl | (go_simp; done)))))
  refine (HDL.out _).mono ?_
  rintro e w3 ⟨rfl, hb⟩
  have HB3 := Lib.hid (HB2.out.next hb)
  clear hb HB2 HB1 HB1d HB0

  go_wp2_with (first | ((with_reducible refine jis_load (ty := 29) (x := .tmp 37) rfl ?_); refine jload ?_ 29 (.tmp 37) rfl ((w.heap.size + 1)) 5 33 (EC x vr vl) #[.bool x.m.hs, .bool x.m.hf, .bool x.m.hu, .bool x.m.hb, .bool x.m.hp, .int .i64 x.m.sz, .int .i64 x.m.fo, .int .i64 x.m.un, .int .i64 x.m.by_, .int .i64 x.m.pr, .string (mkS x.m.body), .string (mkS x.m.ret), .string (mkS x.m.env), .string (mkS x.m.mode)] _ rfl HB3.out.mb Tryz.underlying29 rfl jsize_mail (jEC_m x _ _) ?_; (focus (first | rfl | (go_simp; done)))) | ((with_reducible refine jis_load (ty := 29) (x := .tmp 36) rfl ?_); refine jload ?_ 29 (.tmp 36) rfl ((w.heap.size + 1)) 5 33 (EC x vr vl) #[.bool x.m.hs, .bool x.m.hf, .bool x.m.hu, .bool x.m.hb, .bool x.m.hp, .int .i64 x.m.sz, .int .i64 x.m.fo, .int .i64 x.m.un, .int .i64 x.m.by_, .int .i64 x.m.pr, .string (mkS x.m.body), .string (mkS x.m.ret), .string (mkS x.m.env), .string (mkS x.m.mode)] _ rfl HB3.out.mb Tryz.underlying29 rfl jsize_mail (jEC_m x _ _) ?_; (focus (first | rfl | (go_simp; done)))))
  refine (HRT.out _).mono ?_
  rintro e w4 ⟨rfl, hb⟩
  have HB4 := Lib.hid (HB3.out.next hb)
  clear hb
  rw [hbb]
  go_wp2_with fail
  go_ret
  exact ⟨ret_int (by have := HHR.out; omega), HB4.out.below⟩
set_option maxHeartbeats 16000000 in
theorem alarm_tfn (p : PJ) (x : EM) (vr vl : Value) (t : ST) (w : World) (hp : okP p = true) (hx : BdJ x) (h0 : 0 ≤ t.told) (h7 : t.told ≤ 7) (hst : (t.st == [82]) = true) (hq : hasB t.told 1 = true) (hhb : x.m.hb = true) (hbb : backB x.m.mode = false) (r : Int) (hr : r = min t.ne (expJ p x)) :
    Calls Tryz.prog 16 #[.agg #[.int .i64 p.base, .int .i64 p.most, .int .i64 p.life, .int .i64 p.warn], .agg #[.int .i64 x.id, .int .i64 x.at_, .int .i64 x.rel, .string (mkS x.fr.1), .string (mkS x.fr.2), .bool x.m.hs, .bool x.m.hf, .bool x.m.hu, .bool x.m.hb, .bool x.m.hp, .int .i64 x.m.sz, .int .i64 x.m.fo, .int .i64 x.m.un, .int .i64 x.m.by_, .int .i64 x.m.pr, .string (mkS x.m.body), .string (mkS x.m.ret), .string (mkS x.m.env), .string (mkS x.m.mode), vr, vl], .agg #[.int .i64 t.pl, .string (mkS t.st), .int .i64 t.tr, .int .i64 t.ne, .int .i64 t.told]] w fun e w' => e = .returned (.int .i64 r) ∧ Below w.heap.size w w' := by
  have HB := Lib.hid (XB.new w p x vr vl t)
  have e1 : ((mkS t.st).toList == [82]) = (t.st == [82]) := by rw [mkS_toList]
  have HEX := Lib.hid (fun w => expires_x p x vr vl w hp hx)
  have HWA := Lib.hid (fun w => warned_x p x vr vl w hp hx)
  have HDL := Lib.hid (fun w => deadline_x x vr vl w hx)
  have HRT := Lib.hid (fun w => returned_x x.m w)
  have HHR := Lib.hid hr
  have HAN := Lib.hid (and_has h0 h7 (.inl rfl) : (bits .and .i64 t.told 1 != 0) = hasB t.told 1)
  unfold dlV at HDL
  rw [hst] at e1
  clear hp hx h0 h7 hr hst
  rw [hhb] at HDL
  simp only [if_true] at HDL
  clear hhb
  have c1 : (((w.alloc (.cells #[.int .i64 p.base, .int .i64 p.most, .int .i64 p.life, .int .i64 p.warn] 23)).alloc (.cells (EC x vr vl) 33)).alloc (.cells (TC t) 41)).cell? ⟨w.heap.size + 1 + 1, 1, none⟩ = some (.string (mkS t.st)) := cellOf HB.out.tb 1
  unfold EC TC at c1
  go_enter Tryz.func16, Tryz.ntmps16
  go_wp2_with fail
  have HQ := Lib.hid (show (bits .and .i64 t.told 1 == 0) = false by
    have := HAN.out
    rw [hq] at this
    cases hz : bits .and .i64 t.told 1 == 0 with
    | false => first | rfl | (rw [bne, hz] at this; cases this)
    | true => first | rfl | (rw [bne, hz] at this; cases this))
  clear hq c1
  generalize hW0 : ((w.alloc (.cells #[.int .i64 p.base, .int .i64 p.most, .int .i64 p.life, .int .i64 p.warn] 23)).alloc _).alloc _ = w0
  have HB0 := Lib.hid (show XB w p x vr vl t w0 by rw [← hW0]; exact HB.out)
  clear HB hW0
  have HC0 := Lib.hid (show w0.drew.cell? ⟨w.heap.size + 1 + 1, 4, none⟩ = some (.int .i64 t.told) from cellOf (show w0.drew.heap[w.heap.size + 1 + 1]? = _ from HB0.out.tb) 4)
  have HKI := Lib.hid (kinds_x w0.drew)
  have HLK := Lib.hid (fun (w1 : World) (M : Nat) (hM : MapIs w1 M 4 kdF) => hM.look Tryz.underlying77 (z := zKd) (by kernel_rfl) (show kD.name.length ≤ 1000000000 by decide))
  rw [show kdF kD.name = some (kdA kD) from rfl] at HLK
  refine wp_region_held_drew (S := fun wr => wr.cell? ⟨w.heap.size + 1 + 1, 4, none⟩ = some (.int .i64 t.told)) (by kernel_rfl) HC0.out (fun hH => ?_)
  refine wpAnyH_take (i := 0) (oi := { dst := some 14, op := Op.fieldAddr 41 (Operand.tmp 5) 4, type := 0, pos := "judge.go:134", after := #[], guard := none }) (v := .pointer (some ⟨w.heap.size + 1 + 1, 4, none⟩)) rfl (by kernel_rfl) (by kernel_rfl) (by kernel_rfl) (fun _ _ _ h => h) (Or.inl ⟨by kernel_rfl, fun wz hz => by kernel_rfl⟩) hH ?_
  try simp only [Act.put, List.setIfInBounds_toArray, List.set_cons_zero, List.set_cons_succ]
  refine wpAnyH_take (i := 1) (oi := { dst := some 15, op := Op.load 3 (Operand.tmp 14), type := 3, pos := "judge.go:134", after := #[{ on := 0, ground := Ground.data }], guard := none }) (v := .int .i64 t.told) rfl (by kernel_rfl) (by kernel_rfl) (by kernel_rfl) (fun _ _ _ h => h) (Or.inl ⟨by kernel_rfl, fun wz hz => by go_simp⟩) hH ?_
  try simp only [Act.put, List.setIfInBounds_toArray, List.set_cons_zero, List.set_cons_succ]
  refine wpAnyH_ready (rs := [2]) (by kernel_rfl) (by simp) ?_
  refine AllReadyH.cons (o := { dst := some 16, op := Op.call { callee := Callee.value (Operand.func 28), args := #[], argTypes := #[] }, type := 77, pos := "judge.go:134", after := #[], guard := none }) rfl (fun K hK => ?_) AllReadyH.nil
  go_simp
  go_at_call 28
  refine HKI.out.mono ?_
  rintro r1 w1 ⟨M, rfl, hb1, hM⟩
  have lk := HLK.out w1 M hM
  simp only [Option.getD_some] at lk
  rw [show kdA kD = .agg #[.int .i64 1, .string ⟨#[68]⟩, .bool true] from rfl] at lk
  rw [show mkS kD.name = { data := #[100, 101, 108, 97, 121, 101, 100] } from rfl] at lk
  have HB1 := Lib.hid (HB0.out.next (⟨hb1.os, hb1.tape, hb1.output, hb1.size, hb1.block⟩ : Below w0.heap.size w0 w1))
  refine hK.out _ _ (show w1.cell? ⟨w.heap.size + 1 + 1, 4, none⟩ = some (.int .i64 t.told) from cellOf HB1.out.tb 4) (fun hH0 => ?_)
  clear hK K hM hb1
  try simp only [Act.put, List.setIfInBounds_toArray, List.set_cons_zero, List.set_cons_succ]
  refine wpAnyH_ready (rs := [3]) (by kernel_rfl) (by simp) ?_
  refine AllReadyH.cons (o := { dst := some 17, op := Op.lookup 77 (Operand.tmp 16) (Operand.const (Value.string { data := #[100, 101, 108, 97, 121, 101, 100] })) false, type := 76, pos := "judge.go:134", after := #[{ on := 2, ground := Ground.data }], guard := none }) rfl (fun K hK => ?_) AllReadyH.nil
  go_simp
  refine hK.out _ _ (show w1.cell? ⟨w.heap.size + 1 + 1, 4, none⟩ = some (.int .i64 t.told) from cellOf HB1.out.tb 4) (fun hH1 => ?_)
  clear hK K lk hH0
  try simp only [Act.put, List.setIfInBounds_toArray, List.set_cons_zero, List.set_cons_succ]
  refine wpAnyH_take (i := 4) (oi := { dst := some 18, op := Op.field 76 (Operand.tmp 17) 0, type := 3, pos := "judge.go:134", after := #[{ on := 3, ground := Ground.data }], guard := none }) (v := .int .i64 1) rfl (by kernel_rfl) (by kernel_rfl) (by kernel_rfl) (fun _ _ _ h => h) (Or.inl ⟨by kernel_rfl, fun wz hz => by kernel_rfl⟩) hH1 ?_
  try simp only [Act.put, List.setIfInBounds_toArray, List.set_cons_zero, List.set_cons_succ]
  refine wpAnyH_take (i := 5) (oi := { dst := some 19, op := Op.binOp BinOp.and 3 (Operand.tmp 15) (Operand.tmp 18) 3, type := 3, pos := "judge.go:134", after := #[{ on := 1, ground := Ground.data }, { on := 4, ground := Ground.data }], guard := none }) (v := .int .i64 (bits .and .i64 t.told 1)) rfl (by kernel_rfl) (by kernel_rfl) (by kernel_rfl) (fun _ _ _ h => h) (Or.inl ⟨by kernel_rfl, fun wz hz => by go_simp⟩) hH1 ?_
  try simp only [Act.put, List.setIfInBounds_toArray, List.set_cons_zero, List.set_cons_succ]
  refine wpAnyH_take (i := 6) (oi := { dst := some 20, op := Op.binOp BinOp.eql 3 (Operand.tmp 19) (Operand.const (Value.int IntKind.i64 0)) 3, type := 4, pos := "judge.go:134", after := #[{ on := 5, ground := Ground.data }], guard := none }) (v := .bool (bits .and .i64 t.told 1 == 0)) rfl (by kernel_rfl) (by kernel_rfl) (by kernel_rfl) (fun _ _ _ h => h) (Or.inl ⟨by kernel_rfl, fun wz hz => by go_simp⟩) hH1 ?_
  try simp only [Act.put, List.setIfInBounds_toArray, List.set_cons_zero, List.set_cons_succ]
  refine wpAnyH_take (i := 7) (oi := { dst := some 7, op := Op.assign (Operand.tmp 20), type := 4, pos := "judge.go:134", after := #[{ on := 6, ground := Ground.data }, { on := 2, ground := Ground.chain }, { on := 0, ground := Ground.phase }, { on := 1, ground := Ground.phase }, { on := 2, ground := Ground.phase }, { on := 3, ground := Ground.phase }, { on := 4, ground := Ground.phase }, { on := 5, ground := Ground.phase }, { on := 6, ground := Ground.phase }], guard := none }) (v := .bool (bits .and .i64 t.told 1 == 0)) rfl (by kernel_rfl) (by kernel_rfl) (by kernel_rfl) (fun _ _ _ h => h) (Or.inl ⟨by kernel_rfl, fun wz hz => by kernel_rfl⟩) hH1 ?_
  try simp only [Act.put, List.setIfInBounds_toArray, List.set_cons_zero, List.set_cons_succ]
  refine wpAnyH_done (by kernel_rfl) ?_ _
  rw [HQ.out]
  clear hH hH1
  go_wp2_with fail
  have HCE := Lib.hid (fun w2 (h : XB w p x vr vl t w2) => show w2.cell? ⟨w.heap.size + 1 + 1, 3, none⟩ = some (.int .i64 t.ne) ∧ (loadVar 23 ⟨w.heap.size, 0, none⟩).run Tryz.prog w2 = .ok (plA p) w2 ∧ (loadVar 33 ⟨w.heap.size + 1, 0, none⟩).run Tryz.prog w2 = .ok (.agg (EC x vr vl)) w2 from ⟨cellOf h.tb 3, jl_plan h.pb, jl_msg h.mb⟩)
  have HB1d := Lib.hid (HB1.out.next (Below.refl _ _).drew)
  refine wp_region_held_drew (S := fun wr => wr.cell? ⟨w.heap.size + 1 + 1, 3, none⟩ = some (.int .i64 t.ne) ∧ (loadVar 23 ⟨w.heap.size, 0, none⟩).run Tryz.prog wr = .ok (plA p) wr ∧ (loadVar 33 ⟨w.heap.size + 1, 0, none⟩).run Tryz.prog wr = .ok (.agg (EC x vr vl)) wr) (by kernel_rfl) (HCE.out _ HB1d.out) (fun hH => ?_)
  refine wpAnyH_take (i := 0) (oi := { dst := some 21, op := Op.fieldAddr 41 (Operand.tmp 5) 3, type := 0, pos := "judge.go:135", after := #[], guard := none }) (v := .pointer (some ⟨w.heap.size + 1 + 1, 3, none⟩)) rfl (by kernel_rfl) (by kernel_rfl) (by kernel_rfl) (fun _ _ _ h => h) (Or.inl ⟨by kernel_rfl, fun wz hz => by kernel_rfl⟩) hH ?_
  try simp only [Act.put, List.setIfInBounds_toArray, List.set_cons_zero, List.set_cons_succ]
  refine wpAnyH_take (i := 1) (oi := { dst := some 22, op := Op.load 3 (Operand.tmp 21), type := 3, pos := "judge.go:135", after := #[{ on := 0, ground := Ground.data }], guard := none }) (v := .int .i64 t.ne) rfl (by kernel_rfl) (by kernel_rfl) (by kernel_rfl) (fun _ _ _ h => h) (Or.inl ⟨by kernel_rfl, fun wz hz => by go_simp⟩) hH ?_
  try simp only [Act.put, List.setIfInBounds_toArray, List.set_cons_zero, List.set_cons_succ]
  refine wpAnyH_take (i := 2) (oi := { dst := some 23, op := Op.load 23 (Operand.tmp 3), type := 23, pos := "judge.go:135", after := #[], guard := none }) (v := plA p) rfl (by kernel_rfl) (by kernel_rfl) (by kernel_rfl) (fun _ _ _ h => h) (Or.inl ⟨by kernel_rfl, fun wz hz => jload_op _ ⟨rfl, rfl⟩ hz.2.1⟩) hH ?_
  try simp only [Act.put, List.setIfInBounds_toArray, List.set_cons_zero, List.set_cons_succ]
  refine wpAnyH_take (i := 3) (oi := { dst := some 24, op := Op.load 33 (Operand.tmp 4), type := 33, pos := "judge.go:135", after := #[], guard := none }) (v := .agg (EC x vr vl)) rfl (by kernel_rfl) (by kernel_rfl) (by kernel_rfl) (fun _ _ _ h => h) (Or.inl ⟨by kernel_rfl, fun wz hz => jload_op _ ⟨rfl, rfl⟩ hz.2.2⟩) hH ?_
  try simp only [Act.put, List.setIfInBounds_toArray, List.set_cons_zero, List.set_cons_succ]
  refine wpAnyH_ready (rs := [4]) (by kernel_rfl) (by simp) ?_
  refine AllReadyH.cons (o := { dst := some 25, op := Op.call { callee := Callee.value (Operand.func 14), args := #[Operand.tmp 23, Operand.tmp 24], argTypes := #[23, 33] }, type := 3, pos := "judge.go:135", after := #[{ on := 2, ground := Ground.data }, { on := 3, ground := Ground.data }], guard := none }) rfl (fun K hK => ?_) AllReadyH.nil
  go_simp
  go_at_call 14
  refine (HEX.out _).mono ?_
  rintro r2 w2 ⟨rfl, hb2⟩
  have HB2 := Lib.hid (HB1d.out.next hb2)
  refine hK.out _ _ (HCE.out _ HB2.out) (fun hH0 => ?_)
  clear hK K hb2
  try simp only [Act.put, List.setIfInBounds_toArray, List.set_cons_zero, List.set_cons_succ]
  refine wpAnyH_take (i := 5) (oi := { dst := some 26, op := Op.call { callee := Callee.builtin Builtin.min, args := #[Operand.tmp 22, Operand.tmp 25], argTypes := #[3, 3] }, type := 3, pos := "judge.go:135", after := #[{ on := 1, ground := Ground.data }, { on := 4, ground := Ground.data }], guard := none }) (v := .int .i64 (min t.ne (expJ p x))) rfl (by kernel_rfl) (by kernel_rfl) (by kernel_rfl) (fun _ _ _ h => h) (Or.inl ⟨by kernel_rfl, fun wz hz => by go_simp⟩) hH0 ?_
  try simp only [Act.put, List.setIfInBounds_toArray, List.set_cons_zero, List.set_cons_succ]
  refine wpAnyH_take (i := 6) (oi := { dst := some 8, op := Op.assign (Operand.tmp 26), type := 3, pos := "judge.go:135", after := #[{ on := 5, ground := Ground.data }, { on := 4, ground := Ground.chain }, { on := 0, ground := Ground.phase }, { on := 1, ground := Ground.phase }, { on := 2, ground := Ground.phase }, { on := 3, ground := Ground.phase }, { on := 4, ground := Ground.phase }, { on := 5, ground := Ground.phase }], guard := none }) (v := .int .i64 (min t.ne (expJ p x))) rfl (by kernel_rfl) (by kernel_rfl) (by kernel_rfl) (fun _ _ _ h => h) (Or.inl ⟨by kernel_rfl, fun wz hz => by kernel_rfl⟩) hH0 ?_
  try simp only [Act.put, List.setIfInBounds_toArray, List.set_cons_zero, List.set_cons_succ]
  refine wpAnyH_done (by kernel_rfl) ?_ _
  clear hH hH0 HCE
  go_wp2_with (first | ((with_reducible refine jis_load (ty := 33) (x := .tmp 4) rfl ?_); refine jload ?_ 33 (.tmp 4) rfl ((w.heap.size + 1)) 0 33 (EC x vr vl) (EC x vr vl) _ rfl HB2.out.mb Tryz.underlying33 rfl size_msg (fun j _ => by rw [Nat.zero_add]) ?_; (focus (first | rfl | (go_simp; done)))))
  refine (HDL.out _).mono ?_
  rintro e w3 ⟨rfl, hb⟩
  have HB3 := Lib.hid (HB2.out.next hb)
  clear hb HB2 HB1 HB1d HB0

  go_wp2_with (first | ((with_reducible refine jis_load (ty := 29) (x := .tmp 37) rfl ?_); refine jload ?_ 29 (.tmp 37) rfl ((w.heap.size + 1)) 5 33 (EC x vr vl) #[.bool x.m.hs, .bool x.m.hf, .bool x.m.hu, .bool x.m.hb, .bool x.m.hp, .int .i64 x.m.sz, .int .i64 x.m.fo, .int .i64 x.m.un, .int .i64 x.m.by_, .int .i64 x.m.pr, .string (mkS x.m.body), .string (mkS x.m.ret), .string (mkS x.m.env), .string (mkS x.m.mode)] _ rfl HB3.out.mb Tryz.underlying29 rfl jsize_mail (jEC_m x _ _) ?_; (focus (first | rfl | (go_simp; done)))) | ((with_reducible refine jis_load (ty := 29) (x := .tmp 36) rfl ?_); refine jload ?_ 29 (.tmp 36) rfl ((w.heap.size + 1)) 5 33 (EC x vr vl) #[.bool x.m.hs, .bool x.m.hf, .bool x.m.hu, .bool x.m.hb, .bool x.m.hp, .int .i64 x.m.sz, .int .i64 x.m.fo, .int .i64 x.m.un, .int .i64 x.m.by_, .int .i64 x.m.pr, .string (mkS x.m.body), .string (mkS x.m.ret), .string (mkS x.m.env), .string (mkS x.m.mode)] _ rfl HB3.out.mb Tryz.underlying29 rfl jsize_mail (jEC_m x _ _) ?_; (focus (first | rfl | (go_simp; done)))))
  refine (HRT.out _).mono ?_
  rintro e w4 ⟨rfl, hb⟩
  have HB4 := Lib.hid (HB3.out.next hb)
  clear hb
  rw [hbb]
  go_wp2_with fail
  go_ret
  exact ⟨ret_int (by have := HHR.out; omega), HB4.out.below⟩
set_option maxHeartbeats 4000000 in
theorem alarm_x (p : PJ) (x : EM) (vr vl : Value) (t : ST) (w : World) (hp : okP p = true) (hx : BdJ x) (h0 : 0 ≤ t.told) (h7 : t.told ≤ 7) :
    Calls Tryz.prog 16 #[.agg #[.int .i64 p.base, .int .i64 p.most, .int .i64 p.life, .int .i64 p.warn], .agg #[.int .i64 x.id, .int .i64 x.at_, .int .i64 x.rel, .string (mkS x.fr.1), .string (mkS x.fr.2), .bool x.m.hs, .bool x.m.hf, .bool x.m.hu, .bool x.m.hb, .bool x.m.hp, .int .i64 x.m.sz, .int .i64 x.m.fo, .int .i64 x.m.un, .int .i64 x.m.by_, .int .i64 x.m.pr, .string (mkS x.m.body), .string (mkS x.m.ret), .string (mkS x.m.env), .string (mkS x.m.mode), vr, vl], .agg #[.int .i64 t.pl, .string (mkS t.st), .int .i64 t.tr, .int .i64 t.ne, .int .i64 t.told]] w fun e w' => e = .returned (.int .i64 (alarmJ p x t)) ∧ Below w.heap.size w w' := by
  rcases Bool.eq_false_or_eq_true (t.st == [82]) with hst | hst
  case inr => exact alarm_no p x vr vl t w hp hx h0 h7 hst _ (by unfold alarmJ; rw [hst]; rfl)
  case inl =>
    rcases Bool.eq_false_or_eq_true (hasB t.told 1) with hq | hq
    case inr =>
      rcases Bool.eq_false_or_eq_true x.m.hb with hhb | hhb
      case inr => exact alarm_ft p x vr vl t w hp hx h0 h7 hst hq hhb _ (by unfold alarmJ quietJ; rw [hst, hq, hhb]; rfl)
      case inl => exact alarm_tt p x vr vl t w hp hx h0 h7 hst hq hhb _ (by unfold alarmJ quietJ; rw [hst, hq, hhb]; rfl)
    case inl =>
      rcases Bool.eq_false_or_eq_true x.m.hb with hhb | hhb
      case inr => exact alarm_ff p x vr vl t w hp hx h0 h7 hst hq hhb _ (by unfold alarmJ quietJ; rw [hst, hq, hhb]; rfl)
      case inl =>
        rcases Bool.eq_false_or_eq_true (backB x.m.mode) with hbb | hbb
        case inl => exact alarm_tfb p x vr vl t w hp hx h0 h7 hst hq hhb hbb _ (by unfold alarmJ quietJ; rw [hst, hq, hhb, hbb]; rfl)
        case inr => exact alarm_tfn p x vr vl t w hp hx h0 h7 hst hq hhb hbb _ (by unfold alarmJ quietJ; rw [hst, hq, hhb, hbb]; rfl)
end Go.Proofs.YtcedhgihebollaaGreatDoor.E.J
/-
  Equality of statuses; the walk of Same, of two rows of texts.
-/
namespace Go.Proofs.YtcedhgihebollaaGreatDoor.E.J
set_option maxRecDepth 100000
open Go.RowKit Go.Shelf
def eqST (a b : ST) : Bool := a.pl == b.pl && (a.st == b.st && (a.tr == b.tr && (a.ne == b.ne && a.told == b.told)))
theorem eqST_iff {a b : ST} : eqST a b = true ↔ a = b := by
  obtain ⟨a1, a2, a3, a4, a5⟩ := a
  obtain ⟨b1, b2, b3, b4, b5⟩ := b
  simp [eqST]
set_option maxHeartbeats 4000000 in
theorem eqSt (a b : ST) (w : World) : (Op.equalIn 10000 41 (.agg (TC a)) (.agg (TC b))).run Tryz.prog w = .ok (eqST a b) w := by
  show (Op.equalIn 10000 41 (.agg #[.int .i64 a.pl, .string (mkS a.st), .int .i64 a.tr, .int .i64 a.ne, .int .i64 a.told]) (.agg #[.int .i64 b.pl, .string (mkS b.st), .int .i64 b.tr, .int .i64 b.ne, .int .i64 b.told])).run Tryz.prog w = _
  have u9 := Tryz.underlying9
  have a9 := Tryz.isAgg9
  have z9 := Tryz.sizeOf9
  have u3 := Tryz.underlying3
  have a3 := Tryz.isAgg3
  have z3 := Tryz.sizeOf3
  have hS : Tryz.prog.underlying 41 = some (.struct (Tryz.prog.fieldsOf 41)) := by kernel_rfl
  have hp : Tryz.prog.stoodInHeld 41 = false := by kernel_rfl
  rw [show (10000 : Nat) = 9999 + 1 from rfl, run_equalIn_agg w 9999 41 _ _ hS hp]
  have hI : ∀ (x y : Int), (Op.equalIn 9999 3 (.int .i64 x) (.int .i64 y)).run Tryz.prog w = .ok (x == y) w := fun x y => by go_simp
  have hT : ∀ (x y : Txt), (Op.equalIn 9999 9 (.string (mkS x)) (.string (mkS y))).run Tryz.prog w = .ok (x == y) w := fun x y => by
    have e := mkS_eqb x y
    go_simp
  have p3 : ∀ (cs : Array Value) (k : Nat) (v : Value), cs[k]? = some v → (part 3 cs k).run Tryz.prog w = .ok v w := fun cs k v h => by unfold part; go_simp
  have p9 : ∀ (cs : Array Value) (k : Nat) (v : Value), cs[k]? = some v → (part 9 cs k).run Tryz.prog w = .ok v w := fun cs k v h => by unfold part; go_simp
  have key := eqF_cons (P := Tryz.prog) (w := w) (d := 9999) (f := (Tryz.prog.fieldsOf 41)[0]!) (by decide) (p3 #[.int .i64 a.pl, .string (mkS a.st), .int .i64 a.tr, .int .i64 a.ne, .int .i64 a.told] 0 _ rfl) (p3 #[.int .i64 b.pl, .string (mkS b.st), .int .i64 b.tr, .int .i64 b.ne, .int .i64 b.told] 0 _ rfl) (hI a.pl b.pl)
    (eqF_cons (f := (Tryz.prog.fieldsOf 41)[1]!) (by decide) (p9 #[.int .i64 a.pl, .string (mkS a.st), .int .i64 a.tr, .int .i64 a.ne, .int .i64 a.told] 1 _ rfl) (p9 #[.int .i64 b.pl, .string (mkS b.st), .int .i64 b.tr, .int .i64 b.ne, .int .i64 b.told] 1 _ rfl) (hT a.st b.st)
    (eqF_cons (f := (Tryz.prog.fieldsOf 41)[2]!) (by decide) (p3 #[.int .i64 a.pl, .string (mkS a.st), .int .i64 a.tr, .int .i64 a.ne, .int .i64 a.told] 2 _ rfl) (p3 #[.int .i64 b.pl, .string (mkS b.st), .int .i64 b.tr, .int .i64 b.ne, .int .i64 b.told] 2 _ rfl) (hI a.tr b.tr)
    (eqF_cons (f := (Tryz.prog.fieldsOf 41)[3]!) (by decide) (p3 #[.int .i64 a.pl, .string (mkS a.st), .int .i64 a.tr, .int .i64 a.ne, .int .i64 a.told] 3 _ rfl) (p3 #[.int .i64 b.pl, .string (mkS b.st), .int .i64 b.tr, .int .i64 b.ne, .int .i64 b.told] 3 _ rfl) (hI a.ne b.ne)
    (eqF_cons (f := (Tryz.prog.fieldsOf 41)[4]!) (by decide) (p3 #[.int .i64 a.pl, .string (mkS a.st), .int .i64 a.tr, .int .i64 a.ne, .int .i64 a.told] 4 _ rfl) (p3 #[.int .i64 b.pl, .string (mkS b.st), .int .i64 b.tr, .int .i64 b.ne, .int .i64 b.told] 4 _ rfl) (hI a.told b.told)
    (show (Op.eqFields 9999 #[.int .i64 a.pl, .string (mkS a.st), .int .i64 a.tr, .int .i64 a.ne, .int .i64 a.told] #[.int .i64 b.pl, .string (mkS b.st), .int .i64 b.tr, .int .i64 b.ne, .int .i64 b.told] []).run Tryz.prog w = .ok true w from rfl)))))
  refine key.trans ?_
  simp [eqST]
theorem same_no {ps qs : List Txt} {k : Nat} {p q : Txt} (h : ps[k]? = some p) (h' : qs[k]? = some q) (hne : (p == q) = false) : (ps == qs) = false :=
  beq_eq_false_iff_ne.2 fun e => by
    rw [e, h'] at h
    injection h with h
    rw [h] at hne
    simp at hne
theorem take_more {ps qs : List Txt} {k : Nat} {p : Txt} (h : ps[k]? = some p) (h' : qs[k]? = some p) (ht : ps.take k = qs.take k) : ps.take (k + 1) = qs.take (k + 1) := by
  obtain ⟨hk, e⟩ := List.getElem?_eq_some_iff.1 h
  obtain ⟨hk', e'⟩ := List.getElem?_eq_some_iff.1 h'
  rw [List.take_succ_eq_append_getElem hk, List.take_succ_eq_append_getElem hk', ht, e, e']
set_option maxHeartbeats 1000000 in
theorem same_x (v u : Value) (ps qs : List Txt) (w : World) (hs : TxtsAt w v ps) (hs' : TxtsAt w u qs) (hn : ps.length ≤ 1000000000) :
    Calls Tryz.prog 20 #[v, u] w fun e w' => e = .returned (.bool (ps == qs)) ∧ ∃ m, w' = w.drewN m := by
  obtain ⟨A, c, rfl, _, _, hc⟩ := hs
  obtain ⟨A', c', rfl, _, _, hc'⟩ := hs'
  have HS := Lib.hid hc
  have HS' := Lib.hid hc'
  clear hc hc'
  by_cases hnn : ps.length = qs.length
  · have HN := Lib.hid hnn
    rw [← hnn]
    clear hnn
    go_enter Tryz.func20, Tryz.ntmps20
    go_wp2_with fail
    go_loopw [5] (fun i wr => ∃ k : Nat, k ≤ ps.length ∧ i = .int .i64 k ∧ ps.take k = qs.take k ∧ ∃ m, wr = w.drewN m) (fun i _ => ps.length - (intOf i).toNat)
    case atStart => exact ⟨0, Nat.zero_le _, rfl, by simp, 0, rfl⟩
    case round =>
      obtain ⟨k, hk, rfl, ht, m, rfl⟩ := hrel
      have HT := Lib.hid ht
      clear ht
      by_cases hlt : k < ps.length
      · obtain ⟨p, hpk⟩ : ∃ p, ps[k]? = some p := ⟨_, List.getElem?_eq_getElem hlt⟩
        obtain ⟨q, hqk⟩ : ∃ q, qs[k]? = some q := ⟨_, List.getElem?_eq_getElem (by have := HN.out; omega)⟩
        obtain ⟨ad, rfl, hab, hcl⟩ := HS.out k p hpk
        obtain ⟨ad', rfl, hab', hcl'⟩ := HS'.out k q hqk
        have HP := Lib.hid hpk
        have HQ := Lib.hid hqk
        have e1 := mkS_eqb p q
        clear hpk hqk hab hab'
        cases hpq : (p == q)
        · rw [hpq] at e1
          go_wp2_with fail
          go_quiet (fail)
          go_wp2_with fail
          go_ret
          exact ⟨ret_bool (same_no HP.out HQ.out hpq).symm, _, World.drewN_drewN _ _ _⟩
        · rw [hpq] at e1
          go_wp2_with fail
          go_quiet (fail)
          go_wp2_with fail
          go_roundw
          case rel => exact ⟨k + 1, by omega, by go_num, take_more HP.out (by rw [HQ.out, eq_of_beq hpq]) HT.out, _, rfl⟩
          case measure => simp [intOf]; omega
      · go_wp2_with fail
        go_ret
        have e := HT.out
        rw [List.take_of_length_le (by omega), List.take_of_length_le (by have := HN.out; omega)] at e
        exact ⟨ret_bool (by rw [e]; simp), _, rfl⟩
  · have hb : ((ps.length : Int) != (qs.length : Int)) = true := by rw [bne_iff_ne]; omega
    have HNL := Lib.hid hnn
    clear hnn
    go_enter Tryz.func20, Tryz.ntmps20
    go_wp2_with fail
    go_ret
    exact ⟨ret_bool (beq_eq_false_iff_ne.2 fun e => HNL.out (by rw [e])).symm, 0, rfl⟩
end Go.Proofs.YtcedhgihebollaaGreatDoor.E.J
