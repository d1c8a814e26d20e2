/-
  ofMail's region that draws its order: each operation keeps what holds; what stands behind it.
-/
import Derived.Test.YtbecdncnidcmdaaGreatDoorPaOfC
namespace Go.Proofs.YtbecdncnidcmdaaGreatDoor
set_option maxRecDepth 100000
open Go.RowKit
theorem name_mk (mb i k : Nat) (w : World) :
    Calls Tryz.prog 315 #[.pointer (some ⟨mb, i, none⟩), .func (.func k) #[] #[]] w fun e w' => ∃ N, e = .returned (.func (.func 316) #[] #[.pointer (some ⟨N, 0, none⟩), .pointer (some ⟨N + 1, 0, none⟩)]) ∧
      N = w.heap.size ∧ w'.cell? ⟨N, 0, none⟩ = some (.pointer (some ⟨mb, i, none⟩)) ∧ w'.cell? ⟨N + 1, 0, none⟩ = some (.func (.func k) #[] #[]) ∧ Below w.heap.size w w' := by
  go_enter Tryz.func315, Tryz.ntmps315
  go_wp2_with fail
  go_ret
  exact ⟨w.heap.size, rfl, rfl, cellOf (old_alloc (newOf w _)) 0, cellOf (new_alloc _ (by simp)) 0, ((Below.refl _ w).alloc (Nat.le_refl _) _).alloc (by simp) _⟩
section
variable {Q : Exit → Act → World → Prop} {K : Act → World → Prop} {X : Nat → Value} {w w' : World} {o : Oper} {v : Value}
theorem val_step (hr : (execOp (actX 47 X).eval o).run Tryz.prog w = .ok (.value v) w') (hK : K ((actX 47 X).put o.dst v) w') : o.wp Tryz.prog (actX 47 X) w K Q := by
  unfold Oper.wp
  rw [hr]
  exact hK
theorem skip_step (hr : (execOp (actX 47 X).eval o).run Tryz.prog w = .ok .skip w') (hd : o.dst = none) (hK : K (actX 47 X) w') : o.wp Tryz.prog (actX 47 X) w K Q := by
  unfold Oper.wp
  rw [hr, Oper.upon_skip, hd]
  exact hK
theorem call_step {f : Nat} {args : Array Value} (hr : (execOp (actX 47 X).eval o).run Tryz.prog w = .ok (.enter f args) w) (hK : Calls Tryz.prog f args w fun e w' => ∃ u, e = .returned u ∧ K ((actX 47 X).put o.dst u) w') : o.wp Tryz.prog (actX 47 X) w K Q := by
  unfold Oper.wp
  rw [hr]
  refine hK.mono ?_
  rintro e w' ⟨u, rfl, hu⟩
  exact hu
end
theorem ex_ins {X : Nat → Value} {s t : Nat} {M : Nat} {K : Txt} {w w' : World} {o : Oper} (hs : s < 47) (h5 : X s = .map (some M)) (hr : (Instr.mapUpdate 301 (.map (some M)) (.string (mkS K)) (X t)).run Tryz.prog w = .ok () w') (hop : o.op = .insert 301 (.tmp s) (.const (.string (mkS K))) (.tmp t)) (ht : t < 47 := by decide) :
    (execOp (actX 47 X).eval o).run Tryz.prog w = .ok .skip w' := by
  have he := eval_X X hs
  have he2 := eval_X X ht
  have he3 : (actX 47 X).eval (.const (.string (mkS K))) = .string (mkS K) := rfl
  simp only [execOp, hop, he, he2, he3, h5]
  go_simp
/-- An operation that keeps what holds. -/
def StepOk (w0 : World) (mb B B3 : Nat) (Q : Exit → Act → World → Prop) (i : Nat) : Prop := ∀ f L X w o, OM w0 mb B B3 (f + 1) L X w → ClosedL opsM L → opsM[i]? = some o → L i = false → (∀ e ∈ o.after, Region.binds .any e = true → L e.on = true) →
  ∀ K : Act → World → Prop, (∀ X' w', OM w0 mb B B3 f (updL L i) X' w' → K (actX 47 X') w') → o.wp Tryz.prog (actX 47 X) w K Q
theorem OM.pureW {w0 : World} {mb B B3 f : Nat} {L : Nat → Bool} {X : Nat → Value} {w : World} (h : OM w0 mb B B3 (f + 1) L X w) (hc : ClosedL opsM L) (i : Nat) (hi : i < 51) (h100 : slotM i < 100) (hno : i ∉ [0, 9, 15, 21, 33, 43, 49, 50]) (hL : L i = false) (v : Value) (hp : cstM mb B B3 i = some v) :
    OM w0 mb B B3 f (updL L i) (updX X (slotM i) v) w := by
  simp only [List.mem_cons, List.not_mem_nil, or_false, not_or] at hno
  obtain ⟨n0, n9, n15, n21, n33, n43, n49, n50⟩ := hno
  exact h.write hc i hi h100 n0 hL v w (Below.refl _ _) (fun c hc' => by rw [hp] at hc'; injection hc') (fun e => absurd e n9) (fun e => absurd e n15) (fun e => absurd e n21) (fun e => absurd e n33) (fun e => absurd e n43) (fun e => absurd e n49) (fun e => absurd e n50)
section
variable {w0 : World} {mb B B3 : Nat} {Q : Exit → Act → World → Prop}
theorem st0 : StepOk w0 mb B B3 Q 0 := by
  intro f L X w o h hc ho hL hall K hK
  injection (show some (some 5, Op.makeMap 301 none) = some (o.dst, o.op) from (at_M ho).1) with hto
  injection hto with hdst hop
  have hop := hop.symm
  exact val_step (ex_map hop) (by rw [← hdst, put_X]; exact hK _ _ (h.map0 hc hL))
theorem st1 (hB3 : w0.cell? ⟨B3, 0, none⟩ = some (.func (.func 312) #[] #[])) : StepOk w0 mb B B3 Q 1 := by
  intro f L X w o h hc ho hL hall K hK
  injection (show some (some 6, Op.load 331 (Operand.tmp 3)) = some (o.dst, o.op) from (at_M ho).1) with hto
  injection hto with hdst hop
  have hop := hop.symm
  exact val_step (ex_load_num (by decide) h.x3 ((h.bel.cell (p := ⟨B3, 0, none⟩) (cell_lt hB3)).trans hB3) hop) (by rw [← hdst, put_X]; exact hK _ _ (h.pureW hc 1 (by decide) (by decide) (by decide) hL _ rfl))
theorem st2 (hB : w0.cell? ⟨B, 0, none⟩ = some (.pointer (some ⟨mb, 0, none⟩))) : StepOk w0 mb B B3 Q 2 := by
  intro f L X w o h hc ho hL hall K hK
  injection (show some (some 7, Op.load 303 (Operand.tmp 1)) = some (o.dst, o.op) from (at_M ho).1) with hto
  injection hto with hdst hop
  have hop := hop.symm
  exact val_step (ex_load_mail (by decide) h.x1 ((h.bel.cell (p := ⟨B, 0, none⟩) (cell_lt hB)).trans hB) hop) (by rw [← hdst, put_X]; exact hK _ _ (h.pureW hc 2 (by decide) (by decide) (by decide) hL _ rfl))
theorem st3 : StepOk w0 mb B B3 Q 3 := by
  intro f L X w o h hc ho hL hall K hK
  injection (show some (some 8, Op.nilCheck (Operand.tmp 7)) = some (o.dst, o.op) from (at_M ho).1) with hto
  injection hto with hdst hop
  have hop := hop.symm
  exact val_step (ex_nil (by decide) (h.pure 2 _ (by decide) rfl (dep_up ho hall (by decide))) hop) (by rw [← hdst, put_X]; exact hK _ _ (h.pureW hc 3 (by decide) (by decide) (by decide) hL _ rfl))
theorem st4 : StepOk w0 mb B B3 Q 4 := by
  intro f L X w o h hc ho hL hall K hK
  injection (show some (some 9, Op.fieldAddr 49 (Operand.tmp 8) 1) = some (o.dst, o.op) from (at_M ho).1) with hto
  injection hto with hdst hop
  have hop := hop.symm
  exact val_step (ex_fld (c := 5) (by decide) (h.pure 3 _ (by decide) rfl (dep_up ho hall (by decide))) (by decide) hop) (by rw [← hdst, put_X]; exact hK _ _ (h.pureW hc 4 (by decide) (by decide) (by decide) hL _ rfl))
theorem st5 (hB : w0.cell? ⟨B, 0, none⟩ = some (.pointer (some ⟨mb, 0, none⟩))) : StepOk w0 mb B B3 Q 5 := by
  intro f L X w o h hc ho hL hall K hK
  injection (show some (some 10, Op.load 303 (Operand.tmp 1)) = some (o.dst, o.op) from (at_M ho).1) with hto
  injection hto with hdst hop
  have hop := hop.symm
  exact val_step (ex_load_mail (by decide) h.x1 ((h.bel.cell (p := ⟨B, 0, none⟩) (cell_lt hB)).trans hB) hop) (by rw [← hdst, put_X]; exact hK _ _ (h.pureW hc 5 (by decide) (by decide) (by decide) hL _ rfl))
theorem st6 : StepOk w0 mb B B3 Q 6 := by
  intro f L X w o h hc ho hL hall K hK
  injection (show some (some 11, Op.nilCheck (Operand.tmp 10)) = some (o.dst, o.op) from (at_M ho).1) with hto
  injection hto with hdst hop
  have hop := hop.symm
  exact val_step (ex_nil (by decide) (h.pure 5 _ (by decide) rfl (dep_up ho hall (by decide))) hop) (by rw [← hdst, put_X]; exact hK _ _ (h.pureW hc 6 (by decide) (by decide) (by decide) hL _ rfl))
theorem st7 : StepOk w0 mb B B3 Q 7 := by
  intro f L X w o h hc ho hL hall K hK
  injection (show some (some 12, Op.fieldAddr 49 (Operand.tmp 11) 0) = some (o.dst, o.op) from (at_M ho).1) with hto
  injection hto with hdst hop
  have hop := hop.symm
  exact val_step (ex_fld (c := 0) (by decide) (h.pure 6 _ (by decide) rfl (dep_up ho hall (by decide))) (by decide) hop) (by rw [← hdst, put_X]; exact hK _ _ (h.pureW hc 7 (by decide) (by decide) (by decide) hL _ rfl))
theorem st8 : StepOk w0 mb B B3 Q 8 := by
  intro f L X w o h hc ho hL hall K hK
  injection (show some (some 13, Op.fieldAddr 47 (Operand.tmp 12) 0) = some (o.dst, o.op) from (at_M ho).1) with hto
  injection hto with hdst hop
  have hop := hop.symm
  exact val_step (ex_has (by decide) (h.pure 7 _ (by decide) rfl (dep_up ho hall (by decide))) (by decide) hop) (by rw [← hdst, put_X]; exact hK _ _ (h.pureW hc 8 (by decide) (by decide) (by decide) hL _ rfl))
theorem st9 : StepOk w0 mb B B3 Q 9 := by
  intro f L X w o h hc ho hL hall K hK
  injection (show some (some 14, Op.call { callee := Callee.value (Operand.tmp 6), args := #[Operand.tmp 9, Operand.tmp 13, Operand.func 317, Operand.const (Value.int IntKind.i64 0), Operand.const (Value.int IntKind.i64 999999999)], argTypes := #[237, 328, 329, 3, 3] }) = some (o.dst, o.op) from (at_M ho).1) with hto
  injection hto with hdst hop
  have hop := hop.symm
  have hf : X 6 = _ := h.pure 1 _ (by decide) rfl (dep_up ho hall (by decide))
  have ha : X 9 = _ := h.pure 4 _ (by decide) rfl (dep_up ho hall (by decide))
  have hb : X 13 = _ := h.pure 8 _ (by decide) rfl (dep_up ho hall (by decide))
  refine call_step (ex_num (by decide) (by decide) (by decide) hf hop) ?_
  rw [ha, hb]
  refine (numb_x mb _ _ _ _ _ w).mono ?_
  rintro e w' ⟨N, rfl, rfl, n1, n2, n3⟩
  refine ⟨_, rfl, ?_⟩
  rw [← hdst, put_X]
  exact hK _ _ (h.write hc 9 (by decide) (by decide) (by decide) hL _ w' n2 (fun c hc' => by cases hc') (fun e => ⟨_, rfl, h.bel.size, n1⟩) (fun e => absurd e (by decide)) (fun e => absurd e (by decide)) (fun e => absurd e (by decide)) (fun e => absurd e (by decide)) (fun e => absurd e (by decide)) (fun e => absurd e (by decide)))
theorem st10 : StepOk w0 mb B B3 Q 10 := by
  intro f L X w o h hc ho hL hall K hK
  injection (show some (none, Op.insert 301 (Operand.tmp 5) (Operand.const (Value.string { data := #[83, 73, 90, 69] })) (Operand.tmp 14)) = some (o.dst, o.op) from (at_M ho).1) with hto
  injection hto with hdst hop
  have hop := hop.symm
  obtain ⟨M, w', m1, m2, m3⟩ := h.insert 10 kSIZE 14 (by decide) hL (dep_up ho hall (by decide))
  exact skip_step (ex_ins (by decide) m1 m2 hop) hdst.symm (hK _ _ m3)
theorem st11 : StepOk w0 mb B B3 Q 11 := by
  intro f L X w o h hc ho hL hall K hK
  injection (show some (some 15, Op.move (Operand.tmp 4)) = some (o.dst, o.op) from (at_M ho).1) with hto
  injection hto with hdst hop
  have hop := hop.symm
  have hm := ex_move (X := X) (w := w) (by decide) hop
  rw [h.x4] at hm
  exact val_step hm (by rw [← hdst, put_X]; exact hK _ _ (h.pureW hc 11 (by decide) (by decide) (by decide) hL _ rfl))
theorem st12 (hB : w0.cell? ⟨B, 0, none⟩ = some (.pointer (some ⟨mb, 0, none⟩))) : StepOk w0 mb B B3 Q 12 := by
  intro f L X w o h hc ho hL hall K hK
  injection (show some (some 16, Op.load 303 (Operand.tmp 1)) = some (o.dst, o.op) from (at_M ho).1) with hto
  injection hto with hdst hop
  have hop := hop.symm
  exact val_step (ex_load_mail (by decide) h.x1 ((h.bel.cell (p := ⟨B, 0, none⟩) (cell_lt hB)).trans hB) hop) (by rw [← hdst, put_X]; exact hK _ _ (h.pureW hc 12 (by decide) (by decide) (by decide) hL _ rfl))
theorem st13 : StepOk w0 mb B B3 Q 13 := by
  intro f L X w o h hc ho hL hall K hK
  injection (show some (some 17, Op.nilCheck (Operand.tmp 16)) = some (o.dst, o.op) from (at_M ho).1) with hto
  injection hto with hdst hop
  have hop := hop.symm
  exact val_step (ex_nil (by decide) (h.pure 12 _ (by decide) rfl (dep_up ho hall (by decide))) hop) (by rw [← hdst, put_X]; exact hK _ _ (h.pureW hc 13 (by decide) (by decide) (by decide) hL _ rfl))
theorem st14 : StepOk w0 mb B B3 Q 14 := by
  intro f L X w o h hc ho hL hall K hK
  injection (show some (some 18, Op.fieldAddr 49 (Operand.tmp 17) 6) = some (o.dst, o.op) from (at_M ho).1) with hto
  injection hto with hdst hop
  have hop := hop.symm
  exact val_step (ex_fld (c := 10) (by decide) (h.pure 13 _ (by decide) rfl (dep_up ho hall (by decide))) (by decide) hop) (by rw [← hdst, put_X]; exact hK _ _ (h.pureW hc 14 (by decide) (by decide) (by decide) hL _ rfl))
theorem st15 : StepOk w0 mb B B3 Q 15 := by
  intro f L X w o h hc ho hL hall K hK
  injection (show some (some 19, Op.call { callee := Callee.value (Operand.tmp 15), args := #[Operand.tmp 18, Operand.func 318], argTypes := #[94, 87] }) = some (o.dst, o.op) from (at_M ho).1) with hto
  injection hto with hdst hop
  have hop := hop.symm
  have hf : X 15 = _ := h.pure 11 _ (by decide) rfl (dep_up ho hall (by decide))
  have ha : X 18 = _ := h.pure 14 _ (by decide) rfl (dep_up ho hall (by decide))
  refine call_step (ex_nam (by decide) (by decide) hf hop) ?_
  rw [ha]
  refine (name_mk mb _ _ w).mono ?_
  rintro e w' ⟨N, rfl, rfl, n1, n2, n3⟩
  refine ⟨_, rfl, ?_⟩
  rw [← hdst, put_X]
  exact hK _ _ (h.write hc 15 (by decide) (by decide) (by decide) hL _ w' n3 (fun c hc' => by cases hc') (fun e => absurd e (by decide)) (fun e => ⟨_, rfl, h.bel.size, n1, n2⟩) (fun e => absurd e (by decide)) (fun e => absurd e (by decide)) (fun e => absurd e (by decide)) (fun e => absurd e (by decide)) (fun e => absurd e (by decide)))
theorem st16 : StepOk w0 mb B B3 Q 16 := by
  intro f L X w o h hc ho hL hall K hK
  injection (show some (none, Op.insert 301 (Operand.tmp 5) (Operand.const (Value.string { data := #[66, 79, 68, 89] })) (Operand.tmp 19)) = some (o.dst, o.op) from (at_M ho).1) with hto
  injection hto with hdst hop
  have hop := hop.symm
  obtain ⟨M, w', m1, m2, m3⟩ := h.insert 16 kBODY 19 (by decide) hL (dep_up ho hall (by decide))
  exact skip_step (ex_ins (by decide) m1 m2 hop) hdst.symm (hK _ _ m3)
theorem st17 : StepOk w0 mb B B3 Q 17 := by
  intro f L X w o h hc ho hL hall K hK
  injection (show some (some 20, Op.move (Operand.tmp 4)) = some (o.dst, o.op) from (at_M ho).1) with hto
  injection hto with hdst hop
  have hop := hop.symm
  have hm := ex_move (X := X) (w := w) (by decide) hop
  rw [h.x4] at hm
  exact val_step hm (by rw [← hdst, put_X]; exact hK _ _ (h.pureW hc 17 (by decide) (by decide) (by decide) hL _ rfl))
theorem st18 (hB : w0.cell? ⟨B, 0, none⟩ = some (.pointer (some ⟨mb, 0, none⟩))) : StepOk w0 mb B B3 Q 18 := by
  intro f L X w o h hc ho hL hall K hK
  injection (show some (some 21, Op.load 303 (Operand.tmp 1)) = some (o.dst, o.op) from (at_M ho).1) with hto
  injection hto with hdst hop
  have hop := hop.symm
  exact val_step (ex_load_mail (by decide) h.x1 ((h.bel.cell (p := ⟨B, 0, none⟩) (cell_lt hB)).trans hB) hop) (by rw [← hdst, put_X]; exact hK _ _ (h.pureW hc 18 (by decide) (by decide) (by decide) hL _ rfl))
theorem st19 : StepOk w0 mb B B3 Q 19 := by
  intro f L X w o h hc ho hL hall K hK
  injection (show some (some 22, Op.nilCheck (Operand.tmp 21)) = some (o.dst, o.op) from (at_M ho).1) with hto
  injection hto with hdst hop
  have hop := hop.symm
  exact val_step (ex_nil (by decide) (h.pure 18 _ (by decide) rfl (dep_up ho hall (by decide))) hop) (by rw [← hdst, put_X]; exact hK _ _ (h.pureW hc 19 (by decide) (by decide) (by decide) hL _ rfl))
theorem st20 : StepOk w0 mb B B3 Q 20 := by
  intro f L X w o h hc ho hL hall K hK
  injection (show some (some 23, Op.fieldAddr 49 (Operand.tmp 22) 7) = some (o.dst, o.op) from (at_M ho).1) with hto
  injection hto with hdst hop
  have hop := hop.symm
  exact val_step (ex_fld (c := 11) (by decide) (h.pure 19 _ (by decide) rfl (dep_up ho hall (by decide))) (by decide) hop) (by rw [← hdst, put_X]; exact hK _ _ (h.pureW hc 20 (by decide) (by decide) (by decide) hL _ rfl))
theorem st21 : StepOk w0 mb B B3 Q 21 := by
  intro f L X w o h hc ho hL hall K hK
  injection (show some (some 24, Op.call { callee := Callee.value (Operand.tmp 20), args := #[Operand.tmp 23, Operand.func 319], argTypes := #[94, 87] }) = some (o.dst, o.op) from (at_M ho).1) with hto
  injection hto with hdst hop
  have hop := hop.symm
  have hf : X 20 = _ := h.pure 17 _ (by decide) rfl (dep_up ho hall (by decide))
  have ha : X 23 = _ := h.pure 20 _ (by decide) rfl (dep_up ho hall (by decide))
  refine call_step (ex_nam (by decide) (by decide) hf hop) ?_
  rw [ha]
  refine (name_mk mb _ _ w).mono ?_
  rintro e w' ⟨N, rfl, rfl, n1, n2, n3⟩
  refine ⟨_, rfl, ?_⟩
  rw [← hdst, put_X]
  exact hK _ _ (h.write hc 21 (by decide) (by decide) (by decide) hL _ w' n3 (fun c hc' => by cases hc') (fun e => absurd e (by decide)) (fun e => absurd e (by decide)) (fun e => ⟨_, rfl, h.bel.size, n1, n2⟩) (fun e => absurd e (by decide)) (fun e => absurd e (by decide)) (fun e => absurd e (by decide)) (fun e => absurd e (by decide)))
theorem st22 : StepOk w0 mb B B3 Q 22 := by
  intro f L X w o h hc ho hL hall K hK
  injection (show some (none, Op.insert 301 (Operand.tmp 5) (Operand.const (Value.string { data := #[82, 69, 84] })) (Operand.tmp 24)) = some (o.dst, o.op) from (at_M ho).1) with hto
  injection hto with hdst hop
  have hop := hop.symm
  obtain ⟨M, w', m1, m2, m3⟩ := h.insert 22 kRET 24 (by decide) hL (dep_up ho hall (by decide))
  exact skip_step (ex_ins (by decide) m1 m2 hop) hdst.symm (hK _ _ m3)
theorem st23 : StepOk w0 mb B B3 Q 23 := by
  intro f L X w o h hc ho hL hall K hK
  injection (show some (some 25, Op.makeFunc (Fn.func 320) #[] #[Operand.tmp 1]) = some (o.dst, o.op) from (at_M ho).1) with hto
  injection hto with hdst hop
  have hop := hop.symm
  have hm := ex_fn1 (X := X) (w := w) (by decide) hop
  rw [h.x1] at hm
  exact val_step hm (by rw [← hdst, put_X]; exact hK _ _ (h.pureW hc 23 (by decide) (by decide) (by decide) hL _ rfl))
theorem st24 : StepOk w0 mb B B3 Q 24 := by
  intro f L X w o h hc ho hL hall K hK
  injection (show some (none, Op.insert 301 (Operand.tmp 5) (Operand.const (Value.string { data := #[69, 78, 86, 73, 68] })) (Operand.tmp 25)) = some (o.dst, o.op) from (at_M ho).1) with hto
  injection hto with hdst hop
  have hop := hop.symm
  obtain ⟨M, w', m1, m2, m3⟩ := h.insert 24 kENV 25 (by decide) hL (dep_up ho hall (by decide))
  exact skip_step (ex_ins (by decide) m1 m2 hop) hdst.symm (hK _ _ m3)
theorem st25 (hB3 : w0.cell? ⟨B3, 0, none⟩ = some (.func (.func 312) #[] #[])) : StepOk w0 mb B B3 Q 25 := by
  intro f L X w o h hc ho hL hall K hK
  injection (show some (some 26, Op.load 331 (Operand.tmp 3)) = some (o.dst, o.op) from (at_M ho).1) with hto
  injection hto with hdst hop
  have hop := hop.symm
  exact val_step (ex_load_num (by decide) h.x3 ((h.bel.cell (p := ⟨B3, 0, none⟩) (cell_lt hB3)).trans hB3) hop) (by rw [← hdst, put_X]; exact hK _ _ (h.pureW hc 25 (by decide) (by decide) (by decide) hL _ rfl))
theorem st26 (hB : w0.cell? ⟨B, 0, none⟩ = some (.pointer (some ⟨mb, 0, none⟩))) : StepOk w0 mb B B3 Q 26 := by
  intro f L X w o h hc ho hL hall K hK
  injection (show some (some 27, Op.load 303 (Operand.tmp 1)) = some (o.dst, o.op) from (at_M ho).1) with hto
  injection hto with hdst hop
  have hop := hop.symm
  exact val_step (ex_load_mail (by decide) h.x1 ((h.bel.cell (p := ⟨B, 0, none⟩) (cell_lt hB)).trans hB) hop) (by rw [← hdst, put_X]; exact hK _ _ (h.pureW hc 26 (by decide) (by decide) (by decide) hL _ rfl))
theorem st27 : StepOk w0 mb B B3 Q 27 := by
  intro f L X w o h hc ho hL hall K hK
  injection (show some (some 28, Op.nilCheck (Operand.tmp 27)) = some (o.dst, o.op) from (at_M ho).1) with hto
  injection hto with hdst hop
  have hop := hop.symm
  exact val_step (ex_nil (by decide) (h.pure 26 _ (by decide) rfl (dep_up ho hall (by decide))) hop) (by rw [← hdst, put_X]; exact hK _ _ (h.pureW hc 27 (by decide) (by decide) (by decide) hL _ rfl))
theorem st28 : StepOk w0 mb B B3 Q 28 := by
  intro f L X w o h hc ho hL hall K hK
  injection (show some (some 29, Op.fieldAddr 49 (Operand.tmp 28) 2) = some (o.dst, o.op) from (at_M ho).1) with hto
  injection hto with hdst hop
  have hop := hop.symm
  exact val_step (ex_fld (c := 6) (by decide) (h.pure 27 _ (by decide) rfl (dep_up ho hall (by decide))) (by decide) hop) (by rw [← hdst, put_X]; exact hK _ _ (h.pureW hc 28 (by decide) (by decide) (by decide) hL _ rfl))
theorem st29 (hB : w0.cell? ⟨B, 0, none⟩ = some (.pointer (some ⟨mb, 0, none⟩))) : StepOk w0 mb B B3 Q 29 := by
  intro f L X w o h hc ho hL hall K hK
  injection (show some (some 30, Op.load 303 (Operand.tmp 1)) = some (o.dst, o.op) from (at_M ho).1) with hto
  injection hto with hdst hop
  have hop := hop.symm
  exact val_step (ex_load_mail (by decide) h.x1 ((h.bel.cell (p := ⟨B, 0, none⟩) (cell_lt hB)).trans hB) hop) (by rw [← hdst, put_X]; exact hK _ _ (h.pureW hc 29 (by decide) (by decide) (by decide) hL _ rfl))
theorem st30 : StepOk w0 mb B B3 Q 30 := by
  intro f L X w o h hc ho hL hall K hK
  injection (show some (some 31, Op.nilCheck (Operand.tmp 30)) = some (o.dst, o.op) from (at_M ho).1) with hto
  injection hto with hdst hop
  have hop := hop.symm
  exact val_step (ex_nil (by decide) (h.pure 29 _ (by decide) rfl (dep_up ho hall (by decide))) hop) (by rw [← hdst, put_X]; exact hK _ _ (h.pureW hc 30 (by decide) (by decide) (by decide) hL _ rfl))
theorem st31 : StepOk w0 mb B B3 Q 31 := by
  intro f L X w o h hc ho hL hall K hK
  injection (show some (some 32, Op.fieldAddr 49 (Operand.tmp 31) 0) = some (o.dst, o.op) from (at_M ho).1) with hto
  injection hto with hdst hop
  have hop := hop.symm
  exact val_step (ex_fld (c := 0) (by decide) (h.pure 30 _ (by decide) rfl (dep_up ho hall (by decide))) (by decide) hop) (by rw [← hdst, put_X]; exact hK _ _ (h.pureW hc 31 (by decide) (by decide) (by decide) hL _ rfl))
theorem st32 : StepOk w0 mb B B3 Q 32 := by
  intro f L X w o h hc ho hL hall K hK
  injection (show some (some 33, Op.fieldAddr 47 (Operand.tmp 32) 1) = some (o.dst, o.op) from (at_M ho).1) with hto
  injection hto with hdst hop
  have hop := hop.symm
  exact val_step (ex_has (by decide) (h.pure 31 _ (by decide) rfl (dep_up ho hall (by decide))) (by decide) hop) (by rw [← hdst, put_X]; exact hK _ _ (h.pureW hc 32 (by decide) (by decide) (by decide) hL _ rfl))
theorem st33 : StepOk w0 mb B B3 Q 33 := by
  intro f L X w o h hc ho hL hall K hK
  injection (show some (some 34, Op.call { callee := Callee.value (Operand.tmp 26), args := #[Operand.tmp 29, Operand.tmp 33, Operand.func 317, Operand.const (Value.int IntKind.i64 1), Operand.const (Value.int IntKind.i64 1048576)], argTypes := #[237, 328, 329, 3, 3] }) = some (o.dst, o.op) from (at_M ho).1) with hto
  injection hto with hdst hop
  have hop := hop.symm
  have hf : X 26 = _ := h.pure 25 _ (by decide) rfl (dep_up ho hall (by decide))
  have ha : X 29 = _ := h.pure 28 _ (by decide) rfl (dep_up ho hall (by decide))
  have hb : X 33 = _ := h.pure 32 _ (by decide) rfl (dep_up ho hall (by decide))
  refine call_step (ex_num (by decide) (by decide) (by decide) hf hop) ?_
  rw [ha, hb]
  refine (numb_x mb _ _ _ _ _ w).mono ?_
  rintro e w' ⟨N, rfl, rfl, n1, n2, n3⟩
  refine ⟨_, rfl, ?_⟩
  rw [← hdst, put_X]
  exact hK _ _ (h.write hc 33 (by decide) (by decide) (by decide) hL _ w' n2 (fun c hc' => by cases hc') (fun e => absurd e (by decide)) (fun e => absurd e (by decide)) (fun e => absurd e (by decide)) (fun e => ⟨_, rfl, h.bel.size, n1⟩) (fun e => absurd e (by decide)) (fun e => absurd e (by decide)) (fun e => absurd e (by decide)))
theorem st34 : StepOk w0 mb B B3 Q 34 := by
  intro f L X w o h hc ho hL hall K hK
  injection (show some (none, Op.insert 301 (Operand.tmp 5) (Operand.const (Value.string { data := #[72, 79, 76, 68, 70, 79, 82] })) (Operand.tmp 34)) = some (o.dst, o.op) from (at_M ho).1) with hto
  injection hto with hdst hop
  have hop := hop.symm
  obtain ⟨M, w', m1, m2, m3⟩ := h.insert 34 kHF 34 (by decide) hL (dep_up ho hall (by decide))
  exact skip_step (ex_ins (by decide) m1 m2 hop) hdst.symm (hK _ _ m3)
theorem st35 (hB3 : w0.cell? ⟨B3, 0, none⟩ = some (.func (.func 312) #[] #[])) : StepOk w0 mb B B3 Q 35 := by
  intro f L X w o h hc ho hL hall K hK
  injection (show some (some 35, Op.load 331 (Operand.tmp 3)) = some (o.dst, o.op) from (at_M ho).1) with hto
  injection hto with hdst hop
  have hop := hop.symm
  exact val_step (ex_load_num (by decide) h.x3 ((h.bel.cell (p := ⟨B3, 0, none⟩) (cell_lt hB3)).trans hB3) hop) (by rw [← hdst, put_X]; exact hK _ _ (h.pureW hc 35 (by decide) (by decide) (by decide) hL _ rfl))
theorem st36 (hB : w0.cell? ⟨B, 0, none⟩ = some (.pointer (some ⟨mb, 0, none⟩))) : StepOk w0 mb B B3 Q 36 := by
  intro f L X w o h hc ho hL hall K hK
  injection (show some (some 36, Op.load 303 (Operand.tmp 1)) = some (o.dst, o.op) from (at_M ho).1) with hto
  injection hto with hdst hop
  have hop := hop.symm
  exact val_step (ex_load_mail (by decide) h.x1 ((h.bel.cell (p := ⟨B, 0, none⟩) (cell_lt hB)).trans hB) hop) (by rw [← hdst, put_X]; exact hK _ _ (h.pureW hc 36 (by decide) (by decide) (by decide) hL _ rfl))
theorem st37 : StepOk w0 mb B B3 Q 37 := by
  intro f L X w o h hc ho hL hall K hK
  injection (show some (some 37, Op.nilCheck (Operand.tmp 36)) = some (o.dst, o.op) from (at_M ho).1) with hto
  injection hto with hdst hop
  have hop := hop.symm
  exact val_step (ex_nil (by decide) (h.pure 36 _ (by decide) rfl (dep_up ho hall (by decide))) hop) (by rw [← hdst, put_X]; exact hK _ _ (h.pureW hc 37 (by decide) (by decide) (by decide) hL _ rfl))
theorem st38 : StepOk w0 mb B B3 Q 38 := by
  intro f L X w o h hc ho hL hall K hK
  injection (show some (some 38, Op.fieldAddr 49 (Operand.tmp 37) 5) = some (o.dst, o.op) from (at_M ho).1) with hto
  injection hto with hdst hop
  have hop := hop.symm
  exact val_step (ex_fld (c := 9) (by decide) (h.pure 37 _ (by decide) rfl (dep_up ho hall (by decide))) (by decide) hop) (by rw [← hdst, put_X]; exact hK _ _ (h.pureW hc 38 (by decide) (by decide) (by decide) hL _ rfl))
theorem st39 (hB : w0.cell? ⟨B, 0, none⟩ = some (.pointer (some ⟨mb, 0, none⟩))) : StepOk w0 mb B B3 Q 39 := by
  intro f L X w o h hc ho hL hall K hK
  injection (show some (some 39, Op.load 303 (Operand.tmp 1)) = some (o.dst, o.op) from (at_M ho).1) with hto
  injection hto with hdst hop
  have hop := hop.symm
  exact val_step (ex_load_mail (by decide) h.x1 ((h.bel.cell (p := ⟨B, 0, none⟩) (cell_lt hB)).trans hB) hop) (by rw [← hdst, put_X]; exact hK _ _ (h.pureW hc 39 (by decide) (by decide) (by decide) hL _ rfl))
theorem st40 : StepOk w0 mb B B3 Q 40 := by
  intro f L X w o h hc ho hL hall K hK
  injection (show some (some 40, Op.nilCheck (Operand.tmp 39)) = some (o.dst, o.op) from (at_M ho).1) with hto
  injection hto with hdst hop
  have hop := hop.symm
  exact val_step (ex_nil (by decide) (h.pure 39 _ (by decide) rfl (dep_up ho hall (by decide))) hop) (by rw [← hdst, put_X]; exact hK _ _ (h.pureW hc 40 (by decide) (by decide) (by decide) hL _ rfl))
theorem st41 : StepOk w0 mb B B3 Q 41 := by
  intro f L X w o h hc ho hL hall K hK
  injection (show some (some 41, Op.fieldAddr 49 (Operand.tmp 40) 0) = some (o.dst, o.op) from (at_M ho).1) with hto
  injection hto with hdst hop
  have hop := hop.symm
  exact val_step (ex_fld (c := 0) (by decide) (h.pure 40 _ (by decide) rfl (dep_up ho hall (by decide))) (by decide) hop) (by rw [← hdst, put_X]; exact hK _ _ (h.pureW hc 41 (by decide) (by decide) (by decide) hL _ rfl))
theorem st42 : StepOk w0 mb B B3 Q 42 := by
  intro f L X w o h hc ho hL hall K hK
  injection (show some (some 42, Op.fieldAddr 47 (Operand.tmp 41) 4) = some (o.dst, o.op) from (at_M ho).1) with hto
  injection hto with hdst hop
  have hop := hop.symm
  exact val_step (ex_has (by decide) (h.pure 41 _ (by decide) rfl (dep_up ho hall (by decide))) (by decide) hop) (by rw [← hdst, put_X]; exact hK _ _ (h.pureW hc 42 (by decide) (by decide) (by decide) hL _ rfl))
theorem st43 : StepOk w0 mb B B3 Q 43 := by
  intro f L X w o h hc ho hL hall K hK
  injection (show some (some 43, Op.call { callee := Callee.value (Operand.tmp 35), args := #[Operand.tmp 38, Operand.tmp 42, Operand.func 322, Operand.const (Value.int IntKind.i64 (-9)), Operand.const (Value.int IntKind.i64 9)], argTypes := #[237, 328, 329, 3, 3] }) = some (o.dst, o.op) from (at_M ho).1) with hto
  injection hto with hdst hop
  have hop := hop.symm
  have hf : X 35 = _ := h.pure 35 _ (by decide) rfl (dep_up ho hall (by decide))
  have ha : X 38 = _ := h.pure 38 _ (by decide) rfl (dep_up ho hall (by decide))
  have hb : X 42 = _ := h.pure 42 _ (by decide) rfl (dep_up ho hall (by decide))
  refine call_step (ex_num (by decide) (by decide) (by decide) hf hop) ?_
  rw [ha, hb]
  refine (numb_x mb _ _ _ _ _ w).mono ?_
  rintro e w' ⟨N, rfl, rfl, n1, n2, n3⟩
  refine ⟨_, rfl, ?_⟩
  rw [← hdst, put_X]
  exact hK _ _ (h.write hc 43 (by decide) (by decide) (by decide) hL _ w' n2 (fun c hc' => by cases hc') (fun e => absurd e (by decide)) (fun e => absurd e (by decide)) (fun e => absurd e (by decide)) (fun e => absurd e (by decide)) (fun e => ⟨_, rfl, h.bel.size, n1⟩) (fun e => absurd e (by decide)) (fun e => absurd e (by decide)))
theorem st44 : StepOk w0 mb B B3 Q 44 := by
  intro f L X w o h hc ho hL hall K hK
  injection (show some (none, Op.insert 301 (Operand.tmp 5) (Operand.const (Value.string { data := #[77, 84, 45, 80, 82, 73, 79, 82, 73, 84, 89] })) (Operand.tmp 43)) = some (o.dst, o.op) from (at_M ho).1) with hto
  injection hto with hdst hop
  have hop := hop.symm
  obtain ⟨M, w', m1, m2, m3⟩ := h.insert 44 kPR 43 (by decide) hL (dep_up ho hall (by decide))
  exact skip_step (ex_ins (by decide) m1 m2 hop) hdst.symm (hK _ _ m3)
theorem st45 : StepOk w0 mb B B3 Q 45 := by
  intro f L X w o h hc ho hL hall K hK
  injection (show some (some 44, Op.makeFunc (Fn.func 323) #[] #[Operand.tmp 1]) = some (o.dst, o.op) from (at_M ho).1) with hto
  injection hto with hdst hop
  have hop := hop.symm
  have hm := ex_fn1 (X := X) (w := w) (by decide) hop
  rw [h.x1] at hm
  exact val_step hm (by rw [← hdst, put_X]; exact hK _ _ (h.pureW hc 45 (by decide) (by decide) (by decide) hL _ rfl))
theorem st46 : StepOk w0 mb B B3 Q 46 := by
  intro f L X w o h hc ho hL hall K hK
  injection (show some (none, Op.insert 301 (Operand.tmp 5) (Operand.const (Value.string { data := #[72, 79, 76, 68, 85, 78, 84, 73, 76] })) (Operand.tmp 44)) = some (o.dst, o.op) from (at_M ho).1) with hto
  injection hto with hdst hop
  have hop := hop.symm
  obtain ⟨M, w', m1, m2, m3⟩ := h.insert 46 kHU 44 (by decide) hL (dep_up ho hall (by decide))
  exact skip_step (ex_ins (by decide) m1 m2 hop) hdst.symm (hK _ _ m3)
theorem st47 : StepOk w0 mb B B3 Q 47 := by
  intro f L X w o h hc ho hL hall K hK
  injection (show some (some 45, Op.makeFunc (Fn.func 325) #[] #[Operand.tmp 1, Operand.tmp 3]) = some (o.dst, o.op) from (at_M ho).1) with hto
  injection hto with hdst hop
  have hop := hop.symm
  have hm := ex_fn2 (X := X) (w := w) (by decide) (by decide) hop
  rw [h.x1, h.x3] at hm
  exact val_step hm (by rw [← hdst, put_X]; exact hK _ _ (h.pureW hc 47 (by decide) (by decide) (by decide) hL _ rfl))
theorem st48 : StepOk w0 mb B B3 Q 48 := by
  intro f L X w o h hc ho hL hall K hK
  injection (show some (none, Op.insert 301 (Operand.tmp 5) (Operand.const (Value.string { data := #[66, 89] })) (Operand.tmp 45)) = some (o.dst, o.op) from (at_M ho).1) with hto
  injection hto with hdst hop
  have hop := hop.symm
  obtain ⟨M, w', m1, m2, m3⟩ := h.insert 48 kBY 45 (by decide) hL (dep_up ho hall (by decide))
  exact skip_step (ex_ins (by decide) m1 m2 hop) hdst.symm (hK _ _ m3)
theorem st49 : StepOk w0 mb B B3 Q 49 := by
  intro f L X w o h hc ho hL hall K hK
  injection (show some (some 46, Op.move (Operand.tmp 5)) = some (o.dst, o.op) from (at_M ho).1) with hto
  injection hto with hdst hop
  have hop := hop.symm
  exact val_step (ex_move (by decide) hop) (by rw [← hdst, put_X]; exact hK _ _ (h.write hc 49 (by decide) (by decide) (by decide) hL _ w (Below.refl _ _) (fun c hc' => by cases hc') (fun e => absurd e (by decide)) (fun e => absurd e (by decide)) (fun e => absurd e (by decide)) (fun e => absurd e (by decide)) (fun e => absurd e (by decide)) (fun _ => rfl) (fun e => absurd e (by decide))))
theorem st50 : StepOk w0 mb B B3 Q 50 := by
  intro f L X w o h hc ho hL hall K hK
  injection (show some (some 2, Op.assign (Operand.tmp 46)) = some (o.dst, o.op) from (at_M ho).1) with hto
  injection hto with hdst hop
  have hop := hop.symm
  exact val_step (ex_assign (by decide) hop) (by rw [← hdst, put_X]; exact hK _ _ (h.write hc 50 (by decide) (by decide) (by decide) hL _ w (Below.refl _ _) (fun c hc' => by cases hc') (fun e => absurd e (by decide)) (fun e => absurd e (by decide)) (fun e => absurd e (by decide)) (fun e => absurd e (by decide)) (fun e => absurd e (by decide)) (fun e => absurd e (by decide)) (fun _ => h.e1 (dep_up ho hall (by decide)))))
theorem st_all (hB : w0.cell? ⟨B, 0, none⟩ = some (.pointer (some ⟨mb, 0, none⟩))) (hB3 : w0.cell? ⟨B3, 0, none⟩ = some (.func (.func 312) #[] #[])) (i : Nat) (hi : i < 51) : StepOk w0 mb B B3 Q i := by
  by_cases h0 : i = 0
  · subst h0; exact st0
  by_cases h1 : i = 1
  · subst h1; exact st1 hB3
  by_cases h2 : i = 2
  · subst h2; exact st2 hB
  by_cases h3 : i = 3
  · subst h3; exact st3
  by_cases h4 : i = 4
  · subst h4; exact st4
  by_cases h5 : i = 5
  · subst h5; exact st5 hB
  by_cases h6 : i = 6
  · subst h6; exact st6
  by_cases h7 : i = 7
  · subst h7; exact st7
  by_cases h8 : i = 8
  · subst h8; exact st8
  by_cases h9 : i = 9
  · subst h9; exact st9
  by_cases h10 : i = 10
  · subst h10; exact st10
  by_cases h11 : i = 11
  · subst h11; exact st11
  by_cases h12 : i = 12
  · subst h12; exact st12 hB
  by_cases h13 : i = 13
  · subst h13; exact st13
  by_cases h14 : i = 14
  · subst h14; exact st14
  by_cases h15 : i = 15
  · subst h15; exact st15
  by_cases h16 : i = 16
  · subst h16; exact st16
  by_cases h17 : i = 17
  · subst h17; exact st17
  by_cases h18 : i = 18
  · subst h18; exact st18 hB
  by_cases h19 : i = 19
  · subst h19; exact st19
  by_cases h20 : i = 20
  · subst h20; exact st20
  by_cases h21 : i = 21
  · subst h21; exact st21
  by_cases h22 : i = 22
  · subst h22; exact st22
  by_cases h23 : i = 23
  · subst h23; exact st23
  by_cases h24 : i = 24
  · subst h24; exact st24
  by_cases h25 : i = 25
  · subst h25; exact st25 hB3
  by_cases h26 : i = 26
  · subst h26; exact st26 hB
  by_cases h27 : i = 27
  · subst h27; exact st27
  by_cases h28 : i = 28
  · subst h28; exact st28
  by_cases h29 : i = 29
  · subst h29; exact st29 hB
  by_cases h30 : i = 30
  · subst h30; exact st30
  by_cases h31 : i = 31
  · subst h31; exact st31
  by_cases h32 : i = 32
  · subst h32; exact st32
  by_cases h33 : i = 33
  · subst h33; exact st33
  by_cases h34 : i = 34
  · subst h34; exact st34
  by_cases h35 : i = 35
  · subst h35; exact st35 hB3
  by_cases h36 : i = 36
  · subst h36; exact st36 hB
  by_cases h37 : i = 37
  · subst h37; exact st37
  by_cases h38 : i = 38
  · subst h38; exact st38
  by_cases h39 : i = 39
  · subst h39; exact st39 hB
  by_cases h40 : i = 40
  · subst h40; exact st40
  by_cases h41 : i = 41
  · subst h41; exact st41
  by_cases h42 : i = 42
  · subst h42; exact st42
  by_cases h43 : i = 43
  · subst h43; exact st43
  by_cases h44 : i = 44
  · subst h44; exact st44
  by_cases h45 : i = 45
  · subst h45; exact st45
  by_cases h46 : i = 46
  · subst h46; exact st46
  by_cases h47 : i = 47
  · subst h47; exact st47
  by_cases h48 : i = 48
  · subst h48; exact st48
  by_cases h49 : i = 49
  · subst h49; exact st49
  by_cases h50 : i = 50
  · subst h50; exact st50
  omega
end
end Go.Proofs.YtbecdncnidcmdaaGreatDoor
