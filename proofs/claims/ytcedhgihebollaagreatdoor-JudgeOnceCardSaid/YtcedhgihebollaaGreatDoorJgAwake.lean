/-
  The walk of awake.
-/
import Derived.Test.YtcedhgihebollaaGreatDoorJgAw
namespace Go.Proofs.YtcedhgihebollaaGreatDoor.E.J
set_option maxRecDepth 100000
open Go.RowKit Go.Shelf
open List (setIfInBounds_toArray set_cons_zero set_cons_succ)
set_option linter.unusedSimpArgs false
set_option maxHeartbeats 32000000 in
theorem awake_x (w : World) : Calls Tryz.prog 7 #[] w fun e w' => e = .returned (.bool true) ∧ Below w.heap.size w w' := by
  have HN0 := Lib.hid (new2 w (.cells #[.string { data := #[99] }, .string { data := #[100] }, .string { data := #[] }, .string { data := #[] }, .string { data := #[] }] 50) (.cells #[.int .i64 0, .int .i64 0, .int .i64 0, .string { data := #[] }, .string { data := #[] }, .bool false, .bool false, .bool false, .bool false, .bool false, .int .i64 0, .int .i64 0, .int .i64 0, .int .i64 0, .int .i64 0, .string { data := #[] }, .string { data := #[] }, .string { data := #[] }, .string { data := #[] }, .slice none 0 0, .slice none 0 0] 33))
  have HNR := Lib.hid (newOf w (.cells #[.string { data := #[99] }, .string { data := #[100] }, .string { data := #[] }, .string { data := #[] }, .string { data := #[] }] 50))
  go_enter Tryz.func7, Tryz.ntmps7
  go_upto_region 2 with (first | ((with_reducible refine jis_store (ty := 33) (x := .tmp 1) (y := .tmp 29) rfl ?_); refine wpList_store_blk rfl 33 (.tmp 1) (.tmp 29) rfl (w.heap.size + 1) 0 33 #[.int .i64 0, .int .i64 0, .int .i64 0, .string { data := #[] }, .string { data := #[] }, .bool false, .bool false, .bool false, .bool false, .bool false, .int .i64 0, .int .i64 0, .int .i64 0, .int .i64 0, .int .i64 0, .string { data := #[] }, .string { data := #[] }, .string { data := #[] }, .string { data := #[] }, .slice none 0 0, .slice none 0 0] (EC xA (.slice (some ⟨w.heap.size, 0, none⟩) 1 1) jnil) (EC xA (.slice (some ⟨w.heap.size, 0, none⟩) 1 1) jnil) rfl rfl HN0.out size_msg (jone_EC _ _ _ _ _ _ _) (Nat.le_of_eq rfl) (whole_EC _ _ _ _ rfl) ?_; intro w0 hB0 hA0))
  have hb00 : Below w.heap.size w ((w.alloc (.cells #[.string { data := #[99] }, .string { data := #[100] }, .string { data := #[] }, .string { data := #[] }, .string { data := #[] }] 50)).alloc (.cells #[.int .i64 0, .int .i64 0, .int .i64 0, .string { data := #[] }, .string { data := #[] }, .bool false, .bool false, .bool false, .bool false, .bool false, .int .i64 0, .int .i64 0, .int .i64 0, .int .i64 0, .int .i64 0, .string { data := #[] }, .string { data := #[] }, .string { data := #[] }, .string { data := #[] }, .slice none 0 0, .slice none 0 0] 33)) := below_next (below_box w _) (below_box _ _)
  have HX0 := Lib.hid (show AW w (w.heap.size + 1) w.heap.size [] [] w0 from ⟨hB0, (hA0.block w.heap.size (by simp; omega) (by omega)).trans (((below_box (w.alloc (.cells #[.string { data := #[99] }, .string { data := #[100] }, .string { data := #[] }, .string { data := #[] }, .string { data := #[] }] 50)) _).block w.heap.size (by simp)).trans HNR.out), fun p hp => (List.not_mem_nil hp).elim, fun p hp => (List.not_mem_nil hp).elim, hb00.trans (hA0.below (by simp; omega) (by omega))⟩)
  clear hB0 hA0 hb00 HN0 HNR
  generalize w.heap.size + 1 = gm at HX0 ⊢
  generalize w.heap.size = gr at HX0 ⊢
  go_upto_region 3 with fail
  have HX1 := Lib.hid ((HX0.out.next (below_box w0 (.cells (TC tA) 41))).addB (newOf w0 (.cells (TC tA) 41)))
  generalize hw1 : w0.alloc _ = w1
  have HX1 := Lib.hid (show AW w gm gr [(w0.heap.size, tA)] [] w1 by rw [← hw1]; exact HX1.out)
  clear hw1 HX0
  generalize w0.heap.size = gt at HX1 ⊢
  go_cut [3, 4, 5] from 31 (fun a b c wc => ∃ g v, a = .pointer (some ⟨g, 0, none⟩) ∧ v = b ∧ c = .int .i64 0 ∧ Hid (AW w gm gr ((g, tB) :: [(gt, tA)]) ((v, []) :: []) wc))
  case first =>
    have HL := Lib.hid (fun w2 (h : AW w gm gr [(gt, tA)] [] w2) => show (loadVar 33 ⟨gm, 0, none⟩).run Tryz.prog w2 = .ok (.agg (EC xA (.slice (some ⟨gr, 0, none⟩) 1 1) jnil)) w2 ∧ (loadVar 41 ⟨gt, 0, none⟩).run Tryz.prog w2 = .ok (.agg (TC tA)) w2 from ⟨jl_msg h.m, jl_st (h.b (gt, tA) (by simp))⟩)
    have HL2 := Lib.hid (fun v w2 (h : AW w gm gr [(gt, tA)] ((v, []) :: []) w2) => show (loadVar 33 ⟨gm, 0, none⟩).run Tryz.prog w2 = .ok (.agg (EC xA (.slice (some ⟨gr, 0, none⟩) 1 1) jnil)) w2 ∧ (loadVar 41 ⟨gt, 0, none⟩).run Tryz.prog w2 = .ok (.agg (TC tA)) w2 from ⟨jl_msg h.m, jl_st (h.b (gt, tA) (by simp))⟩)
    have X0 := Lib.hid (HX1.out.next (Below.refl _ _).drew)
    refine wp_region_held_drew (S := fun wr => (loadVar 33 ⟨gm, 0, none⟩).run Tryz.prog wr = .ok (.agg (EC xA (.slice (some ⟨gr, 0, none⟩) 1 1) jnil)) wr ∧ (loadVar 41 ⟨gt, 0, none⟩).run Tryz.prog wr = .ok (.agg (TC tA)) wr) (by kernel_rfl) (HL.out _ X0.out) (fun hH => ?_)
    generalize w1.drew = wd at *
    refine wpAnyH_take (i := 1) (oi := { dst := some 33, op := Op.load 33 (Operand.tmp 1), .. }) (v := .agg (EC xA (.slice (some ⟨gr, 0, none⟩) 1 1) jnil)) rfl (by kernel_rfl) (by kernel_rfl) (by kernel_rfl) (fun _ _ _ h => h) (Or.inl ⟨by kernel_rfl, fun wz hz => jload_op _ ⟨rfl, rfl⟩ hz.1⟩) hH ?_
    try simp only [Act.put, setIfInBounds_toArray, set_cons_zero, set_cons_succ]
    refine wpAnyH_take (i := 2) (oi := { dst := some 34, op := Op.load 41 (Operand.tmp 2), .. }) (v := .agg (TC tA)) rfl (by kernel_rfl) (by kernel_rfl) (by kernel_rfl) (fun _ _ _ h => h) (Or.inl ⟨by kernel_rfl, fun wz hz => jload_op _ ⟨rfl, rfl⟩ hz.2⟩) hH ?_
    try simp only [Act.put, setIfInBounds_toArray, set_cons_zero, set_cons_succ]
    refine wpAnyH_ready (rs := [0, 8]) (by kernel_rfl) (by simp) ?_
    refine AllReadyH.cons (o := { dst := some 32, op := Op.call { callee := Callee.value (Operand.func 19), args := #[], argTypes := #[] }, .. }) rfl (fun K hK => ?_) (AllReadyH.cons (o := { dst := some 3, op := Op.alloc 41, .. }) rfl (fun K hK => ?_) AllReadyH.nil)
    · go_simp
      go_at_call 19
      refine (uC _).mono ?_
      rintro r w301 ⟨rfl, hb⟩
      have X1 := Lib.hid (X0.out.next hb)
      refine hK.out _ _ (HL.out _ X1.out) (fun hH1 => ?_)
      clear hK K hb
      try simp only [Act.put, setIfInBounds_toArray, set_cons_zero, set_cons_succ]
      refine wpAnyH_ready (rs := [3, 8]) (by kernel_rfl) (by simp) ?_
      refine AllReadyH.cons (o := { dst := some 35, op := Op.call { callee := Callee.value (Operand.func 11), args := #[Operand.tmp 32, Operand.tmp 33, Operand.tmp 34, Operand.const (Value.int IntKind.i64 110), Operand.const (Value.int IntKind.i64 4)], argTypes := #[23, 33, 41, 3, 3] }, .. }) rfl (fun K hK => ?_) (AllReadyH.cons (o := { dst := some 3, op := Op.alloc 41, .. }) rfl (fun K hK => ?_) AllReadyH.nil)
      · go_simp
        go_at_call 11
        have HX := X1.out
        refine (tryA HX (tA) 110 4 (tB) ([]) 0 rfl rfl rfl (by decide)).mono ?_
        rintro r w302 ⟨v, rfl, hq⟩
        have X2 := Lib.hid hq.out.1
        refine hK.out _ _ (HL2.out _ _ X2.out) (fun hH2 => ?_)
        clear hK K HX hq
        try simp only [Act.put, setIfInBounds_toArray, set_cons_zero, set_cons_succ]
        refine wpAnyH_take (i := 4) (oi := { dst := some 31, op := Op.move (Operand.tmp 35), .. }) (v := .tuple #[.agg (TC tB), v, .int .i64 0]) rfl (by kernel_rfl) (by kernel_rfl) (by kernel_rfl) (fun _ _ _ h => h) (Or.inl ⟨by kernel_rfl, fun wz hz => by kernel_rfl⟩) hH2 ?_
        try simp only [Act.put, setIfInBounds_toArray, set_cons_zero, set_cons_succ]
        refine wpAnyH_take (i := 5) (oi := { dst := some 36, op := Op.extract (Operand.tmp 31) 0, .. }) (v := .agg (TC tB)) rfl (by kernel_rfl) (by kernel_rfl) (by kernel_rfl) (fun _ _ _ h => h) (Or.inl ⟨by kernel_rfl, fun wz hz => by kernel_rfl⟩) hH2 ?_
        try simp only [Act.put, setIfInBounds_toArray, set_cons_zero, set_cons_succ]
        refine wpAnyH_take (i := 6) (oi := { dst := some 37, op := Op.extract (Operand.tmp 31) 1, .. }) (v := v) rfl (by kernel_rfl) (by kernel_rfl) (by kernel_rfl) (fun _ _ _ h => h) (Or.inl ⟨by kernel_rfl, fun wz hz => by kernel_rfl⟩) hH2 ?_
        try simp only [Act.put, setIfInBounds_toArray, set_cons_zero, set_cons_succ]
        refine wpAnyH_take (i := 7) (oi := { dst := some 38, op := Op.extract (Operand.tmp 31) 2, .. }) (v := .int .i64 0) rfl (by kernel_rfl) (by kernel_rfl) (by kernel_rfl) (fun _ _ _ h => h) (Or.inl ⟨by kernel_rfl, fun wz hz => by kernel_rfl⟩) hH2 ?_
        try simp only [Act.put, setIfInBounds_toArray, set_cons_zero, set_cons_succ]
        refine wpAnyH_ready (rs := [8]) (by kernel_rfl) (by simp) ?_
        refine AllReadyH.cons (o := { dst := some 3, op := Op.alloc 41, .. }) rfl (fun K hK => ?_) AllReadyH.nil
        go_simp
        have hn8 := newOf w302 (.cells #[.int .i64 0, .string { data := #[] }, .int .i64 0, .int .i64 0, .int .i64 0] 41)
        have X3 := Lib.hid (X2.out.next (below_box w302 (.cells #[.int .i64 0, .string { data := #[] }, .int .i64 0, .int .i64 0, .int .i64 0] 41)))
        have hge8 := X2.out.below.size
        have hfr8 := fun p hp => Nat.ne_of_lt (ltOf (X2.out.b p hp))
        refine hK.out _ _ (HL2.out _ _ X3.out) (fun hH3 => ?_)
        clear hK K
        generalize w302.alloc (.cells #[.int .i64 0, .string { data := #[] }, .int .i64 0, .int .i64 0, .int .i64 0] 41) = w303 at *
        generalize w302.heap.size = g8 at *
        try simp only [Act.put, setIfInBounds_toArray, set_cons_zero, set_cons_succ]
        refine wpAnyH_ready (rs := [9]) (by kernel_rfl) (by simp) ?_
        refine AllReadyH.cons (o := { dst := none, op := Op.store 41 (Operand.tmp 3) (Operand.tmp 36), .. }) rfl (fun K hK => ?_) AllReadyH.nil
        refine jstep_store rfl 41 (.tmp 3) (.tmp 36) rfl g8 41 #[.int .i64 0, .string { data := #[] }, .int .i64 0, .int .i64 0, .int .i64 0] (TC tB) rfl rfl hn8 jsize_st (one_TC _) rfl ?_
        intro w304 hB9 hA9
        have X4 := Lib.hid (X3.out.apart hn8 hfr8 hge8 hA9)
        refine hK.out _ _ (HL2.out _ _ X4.out) (fun hH4 => ?_)
        clear hK K
        try simp only [Act.put]
        refine wpAnyH_take (i := 10) (oi := { dst := some 4, op := Op.assign (Operand.tmp 37), .. }) (v := v) rfl (by kernel_rfl) (by kernel_rfl) (by kernel_rfl) (fun _ _ _ h => h) (Or.inl ⟨by kernel_rfl, fun wz hz => by kernel_rfl⟩) hH4 ?_
        try simp only [Act.put, setIfInBounds_toArray, set_cons_zero, set_cons_succ]
        refine wpAnyH_take (i := 11) (oi := { dst := some 5, op := Op.assign (Operand.tmp 38), .. }) (v := .int .i64 0) rfl (by kernel_rfl) (by kernel_rfl) (by kernel_rfl) (fun _ _ _ h => h) (Or.inl ⟨by kernel_rfl, fun wz hz => by kernel_rfl⟩) hH4 ?_
        try simp only [Act.put, setIfInBounds_toArray, set_cons_zero, set_cons_succ]
        refine wpAnyH_done (by kernel_rfl) ?_ _
        go_wp2_with fail
        go_meet
        case rel => exact ⟨g8, v, rfl, rfl, rfl, Lib.hid (X4.out.addB hB9)⟩
      · go_simp
        have hn8 := newOf w301 (.cells #[.int .i64 0, .string { data := #[] }, .int .i64 0, .int .i64 0, .int .i64 0] 41)
        have X5 := Lib.hid (X1.out.next (below_box w301 (.cells #[.int .i64 0, .string { data := #[] }, .int .i64 0, .int .i64 0, .int .i64 0] 41)))
        have hge8 := X1.out.below.size
        have hfr8 := fun p hp => Nat.ne_of_lt (ltOf (X1.out.b p hp))
        refine hK.out _ _ (HL.out _ X5.out) (fun hH5 => ?_)
        clear hK K
        generalize w301.alloc (.cells #[.int .i64 0, .string { data := #[] }, .int .i64 0, .int .i64 0, .int .i64 0] 41) = w305 at *
        generalize w301.heap.size = g8 at *
        try simp only [Act.put, setIfInBounds_toArray, set_cons_zero, set_cons_succ]
        refine wpAnyH_ready (rs := [3]) (by kernel_rfl) (by simp) ?_
        refine AllReadyH.cons (o := { dst := some 35, op := Op.call { callee := Callee.value (Operand.func 11), args := #[Operand.tmp 32, Operand.tmp 33, Operand.tmp 34, Operand.const (Value.int IntKind.i64 110), Operand.const (Value.int IntKind.i64 4)], argTypes := #[23, 33, 41, 3, 3] }, .. }) rfl (fun K hK => ?_) AllReadyH.nil
        go_simp
        go_at_call 11
        have HX := X5.out
        refine (tryA HX (tA) 110 4 (tB) ([]) 0 rfl rfl rfl (by decide)).mono ?_
        rintro r w306 ⟨v, rfl, hq⟩
        have X6 := Lib.hid hq.out.1
        have hn8 := (hq.out.2.block _ (ltOf hn8)).trans hn8
        refine hK.out _ _ (HL2.out _ _ X6.out) (fun hH6 => ?_)
        clear hK K HX hq
        try simp only [Act.put, setIfInBounds_toArray, set_cons_zero, set_cons_succ]
        refine wpAnyH_take (i := 4) (oi := { dst := some 31, op := Op.move (Operand.tmp 35), .. }) (v := .tuple #[.agg (TC tB), v, .int .i64 0]) rfl (by kernel_rfl) (by kernel_rfl) (by kernel_rfl) (fun _ _ _ h => h) (Or.inl ⟨by kernel_rfl, fun wz hz => by kernel_rfl⟩) hH6 ?_
        try simp only [Act.put, setIfInBounds_toArray, set_cons_zero, set_cons_succ]
        refine wpAnyH_take (i := 5) (oi := { dst := some 36, op := Op.extract (Operand.tmp 31) 0, .. }) (v := .agg (TC tB)) rfl (by kernel_rfl) (by kernel_rfl) (by kernel_rfl) (fun _ _ _ h => h) (Or.inl ⟨by kernel_rfl, fun wz hz => by kernel_rfl⟩) hH6 ?_
        try simp only [Act.put, setIfInBounds_toArray, set_cons_zero, set_cons_succ]
        refine wpAnyH_take (i := 6) (oi := { dst := some 37, op := Op.extract (Operand.tmp 31) 1, .. }) (v := v) rfl (by kernel_rfl) (by kernel_rfl) (by kernel_rfl) (fun _ _ _ h => h) (Or.inl ⟨by kernel_rfl, fun wz hz => by kernel_rfl⟩) hH6 ?_
        try simp only [Act.put, setIfInBounds_toArray, set_cons_zero, set_cons_succ]
        refine wpAnyH_take (i := 7) (oi := { dst := some 38, op := Op.extract (Operand.tmp 31) 2, .. }) (v := .int .i64 0) rfl (by kernel_rfl) (by kernel_rfl) (by kernel_rfl) (fun _ _ _ h => h) (Or.inl ⟨by kernel_rfl, fun wz hz => by kernel_rfl⟩) hH6 ?_
        try simp only [Act.put, setIfInBounds_toArray, set_cons_zero, set_cons_succ]
        refine wpAnyH_ready (rs := [9]) (by kernel_rfl) (by simp) ?_
        refine AllReadyH.cons (o := { dst := none, op := Op.store 41 (Operand.tmp 3) (Operand.tmp 36), .. }) rfl (fun K hK => ?_) AllReadyH.nil
        refine jstep_store rfl 41 (.tmp 3) (.tmp 36) rfl g8 41 #[.int .i64 0, .string { data := #[] }, .int .i64 0, .int .i64 0, .int .i64 0] (TC tB) rfl rfl hn8 jsize_st (one_TC _) rfl ?_
        intro w307 hB9 hA9
        have X7 := Lib.hid (X6.out.apart hn8 hfr8 hge8 hA9)
        refine hK.out _ _ (HL2.out _ _ X7.out) (fun hH7 => ?_)
        clear hK K
        try simp only [Act.put]
        refine wpAnyH_take (i := 10) (oi := { dst := some 4, op := Op.assign (Operand.tmp 37), .. }) (v := v) rfl (by kernel_rfl) (by kernel_rfl) (by kernel_rfl) (fun _ _ _ h => h) (Or.inl ⟨by kernel_rfl, fun wz hz => by kernel_rfl⟩) hH7 ?_
        try simp only [Act.put, setIfInBounds_toArray, set_cons_zero, set_cons_succ]
        refine wpAnyH_take (i := 11) (oi := { dst := some 5, op := Op.assign (Operand.tmp 38), .. }) (v := .int .i64 0) rfl (by kernel_rfl) (by kernel_rfl) (by kernel_rfl) (fun _ _ _ h => h) (Or.inl ⟨by kernel_rfl, fun wz hz => by kernel_rfl⟩) hH7 ?_
        try simp only [Act.put, setIfInBounds_toArray, set_cons_zero, set_cons_succ]
        refine wpAnyH_done (by kernel_rfl) ?_ _
        go_wp2_with fail
        go_meet
        case rel => exact ⟨g8, v, rfl, rfl, rfl, Lib.hid (X7.out.addB hB9)⟩
    · go_simp
      have hn8 := newOf wd (.cells #[.int .i64 0, .string { data := #[] }, .int .i64 0, .int .i64 0, .int .i64 0] 41)
      have X8 := Lib.hid (X0.out.next (below_box wd (.cells #[.int .i64 0, .string { data := #[] }, .int .i64 0, .int .i64 0, .int .i64 0] 41)))
      have hge8 := X0.out.below.size
      have hfr8 := fun p hp => Nat.ne_of_lt (ltOf (X0.out.b p hp))
      refine hK.out _ _ (HL.out _ X8.out) (fun hH8 => ?_)
      clear hK K
      generalize wd.alloc (.cells #[.int .i64 0, .string { data := #[] }, .int .i64 0, .int .i64 0, .int .i64 0] 41) = w308 at *
      generalize wd.heap.size = g8 at *
      try simp only [Act.put, setIfInBounds_toArray, set_cons_zero, set_cons_succ]
      refine wpAnyH_ready (rs := [0]) (by kernel_rfl) (by simp) ?_
      refine AllReadyH.cons (o := { dst := some 32, op := Op.call { callee := Callee.value (Operand.func 19), args := #[], argTypes := #[] }, .. }) rfl (fun K hK => ?_) AllReadyH.nil
      go_simp
      go_at_call 19
      refine (uC _).mono ?_
      rintro r w309 ⟨rfl, hb⟩
      have X9 := Lib.hid (X8.out.next hb)
      have hn8 := (hb.block _ (ltOf hn8)).trans hn8
      refine hK.out _ _ (HL.out _ X9.out) (fun hH9 => ?_)
      clear hK K hb
      try simp only [Act.put, setIfInBounds_toArray, set_cons_zero, set_cons_succ]
      refine wpAnyH_ready (rs := [3]) (by kernel_rfl) (by simp) ?_
      refine AllReadyH.cons (o := { dst := some 35, op := Op.call { callee := Callee.value (Operand.func 11), args := #[Operand.tmp 32, Operand.tmp 33, Operand.tmp 34, Operand.const (Value.int IntKind.i64 110), Operand.const (Value.int IntKind.i64 4)], argTypes := #[23, 33, 41, 3, 3] }, .. }) rfl (fun K hK => ?_) AllReadyH.nil
      go_simp
      go_at_call 11
      have HX := X9.out
      refine (tryA HX (tA) 110 4 (tB) ([]) 0 rfl rfl rfl (by decide)).mono ?_
      rintro r w310 ⟨v, rfl, hq⟩
      have X10 := Lib.hid hq.out.1
      have hn8 := (hq.out.2.block _ (ltOf hn8)).trans hn8
      refine hK.out _ _ (HL2.out _ _ X10.out) (fun hH10 => ?_)
      clear hK K HX hq
      try simp only [Act.put, setIfInBounds_toArray, set_cons_zero, set_cons_succ]
      refine wpAnyH_take (i := 4) (oi := { dst := some 31, op := Op.move (Operand.tmp 35), .. }) (v := .tuple #[.agg (TC tB), v, .int .i64 0]) rfl (by kernel_rfl) (by kernel_rfl) (by kernel_rfl) (fun _ _ _ h => h) (Or.inl ⟨by kernel_rfl, fun wz hz => by kernel_rfl⟩) hH10 ?_
      try simp only [Act.put, setIfInBounds_toArray, set_cons_zero, set_cons_succ]
      refine wpAnyH_take (i := 5) (oi := { dst := some 36, op := Op.extract (Operand.tmp 31) 0, .. }) (v := .agg (TC tB)) rfl (by kernel_rfl) (by kernel_rfl) (by kernel_rfl) (fun _ _ _ h => h) (Or.inl ⟨by kernel_rfl, fun wz hz => by kernel_rfl⟩) hH10 ?_
      try simp only [Act.put, setIfInBounds_toArray, set_cons_zero, set_cons_succ]
      refine wpAnyH_take (i := 6) (oi := { dst := some 37, op := Op.extract (Operand.tmp 31) 1, .. }) (v := v) rfl (by kernel_rfl) (by kernel_rfl) (by kernel_rfl) (fun _ _ _ h => h) (Or.inl ⟨by kernel_rfl, fun wz hz => by kernel_rfl⟩) hH10 ?_
      try simp only [Act.put, setIfInBounds_toArray, set_cons_zero, set_cons_succ]
      refine wpAnyH_take (i := 7) (oi := { dst := some 38, op := Op.extract (Operand.tmp 31) 2, .. }) (v := .int .i64 0) rfl (by kernel_rfl) (by kernel_rfl) (by kernel_rfl) (fun _ _ _ h => h) (Or.inl ⟨by kernel_rfl, fun wz hz => by kernel_rfl⟩) hH10 ?_
      try simp only [Act.put, setIfInBounds_toArray, set_cons_zero, set_cons_succ]
      refine wpAnyH_ready (rs := [9]) (by kernel_rfl) (by simp) ?_
      refine AllReadyH.cons (o := { dst := none, op := Op.store 41 (Operand.tmp 3) (Operand.tmp 36), .. }) rfl (fun K hK => ?_) AllReadyH.nil
      refine jstep_store rfl 41 (.tmp 3) (.tmp 36) rfl g8 41 #[.int .i64 0, .string { data := #[] }, .int .i64 0, .int .i64 0, .int .i64 0] (TC tB) rfl rfl hn8 jsize_st (one_TC _) rfl ?_
      intro w311 hB9 hA9
      have X11 := Lib.hid (X10.out.apart hn8 hfr8 hge8 hA9)
      refine hK.out _ _ (HL2.out _ _ X11.out) (fun hH11 => ?_)
      clear hK K
      try simp only [Act.put]
      refine wpAnyH_take (i := 10) (oi := { dst := some 4, op := Op.assign (Operand.tmp 37), .. }) (v := v) rfl (by kernel_rfl) (by kernel_rfl) (by kernel_rfl) (fun _ _ _ h => h) (Or.inl ⟨by kernel_rfl, fun wz hz => by kernel_rfl⟩) hH11 ?_
      try simp only [Act.put, setIfInBounds_toArray, set_cons_zero, set_cons_succ]
      refine wpAnyH_take (i := 11) (oi := { dst := some 5, op := Op.assign (Operand.tmp 38), .. }) (v := .int .i64 0) rfl (by kernel_rfl) (by kernel_rfl) (by kernel_rfl) (fun _ _ _ h => h) (Or.inl ⟨by kernel_rfl, fun wz hz => by kernel_rfl⟩) hH11 ?_
      try simp only [Act.put, setIfInBounds_toArray, set_cons_zero, set_cons_succ]
      refine wpAnyH_done (by kernel_rfl) ?_ _
      go_wp2_with fail
      go_meet
      case rel => exact ⟨g8, v, rfl, rfl, rfl, Lib.hid (X11.out.addB hB9)⟩
  case rest =>
  obtain ⟨ga, va, rfl, rfl, rfl, H3⟩ := hcut
  clear HX1
  go_upto_region 4 with fail
  go_cut [6, 7, 8] from 39 (fun a b c wc => ∃ g v, a = .pointer (some ⟨g, 0, none⟩) ∧ v = b ∧ c = .int .i64 0 ∧ Hid (AW w gm gr ((g, tC) :: ((ga, tB) :: [(gt, tA)])) ((v, [kF.name]) :: ((va, []) :: [])) wc))
  case first =>
    have HL := Lib.hid (fun w2 (h : AW w gm gr ((ga, tB) :: [(gt, tA)]) ((va, []) :: []) w2) => show (loadVar 33 ⟨gm, 0, none⟩).run Tryz.prog w2 = .ok (.agg (EC xA (.slice (some ⟨gr, 0, none⟩) 1 1) jnil)) w2 ∧ (loadVar 41 ⟨ga, 0, none⟩).run Tryz.prog w2 = .ok (.agg (TC tB)) w2 from ⟨jl_msg h.m, jl_st (h.b (ga, tB) (by simp))⟩)
    have HL2 := Lib.hid (fun v w2 (h : AW w gm gr ((ga, tB) :: [(gt, tA)]) ((v, [kF.name]) :: ((va, []) :: [])) w2) => show (loadVar 33 ⟨gm, 0, none⟩).run Tryz.prog w2 = .ok (.agg (EC xA (.slice (some ⟨gr, 0, none⟩) 1 1) jnil)) w2 ∧ (loadVar 41 ⟨ga, 0, none⟩).run Tryz.prog w2 = .ok (.agg (TC tB)) w2 from ⟨jl_msg h.m, jl_st (h.b (ga, tB) (by simp))⟩)
    have X0 := Lib.hid (H3.out.next (Below.refl _ _).drew)
    refine wp_region_held_drew (S := fun wr => (loadVar 33 ⟨gm, 0, none⟩).run Tryz.prog wr = .ok (.agg (EC xA (.slice (some ⟨gr, 0, none⟩) 1 1) jnil)) wr ∧ (loadVar 41 ⟨ga, 0, none⟩).run Tryz.prog wr = .ok (.agg (TC tB)) wr) (by kernel_rfl) (HL.out _ X0.out) (fun hH => ?_)
    generalize wc.drew = wd at *
    refine wpAnyH_take (i := 1) (oi := { dst := some 41, op := Op.load 33 (Operand.tmp 1), .. }) (v := .agg (EC xA (.slice (some ⟨gr, 0, none⟩) 1 1) jnil)) rfl (by kernel_rfl) (by kernel_rfl) (by kernel_rfl) (fun _ _ _ h => h) (Or.inl ⟨by kernel_rfl, fun wz hz => jload_op _ ⟨rfl, rfl⟩ hz.1⟩) hH ?_
    try simp only [Act.put, setIfInBounds_toArray, set_cons_zero, set_cons_succ]
    refine wpAnyH_take (i := 2) (oi := { dst := some 42, op := Op.load 41 (Operand.tmp 3), .. }) (v := .agg (TC tB)) rfl (by kernel_rfl) (by kernel_rfl) (by kernel_rfl) (fun _ _ _ h => h) (Or.inl ⟨by kernel_rfl, fun wz hz => jload_op _ ⟨rfl, rfl⟩ hz.2⟩) hH ?_
    try simp only [Act.put, setIfInBounds_toArray, set_cons_zero, set_cons_succ]
    refine wpAnyH_ready (rs := [0, 8]) (by kernel_rfl) (by simp) ?_
    refine AllReadyH.cons (o := { dst := some 40, op := Op.call { callee := Callee.value (Operand.func 19), args := #[], argTypes := #[] }, .. }) rfl (fun K hK => ?_) (AllReadyH.cons (o := { dst := some 6, op := Op.alloc 41, .. }) rfl (fun K hK => ?_) AllReadyH.nil)
    · go_simp
      go_at_call 19
      refine (uC _).mono ?_
      rintro r w401 ⟨rfl, hb⟩
      have X1 := Lib.hid (X0.out.next hb)
      refine hK.out _ _ (HL.out _ X1.out) (fun hH1 => ?_)
      clear hK K hb
      try simp only [Act.put, setIfInBounds_toArray, set_cons_zero, set_cons_succ]
      refine wpAnyH_ready (rs := [3, 8]) (by kernel_rfl) (by simp) ?_
      refine AllReadyH.cons (o := { dst := some 43, op := Op.call { callee := Callee.value (Operand.func 12), args := #[Operand.tmp 40, Operand.tmp 41, Operand.tmp 42, Operand.const (Value.int IntKind.i64 150)], argTypes := #[23, 33, 41, 3] }, .. }) rfl (fun K hK => ?_) (AllReadyH.cons (o := { dst := some 6, op := Op.alloc 41, .. }) rfl (fun K hK => ?_) AllReadyH.nil)
      · go_simp
        go_at_call 12
        have HX := X1.out
        refine (timeA HX pU (tB) 150 (tC) ([kF.name]) 0 rfl rfl rfl (by decide)).mono ?_
        rintro r w402 ⟨v, rfl, hq⟩
        have X2 := Lib.hid hq.out.1
        refine hK.out _ _ (HL2.out _ _ X2.out) (fun hH2 => ?_)
        clear hK K HX hq
        try simp only [Act.put, setIfInBounds_toArray, set_cons_zero, set_cons_succ]
        refine wpAnyH_take (i := 4) (oi := { dst := some 39, op := Op.move (Operand.tmp 43), .. }) (v := .tuple #[.agg (TC tC), v, .int .i64 0]) rfl (by kernel_rfl) (by kernel_rfl) (by kernel_rfl) (fun _ _ _ h => h) (Or.inl ⟨by kernel_rfl, fun wz hz => by kernel_rfl⟩) hH2 ?_
        try simp only [Act.put, setIfInBounds_toArray, set_cons_zero, set_cons_succ]
        refine wpAnyH_take (i := 5) (oi := { dst := some 44, op := Op.extract (Operand.tmp 39) 0, .. }) (v := .agg (TC tC)) rfl (by kernel_rfl) (by kernel_rfl) (by kernel_rfl) (fun _ _ _ h => h) (Or.inl ⟨by kernel_rfl, fun wz hz => by kernel_rfl⟩) hH2 ?_
        try simp only [Act.put, setIfInBounds_toArray, set_cons_zero, set_cons_succ]
        refine wpAnyH_take (i := 6) (oi := { dst := some 45, op := Op.extract (Operand.tmp 39) 1, .. }) (v := v) rfl (by kernel_rfl) (by kernel_rfl) (by kernel_rfl) (fun _ _ _ h => h) (Or.inl ⟨by kernel_rfl, fun wz hz => by kernel_rfl⟩) hH2 ?_
        try simp only [Act.put, setIfInBounds_toArray, set_cons_zero, set_cons_succ]
        refine wpAnyH_take (i := 7) (oi := { dst := some 46, op := Op.extract (Operand.tmp 39) 2, .. }) (v := .int .i64 0) rfl (by kernel_rfl) (by kernel_rfl) (by kernel_rfl) (fun _ _ _ h => h) (Or.inl ⟨by kernel_rfl, fun wz hz => by kernel_rfl⟩) hH2 ?_
        try simp only [Act.put, setIfInBounds_toArray, set_cons_zero, set_cons_succ]
        refine wpAnyH_ready (rs := [8]) (by kernel_rfl) (by simp) ?_
        refine AllReadyH.cons (o := { dst := some 6, op := Op.alloc 41, .. }) rfl (fun K hK => ?_) AllReadyH.nil
        go_simp
        have hn8 := newOf w402 (.cells #[.int .i64 0, .string { data := #[] }, .int .i64 0, .int .i64 0, .int .i64 0] 41)
        have X3 := Lib.hid (X2.out.next (below_box w402 (.cells #[.int .i64 0, .string { data := #[] }, .int .i64 0, .int .i64 0, .int .i64 0] 41)))
        have hge8 := X2.out.below.size
        have hfr8 := fun p hp => Nat.ne_of_lt (ltOf (X2.out.b p hp))
        refine hK.out _ _ (HL2.out _ _ X3.out) (fun hH3 => ?_)
        clear hK K
        generalize w402.alloc (.cells #[.int .i64 0, .string { data := #[] }, .int .i64 0, .int .i64 0, .int .i64 0] 41) = w403 at *
        generalize w402.heap.size = g8 at *
        try simp only [Act.put, setIfInBounds_toArray, set_cons_zero, set_cons_succ]
        refine wpAnyH_ready (rs := [9]) (by kernel_rfl) (by simp) ?_
        refine AllReadyH.cons (o := { dst := none, op := Op.store 41 (Operand.tmp 6) (Operand.tmp 44), .. }) rfl (fun K hK => ?_) AllReadyH.nil
        refine jstep_store rfl 41 (.tmp 6) (.tmp 44) rfl g8 41 #[.int .i64 0, .string { data := #[] }, .int .i64 0, .int .i64 0, .int .i64 0] (TC tC) rfl rfl hn8 jsize_st (one_TC _) rfl ?_
        intro w404 hB9 hA9
        have X4 := Lib.hid (X3.out.apart hn8 hfr8 hge8 hA9)
        refine hK.out _ _ (HL2.out _ _ X4.out) (fun hH4 => ?_)
        clear hK K
        try simp only [Act.put]
        refine wpAnyH_take (i := 10) (oi := { dst := some 7, op := Op.assign (Operand.tmp 45), .. }) (v := v) rfl (by kernel_rfl) (by kernel_rfl) (by kernel_rfl) (fun _ _ _ h => h) (Or.inl ⟨by kernel_rfl, fun wz hz => by kernel_rfl⟩) hH4 ?_
        try simp only [Act.put, setIfInBounds_toArray, set_cons_zero, set_cons_succ]
        refine wpAnyH_take (i := 11) (oi := { dst := some 8, op := Op.assign (Operand.tmp 46), .. }) (v := .int .i64 0) rfl (by kernel_rfl) (by kernel_rfl) (by kernel_rfl) (fun _ _ _ h => h) (Or.inl ⟨by kernel_rfl, fun wz hz => by kernel_rfl⟩) hH4 ?_
        try simp only [Act.put, setIfInBounds_toArray, set_cons_zero, set_cons_succ]
        refine wpAnyH_done (by kernel_rfl) ?_ _
        go_wp2_with fail
        go_meet
        case rel => exact ⟨g8, v, rfl, rfl, rfl, Lib.hid (X4.out.addB hB9)⟩
      · go_simp
        have hn8 := newOf w401 (.cells #[.int .i64 0, .string { data := #[] }, .int .i64 0, .int .i64 0, .int .i64 0] 41)
        have X5 := Lib.hid (X1.out.next (below_box w401 (.cells #[.int .i64 0, .string { data := #[] }, .int .i64 0, .int .i64 0, .int .i64 0] 41)))
        have hge8 := X1.out.below.size
        have hfr8 := fun p hp => Nat.ne_of_lt (ltOf (X1.out.b p hp))
        refine hK.out _ _ (HL.out _ X5.out) (fun hH5 => ?_)
        clear hK K
        generalize w401.alloc (.cells #[.int .i64 0, .string { data := #[] }, .int .i64 0, .int .i64 0, .int .i64 0] 41) = w405 at *
        generalize w401.heap.size = g8 at *
        try simp only [Act.put, setIfInBounds_toArray, set_cons_zero, set_cons_succ]
        refine wpAnyH_ready (rs := [3]) (by kernel_rfl) (by simp) ?_
        refine AllReadyH.cons (o := { dst := some 43, op := Op.call { callee := Callee.value (Operand.func 12), args := #[Operand.tmp 40, Operand.tmp 41, Operand.tmp 42, Operand.const (Value.int IntKind.i64 150)], argTypes := #[23, 33, 41, 3] }, .. }) rfl (fun K hK => ?_) AllReadyH.nil
        go_simp
        go_at_call 12
        have HX := X5.out
        refine (timeA HX pU (tB) 150 (tC) ([kF.name]) 0 rfl rfl rfl (by decide)).mono ?_
        rintro r w406 ⟨v, rfl, hq⟩
        have X6 := Lib.hid hq.out.1
        have hn8 := (hq.out.2.block _ (ltOf hn8)).trans hn8
        refine hK.out _ _ (HL2.out _ _ X6.out) (fun hH6 => ?_)
        clear hK K HX hq
        try simp only [Act.put, setIfInBounds_toArray, set_cons_zero, set_cons_succ]
        refine wpAnyH_take (i := 4) (oi := { dst := some 39, op := Op.move (Operand.tmp 43), .. }) (v := .tuple #[.agg (TC tC), v, .int .i64 0]) rfl (by kernel_rfl) (by kernel_rfl) (by kernel_rfl) (fun _ _ _ h => h) (Or.inl ⟨by kernel_rfl, fun wz hz => by kernel_rfl⟩) hH6 ?_
        try simp only [Act.put, setIfInBounds_toArray, set_cons_zero, set_cons_succ]
        refine wpAnyH_take (i := 5) (oi := { dst := some 44, op := Op.extract (Operand.tmp 39) 0, .. }) (v := .agg (TC tC)) rfl (by kernel_rfl) (by kernel_rfl) (by kernel_rfl) (fun _ _ _ h => h) (Or.inl ⟨by kernel_rfl, fun wz hz => by kernel_rfl⟩) hH6 ?_
        try simp only [Act.put, setIfInBounds_toArray, set_cons_zero, set_cons_succ]
        refine wpAnyH_take (i := 6) (oi := { dst := some 45, op := Op.extract (Operand.tmp 39) 1, .. }) (v := v) rfl (by kernel_rfl) (by kernel_rfl) (by kernel_rfl) (fun _ _ _ h => h) (Or.inl ⟨by kernel_rfl, fun wz hz => by kernel_rfl⟩) hH6 ?_
        try simp only [Act.put, setIfInBounds_toArray, set_cons_zero, set_cons_succ]
        refine wpAnyH_take (i := 7) (oi := { dst := some 46, op := Op.extract (Operand.tmp 39) 2, .. }) (v := .int .i64 0) rfl (by kernel_rfl) (by kernel_rfl) (by kernel_rfl) (fun _ _ _ h => h) (Or.inl ⟨by kernel_rfl, fun wz hz => by kernel_rfl⟩) hH6 ?_
        try simp only [Act.put, setIfInBounds_toArray, set_cons_zero, set_cons_succ]
        refine wpAnyH_ready (rs := [9]) (by kernel_rfl) (by simp) ?_
        refine AllReadyH.cons (o := { dst := none, op := Op.store 41 (Operand.tmp 6) (Operand.tmp 44), .. }) rfl (fun K hK => ?_) AllReadyH.nil
        refine jstep_store rfl 41 (.tmp 6) (.tmp 44) rfl g8 41 #[.int .i64 0, .string { data := #[] }, .int .i64 0, .int .i64 0, .int .i64 0] (TC tC) rfl rfl hn8 jsize_st (one_TC _) rfl ?_
        intro w407 hB9 hA9
        have X7 := Lib.hid (X6.out.apart hn8 hfr8 hge8 hA9)
        refine hK.out _ _ (HL2.out _ _ X7.out) (fun hH7 => ?_)
        clear hK K
        try simp only [Act.put]
        refine wpAnyH_take (i := 10) (oi := { dst := some 7, op := Op.assign (Operand.tmp 45), .. }) (v := v) rfl (by kernel_rfl) (by kernel_rfl) (by kernel_rfl) (fun _ _ _ h => h) (Or.inl ⟨by kernel_rfl, fun wz hz => by kernel_rfl⟩) hH7 ?_
        try simp only [Act.put, setIfInBounds_toArray, set_cons_zero, set_cons_succ]
        refine wpAnyH_take (i := 11) (oi := { dst := some 8, op := Op.assign (Operand.tmp 46), .. }) (v := .int .i64 0) rfl (by kernel_rfl) (by kernel_rfl) (by kernel_rfl) (fun _ _ _ h => h) (Or.inl ⟨by kernel_rfl, fun wz hz => by kernel_rfl⟩) hH7 ?_
        try simp only [Act.put, setIfInBounds_toArray, set_cons_zero, set_cons_succ]
        refine wpAnyH_done (by kernel_rfl) ?_ _
        go_wp2_with fail
        go_meet
        case rel => exact ⟨g8, v, rfl, rfl, rfl, Lib.hid (X7.out.addB hB9)⟩
    · go_simp
      have hn8 := newOf wd (.cells #[.int .i64 0, .string { data := #[] }, .int .i64 0, .int .i64 0, .int .i64 0] 41)
      have X8 := Lib.hid (X0.out.next (below_box wd (.cells #[.int .i64 0, .string { data := #[] }, .int .i64 0, .int .i64 0, .int .i64 0] 41)))
      have hge8 := X0.out.below.size
      have hfr8 := fun p hp => Nat.ne_of_lt (ltOf (X0.out.b p hp))
      refine hK.out _ _ (HL.out _ X8.out) (fun hH8 => ?_)
      clear hK K
      generalize wd.alloc (.cells #[.int .i64 0, .string { data := #[] }, .int .i64 0, .int .i64 0, .int .i64 0] 41) = w408 at *
      generalize wd.heap.size = g8 at *
      try simp only [Act.put, setIfInBounds_toArray, set_cons_zero, set_cons_succ]
      refine wpAnyH_ready (rs := [0]) (by kernel_rfl) (by simp) ?_
      refine AllReadyH.cons (o := { dst := some 40, op := Op.call { callee := Callee.value (Operand.func 19), args := #[], argTypes := #[] }, .. }) rfl (fun K hK => ?_) AllReadyH.nil
      go_simp
      go_at_call 19
      refine (uC _).mono ?_
      rintro r w409 ⟨rfl, hb⟩
      have X9 := Lib.hid (X8.out.next hb)
      have hn8 := (hb.block _ (ltOf hn8)).trans hn8
      refine hK.out _ _ (HL.out _ X9.out) (fun hH9 => ?_)
      clear hK K hb
      try simp only [Act.put, setIfInBounds_toArray, set_cons_zero, set_cons_succ]
      refine wpAnyH_ready (rs := [3]) (by kernel_rfl) (by simp) ?_
      refine AllReadyH.cons (o := { dst := some 43, op := Op.call { callee := Callee.value (Operand.func 12), args := #[Operand.tmp 40, Operand.tmp 41, Operand.tmp 42, Operand.const (Value.int IntKind.i64 150)], argTypes := #[23, 33, 41, 3] }, .. }) rfl (fun K hK => ?_) AllReadyH.nil
      go_simp
      go_at_call 12
      have HX := X9.out
      refine (timeA HX pU (tB) 150 (tC) ([kF.name]) 0 rfl rfl rfl (by decide)).mono ?_
      rintro r w410 ⟨v, rfl, hq⟩
      have X10 := Lib.hid hq.out.1
      have hn8 := (hq.out.2.block _ (ltOf hn8)).trans hn8
      refine hK.out _ _ (HL2.out _ _ X10.out) (fun hH10 => ?_)
      clear hK K HX hq
      try simp only [Act.put, setIfInBounds_toArray, set_cons_zero, set_cons_succ]
      refine wpAnyH_take (i := 4) (oi := { dst := some 39, op := Op.move (Operand.tmp 43), .. }) (v := .tuple #[.agg (TC tC), v, .int .i64 0]) rfl (by kernel_rfl) (by kernel_rfl) (by kernel_rfl) (fun _ _ _ h => h) (Or.inl ⟨by kernel_rfl, fun wz hz => by kernel_rfl⟩) hH10 ?_
      try simp only [Act.put, setIfInBounds_toArray, set_cons_zero, set_cons_succ]
      refine wpAnyH_take (i := 5) (oi := { dst := some 44, op := Op.extract (Operand.tmp 39) 0, .. }) (v := .agg (TC tC)) rfl (by kernel_rfl) (by kernel_rfl) (by kernel_rfl) (fun _ _ _ h => h) (Or.inl ⟨by kernel_rfl, fun wz hz => by kernel_rfl⟩) hH10 ?_
      try simp only [Act.put, setIfInBounds_toArray, set_cons_zero, set_cons_succ]
      refine wpAnyH_take (i := 6) (oi := { dst := some 45, op := Op.extract (Operand.tmp 39) 1, .. }) (v := v) rfl (by kernel_rfl) (by kernel_rfl) (by kernel_rfl) (fun _ _ _ h => h) (Or.inl ⟨by kernel_rfl, fun wz hz => by kernel_rfl⟩) hH10 ?_
      try simp only [Act.put, setIfInBounds_toArray, set_cons_zero, set_cons_succ]
      refine wpAnyH_take (i := 7) (oi := { dst := some 46, op := Op.extract (Operand.tmp 39) 2, .. }) (v := .int .i64 0) rfl (by kernel_rfl) (by kernel_rfl) (by kernel_rfl) (fun _ _ _ h => h) (Or.inl ⟨by kernel_rfl, fun wz hz => by kernel_rfl⟩) hH10 ?_
      try simp only [Act.put, setIfInBounds_toArray, set_cons_zero, set_cons_succ]
      refine wpAnyH_ready (rs := [9]) (by kernel_rfl) (by simp) ?_
      refine AllReadyH.cons (o := { dst := none, op := Op.store 41 (Operand.tmp 6) (Operand.tmp 44), .. }) rfl (fun K hK => ?_) AllReadyH.nil
      refine jstep_store rfl 41 (.tmp 6) (.tmp 44) rfl g8 41 #[.int .i64 0, .string { data := #[] }, .int .i64 0, .int .i64 0, .int .i64 0] (TC tC) rfl rfl hn8 jsize_st (one_TC _) rfl ?_
      intro w411 hB9 hA9
      have X11 := Lib.hid (X10.out.apart hn8 hfr8 hge8 hA9)
      refine hK.out _ _ (HL2.out _ _ X11.out) (fun hH11 => ?_)
      clear hK K
      try simp only [Act.put]
      refine wpAnyH_take (i := 10) (oi := { dst := some 7, op := Op.assign (Operand.tmp 45), .. }) (v := v) rfl (by kernel_rfl) (by kernel_rfl) (by kernel_rfl) (fun _ _ _ h => h) (Or.inl ⟨by kernel_rfl, fun wz hz => by kernel_rfl⟩) hH11 ?_
      try simp only [Act.put, setIfInBounds_toArray, set_cons_zero, set_cons_succ]
      refine wpAnyH_take (i := 11) (oi := { dst := some 8, op := Op.assign (Operand.tmp 46), .. }) (v := .int .i64 0) rfl (by kernel_rfl) (by kernel_rfl) (by kernel_rfl) (fun _ _ _ h => h) (Or.inl ⟨by kernel_rfl, fun wz hz => by kernel_rfl⟩) hH11 ?_
      try simp only [Act.put, setIfInBounds_toArray, set_cons_zero, set_cons_succ]
      refine wpAnyH_done (by kernel_rfl) ?_ _
      go_wp2_with fail
      go_meet
      case rel => exact ⟨g8, v, rfl, rfl, rfl, Lib.hid (X11.out.addB hB9)⟩
  case rest =>
  obtain ⟨gb, vb, rfl, rfl, rfl, H4⟩ := hcut
  clear H3
  go_upto_region 5 with fail
  go_cut [9, 10, 11] from 47 (fun a b c wc => ∃ g v, a = .pointer (some ⟨g, 0, none⟩) ∧ v = b ∧ c = .int .i64 0 ∧ Hid (AW w gm gr ((g, tD) :: ((gb, tC) :: ((ga, tB) :: [(gt, tA)]))) ((v, []) :: ((vb, [kF.name]) :: ((va, []) :: []))) wc))
  case first =>
    have HL := Lib.hid (fun w2 (h : AW w gm gr ((gb, tC) :: ((ga, tB) :: [(gt, tA)])) ((vb, [kF.name]) :: ((va, []) :: [])) w2) => show (loadVar 33 ⟨gm, 0, none⟩).run Tryz.prog w2 = .ok (.agg (EC xA (.slice (some ⟨gr, 0, none⟩) 1 1) jnil)) w2 ∧ (loadVar 41 ⟨gt, 0, none⟩).run Tryz.prog w2 = .ok (.agg (TC tA)) w2 from ⟨jl_msg h.m, jl_st (h.b (gt, tA) (by simp))⟩)
    have HL2 := Lib.hid (fun v w2 (h : AW w gm gr ((gb, tC) :: ((ga, tB) :: [(gt, tA)])) ((v, []) :: ((vb, [kF.name]) :: ((va, []) :: []))) w2) => show (loadVar 33 ⟨gm, 0, none⟩).run Tryz.prog w2 = .ok (.agg (EC xA (.slice (some ⟨gr, 0, none⟩) 1 1) jnil)) w2 ∧ (loadVar 41 ⟨gt, 0, none⟩).run Tryz.prog w2 = .ok (.agg (TC tA)) w2 from ⟨jl_msg h.m, jl_st (h.b (gt, tA) (by simp))⟩)
    have X0 := Lib.hid (H4.out.next (Below.refl _ _).drew)
    refine wp_region_held_drew (S := fun wr => (loadVar 33 ⟨gm, 0, none⟩).run Tryz.prog wr = .ok (.agg (EC xA (.slice (some ⟨gr, 0, none⟩) 1 1) jnil)) wr ∧ (loadVar 41 ⟨gt, 0, none⟩).run Tryz.prog wr = .ok (.agg (TC tA)) wr) (by kernel_rfl) (HL.out _ X0.out) (fun hH => ?_)
    generalize wc.drew = wd at *
    refine wpAnyH_take (i := 1) (oi := { dst := some 49, op := Op.load 33 (Operand.tmp 1), .. }) (v := .agg (EC xA (.slice (some ⟨gr, 0, none⟩) 1 1) jnil)) rfl (by kernel_rfl) (by kernel_rfl) (by kernel_rfl) (fun _ _ _ h => h) (Or.inl ⟨by kernel_rfl, fun wz hz => jload_op _ ⟨rfl, rfl⟩ hz.1⟩) hH ?_
    try simp only [Act.put, setIfInBounds_toArray, set_cons_zero, set_cons_succ]
    refine wpAnyH_take (i := 2) (oi := { dst := some 50, op := Op.load 41 (Operand.tmp 2), .. }) (v := .agg (TC tA)) rfl (by kernel_rfl) (by kernel_rfl) (by kernel_rfl) (fun _ _ _ h => h) (Or.inl ⟨by kernel_rfl, fun wz hz => jload_op _ ⟨rfl, rfl⟩ hz.2⟩) hH ?_
    try simp only [Act.put, setIfInBounds_toArray, set_cons_zero, set_cons_succ]
    refine wpAnyH_ready (rs := [0, 8]) (by kernel_rfl) (by simp) ?_
    refine AllReadyH.cons (o := { dst := some 48, op := Op.call { callee := Callee.value (Operand.func 19), args := #[], argTypes := #[] }, .. }) rfl (fun K hK => ?_) (AllReadyH.cons (o := { dst := some 9, op := Op.alloc 41, .. }) rfl (fun K hK => ?_) AllReadyH.nil)
    · go_simp
      go_at_call 19
      refine (uC _).mono ?_
      rintro r w501 ⟨rfl, hb⟩
      have X1 := Lib.hid (X0.out.next hb)
      refine hK.out _ _ (HL.out _ X1.out) (fun hH1 => ?_)
      clear hK K hb
      try simp only [Act.put, setIfInBounds_toArray, set_cons_zero, set_cons_succ]
      refine wpAnyH_ready (rs := [3, 8]) (by kernel_rfl) (by simp) ?_
      refine AllReadyH.cons (o := { dst := some 51, op := Op.call { callee := Callee.value (Operand.func 11), args := #[Operand.tmp 48, Operand.tmp 49, Operand.tmp 50, Operand.const (Value.int IntKind.i64 110), Operand.const (Value.int IntKind.i64 2)], argTypes := #[23, 33, 41, 3, 3] }, .. }) rfl (fun K hK => ?_) (AllReadyH.cons (o := { dst := some 9, op := Op.alloc 41, .. }) rfl (fun K hK => ?_) AllReadyH.nil)
      · go_simp
        go_at_call 11
        have HX := X1.out
        refine (tryA HX (tA) 110 2 (tD) ([]) 0 rfl rfl rfl (by decide)).mono ?_
        rintro r w502 ⟨v, rfl, hq⟩
        have X2 := Lib.hid hq.out.1
        refine hK.out _ _ (HL2.out _ _ X2.out) (fun hH2 => ?_)
        clear hK K HX hq
        try simp only [Act.put, setIfInBounds_toArray, set_cons_zero, set_cons_succ]
        refine wpAnyH_take (i := 4) (oi := { dst := some 47, op := Op.move (Operand.tmp 51), .. }) (v := .tuple #[.agg (TC tD), v, .int .i64 0]) rfl (by kernel_rfl) (by kernel_rfl) (by kernel_rfl) (fun _ _ _ h => h) (Or.inl ⟨by kernel_rfl, fun wz hz => by kernel_rfl⟩) hH2 ?_
        try simp only [Act.put, setIfInBounds_toArray, set_cons_zero, set_cons_succ]
        refine wpAnyH_take (i := 5) (oi := { dst := some 52, op := Op.extract (Operand.tmp 47) 0, .. }) (v := .agg (TC tD)) rfl (by kernel_rfl) (by kernel_rfl) (by kernel_rfl) (fun _ _ _ h => h) (Or.inl ⟨by kernel_rfl, fun wz hz => by kernel_rfl⟩) hH2 ?_
        try simp only [Act.put, setIfInBounds_toArray, set_cons_zero, set_cons_succ]
        refine wpAnyH_take (i := 6) (oi := { dst := some 53, op := Op.extract (Operand.tmp 47) 1, .. }) (v := v) rfl (by kernel_rfl) (by kernel_rfl) (by kernel_rfl) (fun _ _ _ h => h) (Or.inl ⟨by kernel_rfl, fun wz hz => by kernel_rfl⟩) hH2 ?_
        try simp only [Act.put, setIfInBounds_toArray, set_cons_zero, set_cons_succ]
        refine wpAnyH_take (i := 7) (oi := { dst := some 54, op := Op.extract (Operand.tmp 47) 2, .. }) (v := .int .i64 0) rfl (by kernel_rfl) (by kernel_rfl) (by kernel_rfl) (fun _ _ _ h => h) (Or.inl ⟨by kernel_rfl, fun wz hz => by kernel_rfl⟩) hH2 ?_
        try simp only [Act.put, setIfInBounds_toArray, set_cons_zero, set_cons_succ]
        refine wpAnyH_ready (rs := [8]) (by kernel_rfl) (by simp) ?_
        refine AllReadyH.cons (o := { dst := some 9, op := Op.alloc 41, .. }) rfl (fun K hK => ?_) AllReadyH.nil
        go_simp
        have hn8 := newOf w502 (.cells #[.int .i64 0, .string { data := #[] }, .int .i64 0, .int .i64 0, .int .i64 0] 41)
        have X3 := Lib.hid (X2.out.next (below_box w502 (.cells #[.int .i64 0, .string { data := #[] }, .int .i64 0, .int .i64 0, .int .i64 0] 41)))
        have hge8 := X2.out.below.size
        have hfr8 := fun p hp => Nat.ne_of_lt (ltOf (X2.out.b p hp))
        refine hK.out _ _ (HL2.out _ _ X3.out) (fun hH3 => ?_)
        clear hK K
        generalize w502.alloc (.cells #[.int .i64 0, .string { data := #[] }, .int .i64 0, .int .i64 0, .int .i64 0] 41) = w503 at *
        generalize w502.heap.size = g8 at *
        try simp only [Act.put, setIfInBounds_toArray, set_cons_zero, set_cons_succ]
        refine wpAnyH_ready (rs := [9]) (by kernel_rfl) (by simp) ?_
        refine AllReadyH.cons (o := { dst := none, op := Op.store 41 (Operand.tmp 9) (Operand.tmp 52), .. }) rfl (fun K hK => ?_) AllReadyH.nil
        refine jstep_store rfl 41 (.tmp 9) (.tmp 52) rfl g8 41 #[.int .i64 0, .string { data := #[] }, .int .i64 0, .int .i64 0, .int .i64 0] (TC tD) rfl rfl hn8 jsize_st (one_TC _) rfl ?_
        intro w504 hB9 hA9
        have X4 := Lib.hid (X3.out.apart hn8 hfr8 hge8 hA9)
        refine hK.out _ _ (HL2.out _ _ X4.out) (fun hH4 => ?_)
        clear hK K
        try simp only [Act.put]
        refine wpAnyH_take (i := 10) (oi := { dst := some 10, op := Op.assign (Operand.tmp 53), .. }) (v := v) rfl (by kernel_rfl) (by kernel_rfl) (by kernel_rfl) (fun _ _ _ h => h) (Or.inl ⟨by kernel_rfl, fun wz hz => by kernel_rfl⟩) hH4 ?_
        try simp only [Act.put, setIfInBounds_toArray, set_cons_zero, set_cons_succ]
        refine wpAnyH_take (i := 11) (oi := { dst := some 11, op := Op.assign (Operand.tmp 54), .. }) (v := .int .i64 0) rfl (by kernel_rfl) (by kernel_rfl) (by kernel_rfl) (fun _ _ _ h => h) (Or.inl ⟨by kernel_rfl, fun wz hz => by kernel_rfl⟩) hH4 ?_
        try simp only [Act.put, setIfInBounds_toArray, set_cons_zero, set_cons_succ]
        refine wpAnyH_done (by kernel_rfl) ?_ _
        go_wp2_with fail
        go_meet
        case rel => exact ⟨g8, v, rfl, rfl, rfl, Lib.hid (X4.out.addB hB9)⟩
      · go_simp
        have hn8 := newOf w501 (.cells #[.int .i64 0, .string { data := #[] }, .int .i64 0, .int .i64 0, .int .i64 0] 41)
        have X5 := Lib.hid (X1.out.next (below_box w501 (.cells #[.int .i64 0, .string { data := #[] }, .int .i64 0, .int .i64 0, .int .i64 0] 41)))
        have hge8 := X1.out.below.size
        have hfr8 := fun p hp => Nat.ne_of_lt (ltOf (X1.out.b p hp))
        refine hK.out _ _ (HL.out _ X5.out) (fun hH5 => ?_)
        clear hK K
        generalize w501.alloc (.cells #[.int .i64 0, .string { data := #[] }, .int .i64 0, .int .i64 0, .int .i64 0] 41) = w505 at *
        generalize w501.heap.size = g8 at *
        try simp only [Act.put, setIfInBounds_toArray, set_cons_zero, set_cons_succ]
        refine wpAnyH_ready (rs := [3]) (by kernel_rfl) (by simp) ?_
        refine AllReadyH.cons (o := { dst := some 51, op := Op.call { callee := Callee.value (Operand.func 11), args := #[Operand.tmp 48, Operand.tmp 49, Operand.tmp 50, Operand.const (Value.int IntKind.i64 110), Operand.const (Value.int IntKind.i64 2)], argTypes := #[23, 33, 41, 3, 3] }, .. }) rfl (fun K hK => ?_) AllReadyH.nil
        go_simp
        go_at_call 11
        have HX := X5.out
        refine (tryA HX (tA) 110 2 (tD) ([]) 0 rfl rfl rfl (by decide)).mono ?_
        rintro r w506 ⟨v, rfl, hq⟩
        have X6 := Lib.hid hq.out.1
        have hn8 := (hq.out.2.block _ (ltOf hn8)).trans hn8
        refine hK.out _ _ (HL2.out _ _ X6.out) (fun hH6 => ?_)
        clear hK K HX hq
        try simp only [Act.put, setIfInBounds_toArray, set_cons_zero, set_cons_succ]
        refine wpAnyH_take (i := 4) (oi := { dst := some 47, op := Op.move (Operand.tmp 51), .. }) (v := .tuple #[.agg (TC tD), v, .int .i64 0]) rfl (by kernel_rfl) (by kernel_rfl) (by kernel_rfl) (fun _ _ _ h => h) (Or.inl ⟨by kernel_rfl, fun wz hz => by kernel_rfl⟩) hH6 ?_
        try simp only [Act.put, setIfInBounds_toArray, set_cons_zero, set_cons_succ]
        refine wpAnyH_take (i := 5) (oi := { dst := some 52, op := Op.extract (Operand.tmp 47) 0, .. }) (v := .agg (TC tD)) rfl (by kernel_rfl) (by kernel_rfl) (by kernel_rfl) (fun _ _ _ h => h) (Or.inl ⟨by kernel_rfl, fun wz hz => by kernel_rfl⟩) hH6 ?_
        try simp only [Act.put, setIfInBounds_toArray, set_cons_zero, set_cons_succ]
        refine wpAnyH_take (i := 6) (oi := { dst := some 53, op := Op.extract (Operand.tmp 47) 1, .. }) (v := v) rfl (by kernel_rfl) (by kernel_rfl) (by kernel_rfl) (fun _ _ _ h => h) (Or.inl ⟨by kernel_rfl, fun wz hz => by kernel_rfl⟩) hH6 ?_
        try simp only [Act.put, setIfInBounds_toArray, set_cons_zero, set_cons_succ]
        refine wpAnyH_take (i := 7) (oi := { dst := some 54, op := Op.extract (Operand.tmp 47) 2, .. }) (v := .int .i64 0) rfl (by kernel_rfl) (by kernel_rfl) (by kernel_rfl) (fun _ _ _ h => h) (Or.inl ⟨by kernel_rfl, fun wz hz => by kernel_rfl⟩) hH6 ?_
        try simp only [Act.put, setIfInBounds_toArray, set_cons_zero, set_cons_succ]
        refine wpAnyH_ready (rs := [9]) (by kernel_rfl) (by simp) ?_
        refine AllReadyH.cons (o := { dst := none, op := Op.store 41 (Operand.tmp 9) (Operand.tmp 52), .. }) rfl (fun K hK => ?_) AllReadyH.nil
        refine jstep_store rfl 41 (.tmp 9) (.tmp 52) rfl g8 41 #[.int .i64 0, .string { data := #[] }, .int .i64 0, .int .i64 0, .int .i64 0] (TC tD) rfl rfl hn8 jsize_st (one_TC _) rfl ?_
        intro w507 hB9 hA9
        have X7 := Lib.hid (X6.out.apart hn8 hfr8 hge8 hA9)
        refine hK.out _ _ (HL2.out _ _ X7.out) (fun hH7 => ?_)
        clear hK K
        try simp only [Act.put]
        refine wpAnyH_take (i := 10) (oi := { dst := some 10, op := Op.assign (Operand.tmp 53), .. }) (v := v) rfl (by kernel_rfl) (by kernel_rfl) (by kernel_rfl) (fun _ _ _ h => h) (Or.inl ⟨by kernel_rfl, fun wz hz => by kernel_rfl⟩) hH7 ?_
        try simp only [Act.put, setIfInBounds_toArray, set_cons_zero, set_cons_succ]
        refine wpAnyH_take (i := 11) (oi := { dst := some 11, op := Op.assign (Operand.tmp 54), .. }) (v := .int .i64 0) rfl (by kernel_rfl) (by kernel_rfl) (by kernel_rfl) (fun _ _ _ h => h) (Or.inl ⟨by kernel_rfl, fun wz hz => by kernel_rfl⟩) hH7 ?_
        try simp only [Act.put, setIfInBounds_toArray, set_cons_zero, set_cons_succ]
        refine wpAnyH_done (by kernel_rfl) ?_ _
        go_wp2_with fail
        go_meet
        case rel => exact ⟨g8, v, rfl, rfl, rfl, Lib.hid (X7.out.addB hB9)⟩
    · go_simp
      have hn8 := newOf wd (.cells #[.int .i64 0, .string { data := #[] }, .int .i64 0, .int .i64 0, .int .i64 0] 41)
      have X8 := Lib.hid (X0.out.next (below_box wd (.cells #[.int .i64 0, .string { data := #[] }, .int .i64 0, .int .i64 0, .int .i64 0] 41)))
      have hge8 := X0.out.below.size
      have hfr8 := fun p hp => Nat.ne_of_lt (ltOf (X0.out.b p hp))
      refine hK.out _ _ (HL.out _ X8.out) (fun hH8 => ?_)
      clear hK K
      generalize wd.alloc (.cells #[.int .i64 0, .string { data := #[] }, .int .i64 0, .int .i64 0, .int .i64 0] 41) = w508 at *
      generalize wd.heap.size = g8 at *
      try simp only [Act.put, setIfInBounds_toArray, set_cons_zero, set_cons_succ]
      refine wpAnyH_ready (rs := [0]) (by kernel_rfl) (by simp) ?_
      refine AllReadyH.cons (o := { dst := some 48, op := Op.call { callee := Callee.value (Operand.func 19), args := #[], argTypes := #[] }, .. }) rfl (fun K hK => ?_) AllReadyH.nil
      go_simp
      go_at_call 19
      refine (uC _).mono ?_
      rintro r w509 ⟨rfl, hb⟩
      have X9 := Lib.hid (X8.out.next hb)
      have hn8 := (hb.block _ (ltOf hn8)).trans hn8
      refine hK.out _ _ (HL.out _ X9.out) (fun hH9 => ?_)
      clear hK K hb
      try simp only [Act.put, setIfInBounds_toArray, set_cons_zero, set_cons_succ]
      refine wpAnyH_ready (rs := [3]) (by kernel_rfl) (by simp) ?_
      refine AllReadyH.cons (o := { dst := some 51, op := Op.call { callee := Callee.value (Operand.func 11), args := #[Operand.tmp 48, Operand.tmp 49, Operand.tmp 50, Operand.const (Value.int IntKind.i64 110), Operand.const (Value.int IntKind.i64 2)], argTypes := #[23, 33, 41, 3, 3] }, .. }) rfl (fun K hK => ?_) AllReadyH.nil
      go_simp
      go_at_call 11
      have HX := X9.out
      refine (tryA HX (tA) 110 2 (tD) ([]) 0 rfl rfl rfl (by decide)).mono ?_
      rintro r w510 ⟨v, rfl, hq⟩
      have X10 := Lib.hid hq.out.1
      have hn8 := (hq.out.2.block _ (ltOf hn8)).trans hn8
      refine hK.out _ _ (HL2.out _ _ X10.out) (fun hH10 => ?_)
      clear hK K HX hq
      try simp only [Act.put, setIfInBounds_toArray, set_cons_zero, set_cons_succ]
      refine wpAnyH_take (i := 4) (oi := { dst := some 47, op := Op.move (Operand.tmp 51), .. }) (v := .tuple #[.agg (TC tD), v, .int .i64 0]) rfl (by kernel_rfl) (by kernel_rfl) (by kernel_rfl) (fun _ _ _ h => h) (Or.inl ⟨by kernel_rfl, fun wz hz => by kernel_rfl⟩) hH10 ?_
      try simp only [Act.put, setIfInBounds_toArray, set_cons_zero, set_cons_succ]
      refine wpAnyH_take (i := 5) (oi := { dst := some 52, op := Op.extract (Operand.tmp 47) 0, .. }) (v := .agg (TC tD)) rfl (by kernel_rfl) (by kernel_rfl) (by kernel_rfl) (fun _ _ _ h => h) (Or.inl ⟨by kernel_rfl, fun wz hz => by kernel_rfl⟩) hH10 ?_
      try simp only [Act.put, setIfInBounds_toArray, set_cons_zero, set_cons_succ]
      refine wpAnyH_take (i := 6) (oi := { dst := some 53, op := Op.extract (Operand.tmp 47) 1, .. }) (v := v) rfl (by kernel_rfl) (by kernel_rfl) (by kernel_rfl) (fun _ _ _ h => h) (Or.inl ⟨by kernel_rfl, fun wz hz => by kernel_rfl⟩) hH10 ?_
      try simp only [Act.put, setIfInBounds_toArray, set_cons_zero, set_cons_succ]
      refine wpAnyH_take (i := 7) (oi := { dst := some 54, op := Op.extract (Operand.tmp 47) 2, .. }) (v := .int .i64 0) rfl (by kernel_rfl) (by kernel_rfl) (by kernel_rfl) (fun _ _ _ h => h) (Or.inl ⟨by kernel_rfl, fun wz hz => by kernel_rfl⟩) hH10 ?_
      try simp only [Act.put, setIfInBounds_toArray, set_cons_zero, set_cons_succ]
      refine wpAnyH_ready (rs := [9]) (by kernel_rfl) (by simp) ?_
      refine AllReadyH.cons (o := { dst := none, op := Op.store 41 (Operand.tmp 9) (Operand.tmp 52), .. }) rfl (fun K hK => ?_) AllReadyH.nil
      refine jstep_store rfl 41 (.tmp 9) (.tmp 52) rfl g8 41 #[.int .i64 0, .string { data := #[] }, .int .i64 0, .int .i64 0, .int .i64 0] (TC tD) rfl rfl hn8 jsize_st (one_TC _) rfl ?_
      intro w511 hB9 hA9
      have X11 := Lib.hid (X10.out.apart hn8 hfr8 hge8 hA9)
      refine hK.out _ _ (HL2.out _ _ X11.out) (fun hH11 => ?_)
      clear hK K
      try simp only [Act.put]
      refine wpAnyH_take (i := 10) (oi := { dst := some 10, op := Op.assign (Operand.tmp 53), .. }) (v := v) rfl (by kernel_rfl) (by kernel_rfl) (by kernel_rfl) (fun _ _ _ h => h) (Or.inl ⟨by kernel_rfl, fun wz hz => by kernel_rfl⟩) hH11 ?_
      try simp only [Act.put, setIfInBounds_toArray, set_cons_zero, set_cons_succ]
      refine wpAnyH_take (i := 11) (oi := { dst := some 11, op := Op.assign (Operand.tmp 54), .. }) (v := .int .i64 0) rfl (by kernel_rfl) (by kernel_rfl) (by kernel_rfl) (fun _ _ _ h => h) (Or.inl ⟨by kernel_rfl, fun wz hz => by kernel_rfl⟩) hH11 ?_
      try simp only [Act.put, setIfInBounds_toArray, set_cons_zero, set_cons_succ]
      refine wpAnyH_done (by kernel_rfl) ?_ _
      go_wp2_with fail
      go_meet
      case rel => exact ⟨g8, v, rfl, rfl, rfl, Lib.hid (X11.out.addB hB9)⟩
  case rest =>
  obtain ⟨gc, vc, rfl, rfl, rfl, H5⟩ := hcut
  clear H4
  go_upto_region 6 with fail
  go_cut [12, 13, 14] from 55 (fun a b c wc => ∃ g v, a = .pointer (some ⟨g, 0, none⟩) ∧ v = b ∧ c = .int .i64 9 ∧ Hid (AW w gm gr ((g, zeroT) :: ((gc, tD) :: ((gb, tC) :: ((ga, tB) :: [(gt, tA)])))) ((v, []) :: ((vc, []) :: ((vb, [kF.name]) :: ((va, []) :: [])))) wc))
  case first =>
    have HL := Lib.hid (fun w2 (h : AW w gm gr ((gc, tD) :: ((gb, tC) :: ((ga, tB) :: [(gt, tA)]))) ((vc, []) :: ((vb, [kF.name]) :: ((va, []) :: []))) w2) => show (loadVar 33 ⟨gm, 0, none⟩).run Tryz.prog w2 = .ok (.agg (EC xA (.slice (some ⟨gr, 0, none⟩) 1 1) jnil)) w2 ∧ (loadVar 41 ⟨gb, 0, none⟩).run Tryz.prog w2 = .ok (.agg (TC tC)) w2 from ⟨jl_msg h.m, jl_st (h.b (gb, tC) (by simp))⟩)
    have HL2 := Lib.hid (fun v w2 (h : AW w gm gr ((gc, tD) :: ((gb, tC) :: ((ga, tB) :: [(gt, tA)]))) ((v, []) :: ((vc, []) :: ((vb, [kF.name]) :: ((va, []) :: [])))) w2) => show (loadVar 33 ⟨gm, 0, none⟩).run Tryz.prog w2 = .ok (.agg (EC xA (.slice (some ⟨gr, 0, none⟩) 1 1) jnil)) w2 ∧ (loadVar 41 ⟨gb, 0, none⟩).run Tryz.prog w2 = .ok (.agg (TC tC)) w2 from ⟨jl_msg h.m, jl_st (h.b (gb, tC) (by simp))⟩)
    have X0 := Lib.hid (H5.out.next (Below.refl _ _).drew)
    refine wp_region_held_drew (S := fun wr => (loadVar 33 ⟨gm, 0, none⟩).run Tryz.prog wr = .ok (.agg (EC xA (.slice (some ⟨gr, 0, none⟩) 1 1) jnil)) wr ∧ (loadVar 41 ⟨gb, 0, none⟩).run Tryz.prog wr = .ok (.agg (TC tC)) wr) (by kernel_rfl) (HL.out _ X0.out) (fun hH => ?_)
    generalize wc.drew = wd at *
    refine wpAnyH_take (i := 1) (oi := { dst := some 57, op := Op.load 33 (Operand.tmp 1), .. }) (v := .agg (EC xA (.slice (some ⟨gr, 0, none⟩) 1 1) jnil)) rfl (by kernel_rfl) (by kernel_rfl) (by kernel_rfl) (fun _ _ _ h => h) (Or.inl ⟨by kernel_rfl, fun wz hz => jload_op _ ⟨rfl, rfl⟩ hz.1⟩) hH ?_
    try simp only [Act.put, setIfInBounds_toArray, set_cons_zero, set_cons_succ]
    refine wpAnyH_take (i := 2) (oi := { dst := some 58, op := Op.load 41 (Operand.tmp 6), .. }) (v := .agg (TC tC)) rfl (by kernel_rfl) (by kernel_rfl) (by kernel_rfl) (fun _ _ _ h => h) (Or.inl ⟨by kernel_rfl, fun wz hz => jload_op _ ⟨rfl, rfl⟩ hz.2⟩) hH ?_
    try simp only [Act.put, setIfInBounds_toArray, set_cons_zero, set_cons_succ]
    refine wpAnyH_ready (rs := [0, 8]) (by kernel_rfl) (by simp) ?_
    refine AllReadyH.cons (o := { dst := some 56, op := Op.call { callee := Callee.value (Operand.func 19), args := #[], argTypes := #[] }, .. }) rfl (fun K hK => ?_) (AllReadyH.cons (o := { dst := some 12, op := Op.alloc 41, .. }) rfl (fun K hK => ?_) AllReadyH.nil)
    · go_simp
      go_at_call 19
      refine (uC _).mono ?_
      rintro r w601 ⟨rfl, hb⟩
      have X1 := Lib.hid (X0.out.next hb)
      refine hK.out _ _ (HL.out _ X1.out) (fun hH1 => ?_)
      clear hK K hb
      try simp only [Act.put, setIfInBounds_toArray, set_cons_zero, set_cons_succ]
      refine wpAnyH_ready (rs := [3, 8]) (by kernel_rfl) (by simp) ?_
      refine AllReadyH.cons (o := { dst := some 59, op := Op.call { callee := Callee.value (Operand.func 12), args := #[Operand.tmp 56, Operand.tmp 57, Operand.tmp 58, Operand.const (Value.int IntKind.i64 150)], argTypes := #[23, 33, 41, 3] }, .. }) rfl (fun K hK => ?_) (AllReadyH.cons (o := { dst := some 12, op := Op.alloc 41, .. }) rfl (fun K hK => ?_) AllReadyH.nil)
      · go_simp
        go_at_call 12
        have HX := X1.out
        refine (timeA HX pU (tC) 150 (zeroT) ([]) 9 rfl rfl rfl (by decide)).mono ?_
        rintro r w602 ⟨v, rfl, hq⟩
        have X2 := Lib.hid hq.out.1
        refine hK.out _ _ (HL2.out _ _ X2.out) (fun hH2 => ?_)
        clear hK K HX hq
        try simp only [Act.put, setIfInBounds_toArray, set_cons_zero, set_cons_succ]
        refine wpAnyH_take (i := 4) (oi := { dst := some 55, op := Op.move (Operand.tmp 59), .. }) (v := .tuple #[.agg (TC zeroT), v, .int .i64 9]) rfl (by kernel_rfl) (by kernel_rfl) (by kernel_rfl) (fun _ _ _ h => h) (Or.inl ⟨by kernel_rfl, fun wz hz => by kernel_rfl⟩) hH2 ?_
        try simp only [Act.put, setIfInBounds_toArray, set_cons_zero, set_cons_succ]
        refine wpAnyH_take (i := 5) (oi := { dst := some 60, op := Op.extract (Operand.tmp 55) 0, .. }) (v := .agg (TC zeroT)) rfl (by kernel_rfl) (by kernel_rfl) (by kernel_rfl) (fun _ _ _ h => h) (Or.inl ⟨by kernel_rfl, fun wz hz => by kernel_rfl⟩) hH2 ?_
        try simp only [Act.put, setIfInBounds_toArray, set_cons_zero, set_cons_succ]
        refine wpAnyH_take (i := 6) (oi := { dst := some 61, op := Op.extract (Operand.tmp 55) 1, .. }) (v := v) rfl (by kernel_rfl) (by kernel_rfl) (by kernel_rfl) (fun _ _ _ h => h) (Or.inl ⟨by kernel_rfl, fun wz hz => by kernel_rfl⟩) hH2 ?_
        try simp only [Act.put, setIfInBounds_toArray, set_cons_zero, set_cons_succ]
        refine wpAnyH_take (i := 7) (oi := { dst := some 62, op := Op.extract (Operand.tmp 55) 2, .. }) (v := .int .i64 9) rfl (by kernel_rfl) (by kernel_rfl) (by kernel_rfl) (fun _ _ _ h => h) (Or.inl ⟨by kernel_rfl, fun wz hz => by kernel_rfl⟩) hH2 ?_
        try simp only [Act.put, setIfInBounds_toArray, set_cons_zero, set_cons_succ]
        refine wpAnyH_ready (rs := [8]) (by kernel_rfl) (by simp) ?_
        refine AllReadyH.cons (o := { dst := some 12, op := Op.alloc 41, .. }) rfl (fun K hK => ?_) AllReadyH.nil
        go_simp
        have hn8 := newOf w602 (.cells #[.int .i64 0, .string { data := #[] }, .int .i64 0, .int .i64 0, .int .i64 0] 41)
        have X3 := Lib.hid (X2.out.next (below_box w602 (.cells #[.int .i64 0, .string { data := #[] }, .int .i64 0, .int .i64 0, .int .i64 0] 41)))
        have hge8 := X2.out.below.size
        have hfr8 := fun p hp => Nat.ne_of_lt (ltOf (X2.out.b p hp))
        refine hK.out _ _ (HL2.out _ _ X3.out) (fun hH3 => ?_)
        clear hK K
        generalize w602.alloc (.cells #[.int .i64 0, .string { data := #[] }, .int .i64 0, .int .i64 0, .int .i64 0] 41) = w603 at *
        generalize w602.heap.size = g8 at *
        try simp only [Act.put, setIfInBounds_toArray, set_cons_zero, set_cons_succ]
        refine wpAnyH_ready (rs := [9]) (by kernel_rfl) (by simp) ?_
        refine AllReadyH.cons (o := { dst := none, op := Op.store 41 (Operand.tmp 12) (Operand.tmp 60), .. }) rfl (fun K hK => ?_) AllReadyH.nil
        refine jstep_store rfl 41 (.tmp 12) (.tmp 60) rfl g8 41 #[.int .i64 0, .string { data := #[] }, .int .i64 0, .int .i64 0, .int .i64 0] (TC zeroT) rfl rfl hn8 jsize_st (one_TC _) rfl ?_
        intro w604 hB9 hA9
        have X4 := Lib.hid (X3.out.apart hn8 hfr8 hge8 hA9)
        refine hK.out _ _ (HL2.out _ _ X4.out) (fun hH4 => ?_)
        clear hK K
        try simp only [Act.put]
        refine wpAnyH_take (i := 10) (oi := { dst := some 13, op := Op.assign (Operand.tmp 61), .. }) (v := v) rfl (by kernel_rfl) (by kernel_rfl) (by kernel_rfl) (fun _ _ _ h => h) (Or.inl ⟨by kernel_rfl, fun wz hz => by kernel_rfl⟩) hH4 ?_
        try simp only [Act.put, setIfInBounds_toArray, set_cons_zero, set_cons_succ]
        refine wpAnyH_take (i := 11) (oi := { dst := some 14, op := Op.assign (Operand.tmp 62), .. }) (v := .int .i64 9) rfl (by kernel_rfl) (by kernel_rfl) (by kernel_rfl) (fun _ _ _ h => h) (Or.inl ⟨by kernel_rfl, fun wz hz => by kernel_rfl⟩) hH4 ?_
        try simp only [Act.put, setIfInBounds_toArray, set_cons_zero, set_cons_succ]
        refine wpAnyH_done (by kernel_rfl) ?_ _
        go_wp2_with fail
        go_meet
        case rel => exact ⟨g8, v, rfl, rfl, rfl, Lib.hid (X4.out.addB hB9)⟩
      · go_simp
        have hn8 := newOf w601 (.cells #[.int .i64 0, .string { data := #[] }, .int .i64 0, .int .i64 0, .int .i64 0] 41)
        have X5 := Lib.hid (X1.out.next (below_box w601 (.cells #[.int .i64 0, .string { data := #[] }, .int .i64 0, .int .i64 0, .int .i64 0] 41)))
        have hge8 := X1.out.below.size
        have hfr8 := fun p hp => Nat.ne_of_lt (ltOf (X1.out.b p hp))
        refine hK.out _ _ (HL.out _ X5.out) (fun hH5 => ?_)
        clear hK K
        generalize w601.alloc (.cells #[.int .i64 0, .string { data := #[] }, .int .i64 0, .int .i64 0, .int .i64 0] 41) = w605 at *
        generalize w601.heap.size = g8 at *
        try simp only [Act.put, setIfInBounds_toArray, set_cons_zero, set_cons_succ]
        refine wpAnyH_ready (rs := [3]) (by kernel_rfl) (by simp) ?_
        refine AllReadyH.cons (o := { dst := some 59, op := Op.call { callee := Callee.value (Operand.func 12), args := #[Operand.tmp 56, Operand.tmp 57, Operand.tmp 58, Operand.const (Value.int IntKind.i64 150)], argTypes := #[23, 33, 41, 3] }, .. }) rfl (fun K hK => ?_) AllReadyH.nil
        go_simp
        go_at_call 12
        have HX := X5.out
        refine (timeA HX pU (tC) 150 (zeroT) ([]) 9 rfl rfl rfl (by decide)).mono ?_
        rintro r w606 ⟨v, rfl, hq⟩
        have X6 := Lib.hid hq.out.1
        have hn8 := (hq.out.2.block _ (ltOf hn8)).trans hn8
        refine hK.out _ _ (HL2.out _ _ X6.out) (fun hH6 => ?_)
        clear hK K HX hq
        try simp only [Act.put, setIfInBounds_toArray, set_cons_zero, set_cons_succ]
        refine wpAnyH_take (i := 4) (oi := { dst := some 55, op := Op.move (Operand.tmp 59), .. }) (v := .tuple #[.agg (TC zeroT), v, .int .i64 9]) rfl (by kernel_rfl) (by kernel_rfl) (by kernel_rfl) (fun _ _ _ h => h) (Or.inl ⟨by kernel_rfl, fun wz hz => by kernel_rfl⟩) hH6 ?_
        try simp only [Act.put, setIfInBounds_toArray, set_cons_zero, set_cons_succ]
        refine wpAnyH_take (i := 5) (oi := { dst := some 60, op := Op.extract (Operand.tmp 55) 0, .. }) (v := .agg (TC zeroT)) rfl (by kernel_rfl) (by kernel_rfl) (by kernel_rfl) (fun _ _ _ h => h) (Or.inl ⟨by kernel_rfl, fun wz hz => by kernel_rfl⟩) hH6 ?_
        try simp only [Act.put, setIfInBounds_toArray, set_cons_zero, set_cons_succ]
        refine wpAnyH_take (i := 6) (oi := { dst := some 61, op := Op.extract (Operand.tmp 55) 1, .. }) (v := v) rfl (by kernel_rfl) (by kernel_rfl) (by kernel_rfl) (fun _ _ _ h => h) (Or.inl ⟨by kernel_rfl, fun wz hz => by kernel_rfl⟩) hH6 ?_
        try simp only [Act.put, setIfInBounds_toArray, set_cons_zero, set_cons_succ]
        refine wpAnyH_take (i := 7) (oi := { dst := some 62, op := Op.extract (Operand.tmp 55) 2, .. }) (v := .int .i64 9) rfl (by kernel_rfl) (by kernel_rfl) (by kernel_rfl) (fun _ _ _ h => h) (Or.inl ⟨by kernel_rfl, fun wz hz => by kernel_rfl⟩) hH6 ?_
        try simp only [Act.put, setIfInBounds_toArray, set_cons_zero, set_cons_succ]
        refine wpAnyH_ready (rs := [9]) (by kernel_rfl) (by simp) ?_
        refine AllReadyH.cons (o := { dst := none, op := Op.store 41 (Operand.tmp 12) (Operand.tmp 60), .. }) rfl (fun K hK => ?_) AllReadyH.nil
        refine jstep_store rfl 41 (.tmp 12) (.tmp 60) rfl g8 41 #[.int .i64 0, .string { data := #[] }, .int .i64 0, .int .i64 0, .int .i64 0] (TC zeroT) rfl rfl hn8 jsize_st (one_TC _) rfl ?_
        intro w607 hB9 hA9
        have X7 := Lib.hid (X6.out.apart hn8 hfr8 hge8 hA9)
        refine hK.out _ _ (HL2.out _ _ X7.out) (fun hH7 => ?_)
        clear hK K
        try simp only [Act.put]
        refine wpAnyH_take (i := 10) (oi := { dst := some 13, op := Op.assign (Operand.tmp 61), .. }) (v := v) rfl (by kernel_rfl) (by kernel_rfl) (by kernel_rfl) (fun _ _ _ h => h) (Or.inl ⟨by kernel_rfl, fun wz hz => by kernel_rfl⟩) hH7 ?_
        try simp only [Act.put, setIfInBounds_toArray, set_cons_zero, set_cons_succ]
        refine wpAnyH_take (i := 11) (oi := { dst := some 14, op := Op.assign (Operand.tmp 62), .. }) (v := .int .i64 9) rfl (by kernel_rfl) (by kernel_rfl) (by kernel_rfl) (fun _ _ _ h => h) (Or.inl ⟨by kernel_rfl, fun wz hz => by kernel_rfl⟩) hH7 ?_
        try simp only [Act.put, setIfInBounds_toArray, set_cons_zero, set_cons_succ]
        refine wpAnyH_done (by kernel_rfl) ?_ _
        go_wp2_with fail
        go_meet
        case rel => exact ⟨g8, v, rfl, rfl, rfl, Lib.hid (X7.out.addB hB9)⟩
    · go_simp
      have hn8 := newOf wd (.cells #[.int .i64 0, .string { data := #[] }, .int .i64 0, .int .i64 0, .int .i64 0] 41)
      have X8 := Lib.hid (X0.out.next (below_box wd (.cells #[.int .i64 0, .string { data := #[] }, .int .i64 0, .int .i64 0, .int .i64 0] 41)))
      have hge8 := X0.out.below.size
      have hfr8 := fun p hp => Nat.ne_of_lt (ltOf (X0.out.b p hp))
      refine hK.out _ _ (HL.out _ X8.out) (fun hH8 => ?_)
      clear hK K
      generalize wd.alloc (.cells #[.int .i64 0, .string { data := #[] }, .int .i64 0, .int .i64 0, .int .i64 0] 41) = w608 at *
      generalize wd.heap.size = g8 at *
      try simp only [Act.put, setIfInBounds_toArray, set_cons_zero, set_cons_succ]
      refine wpAnyH_ready (rs := [0]) (by kernel_rfl) (by simp) ?_
      refine AllReadyH.cons (o := { dst := some 56, op := Op.call { callee := Callee.value (Operand.func 19), args := #[], argTypes := #[] }, .. }) rfl (fun K hK => ?_) AllReadyH.nil
      go_simp
      go_at_call 19
      refine (uC _).mono ?_
      rintro r w609 ⟨rfl, hb⟩
      have X9 := Lib.hid (X8.out.next hb)
      have hn8 := (hb.block _ (ltOf hn8)).trans hn8
      refine hK.out _ _ (HL.out _ X9.out) (fun hH9 => ?_)
      clear hK K hb
      try simp only [Act.put, setIfInBounds_toArray, set_cons_zero, set_cons_succ]
      refine wpAnyH_ready (rs := [3]) (by kernel_rfl) (by simp) ?_
      refine AllReadyH.cons (o := { dst := some 59, op := Op.call { callee := Callee.value (Operand.func 12), args := #[Operand.tmp 56, Operand.tmp 57, Operand.tmp 58, Operand.const (Value.int IntKind.i64 150)], argTypes := #[23, 33, 41, 3] }, .. }) rfl (fun K hK => ?_) AllReadyH.nil
      go_simp
      go_at_call 12
      have HX := X9.out
      refine (timeA HX pU (tC) 150 (zeroT) ([]) 9 rfl rfl rfl (by decide)).mono ?_
      rintro r w610 ⟨v, rfl, hq⟩
      have X10 := Lib.hid hq.out.1
      have hn8 := (hq.out.2.block _ (ltOf hn8)).trans hn8
      refine hK.out _ _ (HL2.out _ _ X10.out) (fun hH10 => ?_)
      clear hK K HX hq
      try simp only [Act.put, setIfInBounds_toArray, set_cons_zero, set_cons_succ]
      refine wpAnyH_take (i := 4) (oi := { dst := some 55, op := Op.move (Operand.tmp 59), .. }) (v := .tuple #[.agg (TC zeroT), v, .int .i64 9]) rfl (by kernel_rfl) (by kernel_rfl) (by kernel_rfl) (fun _ _ _ h => h) (Or.inl ⟨by kernel_rfl, fun wz hz => by kernel_rfl⟩) hH10 ?_
      try simp only [Act.put, setIfInBounds_toArray, set_cons_zero, set_cons_succ]
      refine wpAnyH_take (i := 5) (oi := { dst := some 60, op := Op.extract (Operand.tmp 55) 0, .. }) (v := .agg (TC zeroT)) rfl (by kernel_rfl) (by kernel_rfl) (by kernel_rfl) (fun _ _ _ h => h) (Or.inl ⟨by kernel_rfl, fun wz hz => by kernel_rfl⟩) hH10 ?_
      try simp only [Act.put, setIfInBounds_toArray, set_cons_zero, set_cons_succ]
      refine wpAnyH_take (i := 6) (oi := { dst := some 61, op := Op.extract (Operand.tmp 55) 1, .. }) (v := v) rfl (by kernel_rfl) (by kernel_rfl) (by kernel_rfl) (fun _ _ _ h => h) (Or.inl ⟨by kernel_rfl, fun wz hz => by kernel_rfl⟩) hH10 ?_
      try simp only [Act.put, setIfInBounds_toArray, set_cons_zero, set_cons_succ]
      refine wpAnyH_take (i := 7) (oi := { dst := some 62, op := Op.extract (Operand.tmp 55) 2, .. }) (v := .int .i64 9) rfl (by kernel_rfl) (by kernel_rfl) (by kernel_rfl) (fun _ _ _ h => h) (Or.inl ⟨by kernel_rfl, fun wz hz => by kernel_rfl⟩) hH10 ?_
      try simp only [Act.put, setIfInBounds_toArray, set_cons_zero, set_cons_succ]
      refine wpAnyH_ready (rs := [9]) (by kernel_rfl) (by simp) ?_
      refine AllReadyH.cons (o := { dst := none, op := Op.store 41 (Operand.tmp 12) (Operand.tmp 60), .. }) rfl (fun K hK => ?_) AllReadyH.nil
      refine jstep_store rfl 41 (.tmp 12) (.tmp 60) rfl g8 41 #[.int .i64 0, .string { data := #[] }, .int .i64 0, .int .i64 0, .int .i64 0] (TC zeroT) rfl rfl hn8 jsize_st (one_TC _) rfl ?_
      intro w611 hB9 hA9
      have X11 := Lib.hid (X10.out.apart hn8 hfr8 hge8 hA9)
      refine hK.out _ _ (HL2.out _ _ X11.out) (fun hH11 => ?_)
      clear hK K
      try simp only [Act.put]
      refine wpAnyH_take (i := 10) (oi := { dst := some 13, op := Op.assign (Operand.tmp 61), .. }) (v := v) rfl (by kernel_rfl) (by kernel_rfl) (by kernel_rfl) (fun _ _ _ h => h) (Or.inl ⟨by kernel_rfl, fun wz hz => by kernel_rfl⟩) hH11 ?_
      try simp only [Act.put, setIfInBounds_toArray, set_cons_zero, set_cons_succ]
      refine wpAnyH_take (i := 11) (oi := { dst := some 14, op := Op.assign (Operand.tmp 62), .. }) (v := .int .i64 9) rfl (by kernel_rfl) (by kernel_rfl) (by kernel_rfl) (fun _ _ _ h => h) (Or.inl ⟨by kernel_rfl, fun wz hz => by kernel_rfl⟩) hH11 ?_
      try simp only [Act.put, setIfInBounds_toArray, set_cons_zero, set_cons_succ]
      refine wpAnyH_done (by kernel_rfl) ?_ _
      go_wp2_with fail
      go_meet
      case rel => exact ⟨g8, v, rfl, rfl, rfl, Lib.hid (X11.out.addB hB9)⟩
  case rest =>
  obtain ⟨gd, vd, rfl, rfl, rfl, H6⟩ := hcut
  clear H5
  go_upto_region 7 with fail
  go_cut [15, 16, 17] from 63 (fun a b c wc => ∃ g v, a = .pointer (some ⟨g, 0, none⟩) ∧ v = b ∧ c = .int .i64 10 ∧ Hid (AW w gm gr ((g, zeroT) :: ((gd, zeroT) :: ((gc, tD) :: ((gb, tC) :: ((ga, tB) :: [(gt, tA)]))))) ((v, []) :: ((vd, []) :: ((vc, []) :: ((vb, [kF.name]) :: ((va, []) :: []))))) wc))
  case first =>
    have HL := Lib.hid (fun w2 (h : AW w gm gr ((gd, zeroT) :: ((gc, tD) :: ((gb, tC) :: ((ga, tB) :: [(gt, tA)])))) ((vd, []) :: ((vc, []) :: ((vb, [kF.name]) :: ((va, []) :: [])))) w2) => show (loadVar 33 ⟨gm, 0, none⟩).run Tryz.prog w2 = .ok (.agg (EC xA (.slice (some ⟨gr, 0, none⟩) 1 1) jnil)) w2 ∧ (loadVar 41 ⟨gt, 0, none⟩).run Tryz.prog w2 = .ok (.agg (TC tA)) w2 from ⟨jl_msg h.m, jl_st (h.b (gt, tA) (by simp))⟩)
    have HL2 := Lib.hid (fun v w2 (h : AW w gm gr ((gd, zeroT) :: ((gc, tD) :: ((gb, tC) :: ((ga, tB) :: [(gt, tA)])))) ((v, []) :: ((vd, []) :: ((vc, []) :: ((vb, [kF.name]) :: ((va, []) :: []))))) w2) => show (loadVar 33 ⟨gm, 0, none⟩).run Tryz.prog w2 = .ok (.agg (EC xA (.slice (some ⟨gr, 0, none⟩) 1 1) jnil)) w2 ∧ (loadVar 41 ⟨gt, 0, none⟩).run Tryz.prog w2 = .ok (.agg (TC tA)) w2 from ⟨jl_msg h.m, jl_st (h.b (gt, tA) (by simp))⟩)
    have X0 := Lib.hid (H6.out.next (Below.refl _ _).drew)
    refine wp_region_held_drew (S := fun wr => (loadVar 33 ⟨gm, 0, none⟩).run Tryz.prog wr = .ok (.agg (EC xA (.slice (some ⟨gr, 0, none⟩) 1 1) jnil)) wr ∧ (loadVar 41 ⟨gt, 0, none⟩).run Tryz.prog wr = .ok (.agg (TC tA)) wr) (by kernel_rfl) (HL.out _ X0.out) (fun hH => ?_)
    generalize wc.drew = wd at *
    refine wpAnyH_take (i := 1) (oi := { dst := some 65, op := Op.load 33 (Operand.tmp 1), .. }) (v := .agg (EC xA (.slice (some ⟨gr, 0, none⟩) 1 1) jnil)) rfl (by kernel_rfl) (by kernel_rfl) (by kernel_rfl) (fun _ _ _ h => h) (Or.inl ⟨by kernel_rfl, fun wz hz => jload_op _ ⟨rfl, rfl⟩ hz.1⟩) hH ?_
    try simp only [Act.put, setIfInBounds_toArray, set_cons_zero, set_cons_succ]
    refine wpAnyH_take (i := 2) (oi := { dst := some 66, op := Op.load 41 (Operand.tmp 2), .. }) (v := .agg (TC tA)) rfl (by kernel_rfl) (by kernel_rfl) (by kernel_rfl) (fun _ _ _ h => h) (Or.inl ⟨by kernel_rfl, fun wz hz => jload_op _ ⟨rfl, rfl⟩ hz.2⟩) hH ?_
    try simp only [Act.put, setIfInBounds_toArray, set_cons_zero, set_cons_succ]
    refine wpAnyH_ready (rs := [0, 8]) (by kernel_rfl) (by simp) ?_
    refine AllReadyH.cons (o := { dst := some 64, op := Op.call { callee := Callee.value (Operand.func 19), args := #[], argTypes := #[] }, .. }) rfl (fun K hK => ?_) (AllReadyH.cons (o := { dst := some 15, op := Op.alloc 41, .. }) rfl (fun K hK => ?_) AllReadyH.nil)
    · go_simp
      go_at_call 19
      refine (uC _).mono ?_
      rintro r w701 ⟨rfl, hb⟩
      have X1 := Lib.hid (X0.out.next hb)
      refine hK.out _ _ (HL.out _ X1.out) (fun hH1 => ?_)
      clear hK K hb
      try simp only [Act.put, setIfInBounds_toArray, set_cons_zero, set_cons_succ]
      refine wpAnyH_ready (rs := [3, 8]) (by kernel_rfl) (by simp) ?_
      refine AllReadyH.cons (o := { dst := some 67, op := Op.call { callee := Callee.value (Operand.func 11), args := #[Operand.tmp 64, Operand.tmp 65, Operand.tmp 66, Operand.const (Value.int IntKind.i64 110), Operand.const (Value.int IntKind.i64 1)], argTypes := #[23, 33, 41, 3, 3] }, .. }) rfl (fun K hK => ?_) (AllReadyH.cons (o := { dst := some 15, op := Op.alloc 41, .. }) rfl (fun K hK => ?_) AllReadyH.nil)
      · go_simp
        go_at_call 11
        have HX := X1.out
        refine (tryA HX (tA) 110 1 (zeroT) ([]) 10 rfl rfl rfl (by decide)).mono ?_
        rintro r w702 ⟨v, rfl, hq⟩
        have X2 := Lib.hid hq.out.1
        refine hK.out _ _ (HL2.out _ _ X2.out) (fun hH2 => ?_)
        clear hK K HX hq
        try simp only [Act.put, setIfInBounds_toArray, set_cons_zero, set_cons_succ]
        refine wpAnyH_take (i := 4) (oi := { dst := some 63, op := Op.move (Operand.tmp 67), .. }) (v := .tuple #[.agg (TC zeroT), v, .int .i64 10]) rfl (by kernel_rfl) (by kernel_rfl) (by kernel_rfl) (fun _ _ _ h => h) (Or.inl ⟨by kernel_rfl, fun wz hz => by kernel_rfl⟩) hH2 ?_
        try simp only [Act.put, setIfInBounds_toArray, set_cons_zero, set_cons_succ]
        refine wpAnyH_take (i := 5) (oi := { dst := some 68, op := Op.extract (Operand.tmp 63) 0, .. }) (v := .agg (TC zeroT)) rfl (by kernel_rfl) (by kernel_rfl) (by kernel_rfl) (fun _ _ _ h => h) (Or.inl ⟨by kernel_rfl, fun wz hz => by kernel_rfl⟩) hH2 ?_
        try simp only [Act.put, setIfInBounds_toArray, set_cons_zero, set_cons_succ]
        refine wpAnyH_take (i := 6) (oi := { dst := some 69, op := Op.extract (Operand.tmp 63) 1, .. }) (v := v) rfl (by kernel_rfl) (by kernel_rfl) (by kernel_rfl) (fun _ _ _ h => h) (Or.inl ⟨by kernel_rfl, fun wz hz => by kernel_rfl⟩) hH2 ?_
        try simp only [Act.put, setIfInBounds_toArray, set_cons_zero, set_cons_succ]
        refine wpAnyH_take (i := 7) (oi := { dst := some 70, op := Op.extract (Operand.tmp 63) 2, .. }) (v := .int .i64 10) rfl (by kernel_rfl) (by kernel_rfl) (by kernel_rfl) (fun _ _ _ h => h) (Or.inl ⟨by kernel_rfl, fun wz hz => by kernel_rfl⟩) hH2 ?_
        try simp only [Act.put, setIfInBounds_toArray, set_cons_zero, set_cons_succ]
        refine wpAnyH_ready (rs := [8]) (by kernel_rfl) (by simp) ?_
        refine AllReadyH.cons (o := { dst := some 15, op := Op.alloc 41, .. }) rfl (fun K hK => ?_) AllReadyH.nil
        go_simp
        have hn8 := newOf w702 (.cells #[.int .i64 0, .string { data := #[] }, .int .i64 0, .int .i64 0, .int .i64 0] 41)
        have X3 := Lib.hid (X2.out.next (below_box w702 (.cells #[.int .i64 0, .string { data := #[] }, .int .i64 0, .int .i64 0, .int .i64 0] 41)))
        have hge8 := X2.out.below.size
        have hfr8 := fun p hp => Nat.ne_of_lt (ltOf (X2.out.b p hp))
        refine hK.out _ _ (HL2.out _ _ X3.out) (fun hH3 => ?_)
        clear hK K
        generalize w702.alloc (.cells #[.int .i64 0, .string { data := #[] }, .int .i64 0, .int .i64 0, .int .i64 0] 41) = w703 at *
        generalize w702.heap.size = g8 at *
        try simp only [Act.put, setIfInBounds_toArray, set_cons_zero, set_cons_succ]
        refine wpAnyH_ready (rs := [9]) (by kernel_rfl) (by simp) ?_
        refine AllReadyH.cons (o := { dst := none, op := Op.store 41 (Operand.tmp 15) (Operand.tmp 68), .. }) rfl (fun K hK => ?_) AllReadyH.nil
        refine jstep_store rfl 41 (.tmp 15) (.tmp 68) rfl g8 41 #[.int .i64 0, .string { data := #[] }, .int .i64 0, .int .i64 0, .int .i64 0] (TC zeroT) rfl rfl hn8 jsize_st (one_TC _) rfl ?_
        intro w704 hB9 hA9
        have X4 := Lib.hid (X3.out.apart hn8 hfr8 hge8 hA9)
        refine hK.out _ _ (HL2.out _ _ X4.out) (fun hH4 => ?_)
        clear hK K
        try simp only [Act.put]
        refine wpAnyH_take (i := 10) (oi := { dst := some 16, op := Op.assign (Operand.tmp 69), .. }) (v := v) rfl (by kernel_rfl) (by kernel_rfl) (by kernel_rfl) (fun _ _ _ h => h) (Or.inl ⟨by kernel_rfl, fun wz hz => by kernel_rfl⟩) hH4 ?_
        try simp only [Act.put, setIfInBounds_toArray, set_cons_zero, set_cons_succ]
        refine wpAnyH_take (i := 11) (oi := { dst := some 17, op := Op.assign (Operand.tmp 70), .. }) (v := .int .i64 10) rfl (by kernel_rfl) (by kernel_rfl) (by kernel_rfl) (fun _ _ _ h => h) (Or.inl ⟨by kernel_rfl, fun wz hz => by kernel_rfl⟩) hH4 ?_
        try simp only [Act.put, setIfInBounds_toArray, set_cons_zero, set_cons_succ]
        refine wpAnyH_done (by kernel_rfl) ?_ _
        go_wp2_with fail
        go_meet
        case rel => exact ⟨g8, v, rfl, rfl, rfl, Lib.hid (X4.out.addB hB9)⟩
      · go_simp
        have hn8 := newOf w701 (.cells #[.int .i64 0, .string { data := #[] }, .int .i64 0, .int .i64 0, .int .i64 0] 41)
        have X5 := Lib.hid (X1.out.next (below_box w701 (.cells #[.int .i64 0, .string { data := #[] }, .int .i64 0, .int .i64 0, .int .i64 0] 41)))
        have hge8 := X1.out.below.size
        have hfr8 := fun p hp => Nat.ne_of_lt (ltOf (X1.out.b p hp))
        refine hK.out _ _ (HL.out _ X5.out) (fun hH5 => ?_)
        clear hK K
        generalize w701.alloc (.cells #[.int .i64 0, .string { data := #[] }, .int .i64 0, .int .i64 0, .int .i64 0] 41) = w705 at *
        generalize w701.heap.size = g8 at *
        try simp only [Act.put, setIfInBounds_toArray, set_cons_zero, set_cons_succ]
        refine wpAnyH_ready (rs := [3]) (by kernel_rfl) (by simp) ?_
        refine AllReadyH.cons (o := { dst := some 67, op := Op.call { callee := Callee.value (Operand.func 11), args := #[Operand.tmp 64, Operand.tmp 65, Operand.tmp 66, Operand.const (Value.int IntKind.i64 110), Operand.const (Value.int IntKind.i64 1)], argTypes := #[23, 33, 41, 3, 3] }, .. }) rfl (fun K hK => ?_) AllReadyH.nil
        go_simp
        go_at_call 11
        have HX := X5.out
        refine (tryA HX (tA) 110 1 (zeroT) ([]) 10 rfl rfl rfl (by decide)).mono ?_
        rintro r w706 ⟨v, rfl, hq⟩
        have X6 := Lib.hid hq.out.1
        have hn8 := (hq.out.2.block _ (ltOf hn8)).trans hn8
        refine hK.out _ _ (HL2.out _ _ X6.out) (fun hH6 => ?_)
        clear hK K HX hq
        try simp only [Act.put, setIfInBounds_toArray, set_cons_zero, set_cons_succ]
        refine wpAnyH_take (i := 4) (oi := { dst := some 63, op := Op.move (Operand.tmp 67), .. }) (v := .tuple #[.agg (TC zeroT), v, .int .i64 10]) rfl (by kernel_rfl) (by kernel_rfl) (by kernel_rfl) (fun _ _ _ h => h) (Or.inl ⟨by kernel_rfl, fun wz hz => by kernel_rfl⟩) hH6 ?_
        try simp only [Act.put, setIfInBounds_toArray, set_cons_zero, set_cons_succ]
        refine wpAnyH_take (i := 5) (oi := { dst := some 68, op := Op.extract (Operand.tmp 63) 0, .. }) (v := .agg (TC zeroT)) rfl (by kernel_rfl) (by kernel_rfl) (by kernel_rfl) (fun _ _ _ h => h) (Or.inl ⟨by kernel_rfl, fun wz hz => by kernel_rfl⟩) hH6 ?_
        try simp only [Act.put, setIfInBounds_toArray, set_cons_zero, set_cons_succ]
        refine wpAnyH_take (i := 6) (oi := { dst := some 69, op := Op.extract (Operand.tmp 63) 1, .. }) (v := v) rfl (by kernel_rfl) (by kernel_rfl) (by kernel_rfl) (fun _ _ _ h => h) (Or.inl ⟨by kernel_rfl, fun wz hz => by kernel_rfl⟩) hH6 ?_
        try simp only [Act.put, setIfInBounds_toArray, set_cons_zero, set_cons_succ]
        refine wpAnyH_take (i := 7) (oi := { dst := some 70, op := Op.extract (Operand.tmp 63) 2, .. }) (v := .int .i64 10) rfl (by kernel_rfl) (by kernel_rfl) (by kernel_rfl) (fun _ _ _ h => h) (Or.inl ⟨by kernel_rfl, fun wz hz => by kernel_rfl⟩) hH6 ?_
        try simp only [Act.put, setIfInBounds_toArray, set_cons_zero, set_cons_succ]
        refine wpAnyH_ready (rs := [9]) (by kernel_rfl) (by simp) ?_
        refine AllReadyH.cons (o := { dst := none, op := Op.store 41 (Operand.tmp 15) (Operand.tmp 68), .. }) rfl (fun K hK => ?_) AllReadyH.nil
        refine jstep_store rfl 41 (.tmp 15) (.tmp 68) rfl g8 41 #[.int .i64 0, .string { data := #[] }, .int .i64 0, .int .i64 0, .int .i64 0] (TC zeroT) rfl rfl hn8 jsize_st (one_TC _) rfl ?_
        intro w707 hB9 hA9
        have X7 := Lib.hid (X6.out.apart hn8 hfr8 hge8 hA9)
        refine hK.out _ _ (HL2.out _ _ X7.out) (fun hH7 => ?_)
        clear hK K
        try simp only [Act.put]
        refine wpAnyH_take (i := 10) (oi := { dst := some 16, op := Op.assign (Operand.tmp 69), .. }) (v := v) rfl (by kernel_rfl) (by kernel_rfl) (by kernel_rfl) (fun _ _ _ h => h) (Or.inl ⟨by kernel_rfl, fun wz hz => by kernel_rfl⟩) hH7 ?_
        try simp only [Act.put, setIfInBounds_toArray, set_cons_zero, set_cons_succ]
        refine wpAnyH_take (i := 11) (oi := { dst := some 17, op := Op.assign (Operand.tmp 70), .. }) (v := .int .i64 10) rfl (by kernel_rfl) (by kernel_rfl) (by kernel_rfl) (fun _ _ _ h => h) (Or.inl ⟨by kernel_rfl, fun wz hz => by kernel_rfl⟩) hH7 ?_
        try simp only [Act.put, setIfInBounds_toArray, set_cons_zero, set_cons_succ]
        refine wpAnyH_done (by kernel_rfl) ?_ _
        go_wp2_with fail
        go_meet
        case rel => exact ⟨g8, v, rfl, rfl, rfl, Lib.hid (X7.out.addB hB9)⟩
    · go_simp
      have hn8 := newOf wd (.cells #[.int .i64 0, .string { data := #[] }, .int .i64 0, .int .i64 0, .int .i64 0] 41)
      have X8 := Lib.hid (X0.out.next (below_box wd (.cells #[.int .i64 0, .string { data := #[] }, .int .i64 0, .int .i64 0, .int .i64 0] 41)))
      have hge8 := X0.out.below.size
      have hfr8 := fun p hp => Nat.ne_of_lt (ltOf (X0.out.b p hp))
      refine hK.out _ _ (HL.out _ X8.out) (fun hH8 => ?_)
      clear hK K
      generalize wd.alloc (.cells #[.int .i64 0, .string { data := #[] }, .int .i64 0, .int .i64 0, .int .i64 0] 41) = w708 at *
      generalize wd.heap.size = g8 at *
      try simp only [Act.put, setIfInBounds_toArray, set_cons_zero, set_cons_succ]
      refine wpAnyH_ready (rs := [0]) (by kernel_rfl) (by simp) ?_
      refine AllReadyH.cons (o := { dst := some 64, op := Op.call { callee := Callee.value (Operand.func 19), args := #[], argTypes := #[] }, .. }) rfl (fun K hK => ?_) AllReadyH.nil
      go_simp
      go_at_call 19
      refine (uC _).mono ?_
      rintro r w709 ⟨rfl, hb⟩
      have X9 := Lib.hid (X8.out.next hb)
      have hn8 := (hb.block _ (ltOf hn8)).trans hn8
      refine hK.out _ _ (HL.out _ X9.out) (fun hH9 => ?_)
      clear hK K hb
      try simp only [Act.put, setIfInBounds_toArray, set_cons_zero, set_cons_succ]
      refine wpAnyH_ready (rs := [3]) (by kernel_rfl) (by simp) ?_
      refine AllReadyH.cons (o := { dst := some 67, op := Op.call { callee := Callee.value (Operand.func 11), args := #[Operand.tmp 64, Operand.tmp 65, Operand.tmp 66, Operand.const (Value.int IntKind.i64 110), Operand.const (Value.int IntKind.i64 1)], argTypes := #[23, 33, 41, 3, 3] }, .. }) rfl (fun K hK => ?_) AllReadyH.nil
      go_simp
      go_at_call 11
      have HX := X9.out
      refine (tryA HX (tA) 110 1 (zeroT) ([]) 10 rfl rfl rfl (by decide)).mono ?_
      rintro r w710 ⟨v, rfl, hq⟩
      have X10 := Lib.hid hq.out.1
      have hn8 := (hq.out.2.block _ (ltOf hn8)).trans hn8
      refine hK.out _ _ (HL2.out _ _ X10.out) (fun hH10 => ?_)
      clear hK K HX hq
      try simp only [Act.put, setIfInBounds_toArray, set_cons_zero, set_cons_succ]
      refine wpAnyH_take (i := 4) (oi := { dst := some 63, op := Op.move (Operand.tmp 67), .. }) (v := .tuple #[.agg (TC zeroT), v, .int .i64 10]) rfl (by kernel_rfl) (by kernel_rfl) (by kernel_rfl) (fun _ _ _ h => h) (Or.inl ⟨by kernel_rfl, fun wz hz => by kernel_rfl⟩) hH10 ?_
      try simp only [Act.put, setIfInBounds_toArray, set_cons_zero, set_cons_succ]
      refine wpAnyH_take (i := 5) (oi := { dst := some 68, op := Op.extract (Operand.tmp 63) 0, .. }) (v := .agg (TC zeroT)) rfl (by kernel_rfl) (by kernel_rfl) (by kernel_rfl) (fun _ _ _ h => h) (Or.inl ⟨by kernel_rfl, fun wz hz => by kernel_rfl⟩) hH10 ?_
      try simp only [Act.put, setIfInBounds_toArray, set_cons_zero, set_cons_succ]
      refine wpAnyH_take (i := 6) (oi := { dst := some 69, op := Op.extract (Operand.tmp 63) 1, .. }) (v := v) rfl (by kernel_rfl) (by kernel_rfl) (by kernel_rfl) (fun _ _ _ h => h) (Or.inl ⟨by kernel_rfl, fun wz hz => by kernel_rfl⟩) hH10 ?_
      try simp only [Act.put, setIfInBounds_toArray, set_cons_zero, set_cons_succ]
      refine wpAnyH_take (i := 7) (oi := { dst := some 70, op := Op.extract (Operand.tmp 63) 2, .. }) (v := .int .i64 10) rfl (by kernel_rfl) (by kernel_rfl) (by kernel_rfl) (fun _ _ _ h => h) (Or.inl ⟨by kernel_rfl, fun wz hz => by kernel_rfl⟩) hH10 ?_
      try simp only [Act.put, setIfInBounds_toArray, set_cons_zero, set_cons_succ]
      refine wpAnyH_ready (rs := [9]) (by kernel_rfl) (by simp) ?_
      refine AllReadyH.cons (o := { dst := none, op := Op.store 41 (Operand.tmp 15) (Operand.tmp 68), .. }) rfl (fun K hK => ?_) AllReadyH.nil
      refine jstep_store rfl 41 (.tmp 15) (.tmp 68) rfl g8 41 #[.int .i64 0, .string { data := #[] }, .int .i64 0, .int .i64 0, .int .i64 0] (TC zeroT) rfl rfl hn8 jsize_st (one_TC _) rfl ?_
      intro w711 hB9 hA9
      have X11 := Lib.hid (X10.out.apart hn8 hfr8 hge8 hA9)
      refine hK.out _ _ (HL2.out _ _ X11.out) (fun hH11 => ?_)
      clear hK K
      try simp only [Act.put]
      refine wpAnyH_take (i := 10) (oi := { dst := some 16, op := Op.assign (Operand.tmp 69), .. }) (v := v) rfl (by kernel_rfl) (by kernel_rfl) (by kernel_rfl) (fun _ _ _ h => h) (Or.inl ⟨by kernel_rfl, fun wz hz => by kernel_rfl⟩) hH11 ?_
      try simp only [Act.put, setIfInBounds_toArray, set_cons_zero, set_cons_succ]
      refine wpAnyH_take (i := 11) (oi := { dst := some 17, op := Op.assign (Operand.tmp 70), .. }) (v := .int .i64 10) rfl (by kernel_rfl) (by kernel_rfl) (by kernel_rfl) (fun _ _ _ h => h) (Or.inl ⟨by kernel_rfl, fun wz hz => by kernel_rfl⟩) hH11 ?_
      try simp only [Act.put, setIfInBounds_toArray, set_cons_zero, set_cons_succ]
      refine wpAnyH_done (by kernel_rfl) ?_ _
      go_wp2_with fail
      go_meet
      case rel => exact ⟨g8, v, rfl, rfl, rfl, Lib.hid (X11.out.addB hB9)⟩
  case rest =>
  obtain ⟨ge, ve, rfl, rfl, rfl, H7⟩ := hcut
  clear H6
  obtain ⟨A3, C3, hv3⟩ : ∃ A c, va = .slice A 0 c := strs_slice (H7.out.q (va, []) (by simp))
  obtain ⟨A5, C5, hv5⟩ : ∃ A c, vc = .slice A 0 c := strs_slice (H7.out.q (vc, []) (by simp))
  subst hv3 hv5
  go_wp2_with (first | ((with_reducible refine jis_load (ty := 33) (x := .tmp 1) rfl ?_); refine jload ?_ 33 (.tmp 1) rfl gm 0 33 (EC xA (.slice (some ⟨gr, 0, none⟩) 1 1) jnil) (EC xA (.slice (some ⟨gr, 0, none⟩) 1 1) jnil) _ rfl H7.out.m Tryz.underlying33 rfl size_msg (fun j _ => by rw [Nat.zero_add]) ?_; (focus (first | rfl | (go_simp; done)))) | ((with_reducible refine jis_load (ty := 41) (x := .tmp 2) rfl ?_); refine jload ?_ 41 (.tmp 2) rfl gt 0 41 (TC tA) (TC tA) _ rfl (H7.out.b (gt, tA) (by simp)) Tryz.underlying41 rfl jsize_st (fun j _ => by rw [Nat.zero_add]) ?_; (focus (first | rfl | (go_simp; done)))))
  have HX := H7.out
  refine (timeA HX pZ tA 110 zeroT [] 1 rfl rfl rfl (by decide)).mono ?_
  rintro r w8 ⟨v8, rfl, hq⟩
  have H8 := Lib.hid hq.out.1
  clear hq HX H7
  go_wp2_with (first | (refine wpList_store_blk rfl 41 (.tmp 18) (.tmp 76) rfl w8.heap.size 0 41 (TC zeroT) (TC zeroT) (TC zeroT) rfl rfl (newOf w8 _) jsize_st (one_TC _) (Nat.le_of_eq rfl) (whole_TC _ _ rfl) ?_; intro w9 hB9 hA9; have H9 := Lib.hid ((H8.out.next (below_box w8 (.cells (TC zeroT) 41))).apart (newOf w8 _) (fun p hp => Nat.ne_of_lt (ltOf (H8.out.b p hp))) H8.out.below.size hA9); clear hB9 hA9 H8) | ((with_reducible refine jis_load (ty := 33) (x := .tmp 1) rfl ?_); refine jload ?_ 33 (.tmp 1) rfl gm 0 33 (EC xA (.slice (some ⟨gr, 0, none⟩) 1 1) jnil) (EC xA (.slice (some ⟨gr, 0, none⟩) 1 1) jnil) _ rfl H9.out.m Tryz.underlying33 rfl size_msg (fun j _ => by rw [Nat.zero_add]) ?_; (focus (first | rfl | (go_simp; done)))))
  refine (dlA _ _).mono ?_
  rintro r w10 ⟨rfl, hb⟩
  have H10 := Lib.hid (H9.out.next hb)
  clear hb H9
  go_upto_region 10 with fail
  have HS := Lib.hid (fun wr (h : AW w gm gr ((ge, zeroT) :: ((gd, zeroT) :: ((gc, tD) :: ((gb, tC) :: ((ga, tB) :: [(gt, tA)]))))) ((v8, []) :: ((ve, []) :: ((vd, []) :: ((.slice A5 0 C5, []) :: ((vb, [kF.name]) :: ((.slice A3 0 C3, []) :: [])))))) wr) => show (loadVar 33 ⟨gm, 0, none⟩).run Tryz.prog wr = .ok (.agg (EC xA (.slice (some ⟨gr, 0, none⟩) 1 1) jnil)) wr ∧ (loadVar 41 ⟨ga, 0, none⟩).run Tryz.prog wr = .ok (.agg #[.int .i64 0, .string { data := #[82] }, .int .i64 1, .int .i64 120, .int .i64 0]) wr ∧ wr.cell? ⟨gb, 1, none⟩ = some (.string { data := #[70] }) ∧ wr.cell? ⟨gb, 4, none⟩ = some (.int .i64 2) ∧ wr.cell? ⟨gc, 1, none⟩ = some (.string { data := #[68] }) from ⟨jl_msg h.m, jl_st (h.b (ga, tB) (by simp)), cellOf (h.b (gb, tC) (by simp)) 1, cellOf (h.b (gb, tC) (by simp)) 4, cellOf (h.b (gc, tD) (by simp)) 1⟩)
  have G0 := Lib.hid (H10.out.next (Below.refl _ _).drew)
  clear H10
  refine wp_region_held_drew (S := fun wr => (loadVar 33 ⟨gm, 0, none⟩).run Tryz.prog wr = .ok (.agg (EC xA (.slice (some ⟨gr, 0, none⟩) 1 1) jnil)) wr ∧ (loadVar 41 ⟨ga, 0, none⟩).run Tryz.prog wr = .ok (.agg #[.int .i64 0, .string { data := #[82] }, .int .i64 1, .int .i64 120, .int .i64 0]) wr ∧ wr.cell? ⟨gb, 1, none⟩ = some (.string { data := #[70] }) ∧ wr.cell? ⟨gb, 4, none⟩ = some (.int .i64 2) ∧ wr.cell? ⟨gc, 1, none⟩ = some (.string { data := #[68] })) (by kernel_rfl) (HS.out _ G0.out) (fun hH => ?_)
  generalize w10.drew = wd at *
  refine wpAnyH_take (i := 0) (v := .int .i64 0) rfl (by as_aux_lemma => kernel_rfl) (by as_aux_lemma => kernel_rfl) (by as_aux_lemma => kernel_rfl) (fun _ _ _ h => h) (Or.inl ⟨by kernel_rfl, fun wz hz => by kernel_rfl⟩) hH ?_
  try simp only [Act.put, setIfInBounds_toArray, set_cons_zero, set_cons_succ]
  refine wpAnyH_take (i := 1) (v := .bool true) rfl (by as_aux_lemma => kernel_rfl) (by as_aux_lemma => kernel_rfl) (by as_aux_lemma => kernel_rfl) (fun _ _ _ h => h) (Or.inl ⟨by kernel_rfl, fun wz hz => by kernel_rfl⟩) hH ?_
  try simp only [Act.put, setIfInBounds_toArray, set_cons_zero, set_cons_succ]
  refine wpAnyH_take (i := 2) (v := .bool true) rfl (by as_aux_lemma => kernel_rfl) (by as_aux_lemma => kernel_rfl) (by as_aux_lemma => kernel_rfl) (fun _ _ _ h => h) (Or.inl ⟨by kernel_rfl, fun wz hz => by kernel_rfl⟩) hH ?_
  try simp only [Act.put, setIfInBounds_toArray, set_cons_zero, set_cons_succ]
  refine wpAnyH_take (i := 3) (v := .agg #[.int .i64 0, .string { data := #[82] }, .int .i64 1, .int .i64 120, .int .i64 0]) rfl (by as_aux_lemma => kernel_rfl) (by as_aux_lemma => kernel_rfl) (by as_aux_lemma => kernel_rfl) (fun _ _ _ h => h) (Or.inl ⟨by kernel_rfl, fun wz hz => jload_op _ ⟨rfl, rfl⟩ hz.2.1⟩) hH ?_
  try simp only [Act.put, setIfInBounds_toArray, set_cons_zero, set_cons_succ]
  refine wpAnyH_take (i := 4) (v := .agg #[.int .i64 0, .string { data := #[82] }, .int .i64 1, .int .i64 120, .int .i64 0]) rfl (by as_aux_lemma => kernel_rfl) (by as_aux_lemma => kernel_rfl) (by as_aux_lemma => kernel_rfl) (fun _ _ _ h => h) (Or.inl ⟨by kernel_rfl, fun wz hz => by kernel_rfl⟩) hH ?_
  try simp only [Act.put, setIfInBounds_toArray, set_cons_zero, set_cons_succ]
  refine wpAnyH_take (i := 5) (v := .bool true) rfl (by as_aux_lemma => kernel_rfl) (by as_aux_lemma => kernel_rfl) (by as_aux_lemma => kernel_rfl) (fun _ _ _ h => h) (Or.inl ⟨by kernel_rfl, fun wz hz => by have h1 := eqB wz; go_simp⟩) hH ?_
  try simp only [Act.put, setIfInBounds_toArray, set_cons_zero, set_cons_succ]
  refine wpAnyH_take (i := 6) (v := .bool true) rfl (by as_aux_lemma => kernel_rfl) (by as_aux_lemma => kernel_rfl) (by as_aux_lemma => kernel_rfl) (fun _ _ _ h => h) (Or.inl ⟨by kernel_rfl, fun wz hz => by kernel_rfl⟩) hH ?_
  try simp only [Act.put, setIfInBounds_toArray, set_cons_zero, set_cons_succ]
  refine wpAnyH_take (i := 7) (v := .bool true) rfl (by as_aux_lemma => kernel_rfl) (by as_aux_lemma => kernel_rfl) (by as_aux_lemma => kernel_rfl) (fun _ _ _ h => h) (Or.inl ⟨by kernel_rfl, fun wz hz => by kernel_rfl⟩) hH ?_
  try simp only [Act.put, setIfInBounds_toArray, set_cons_zero, set_cons_succ]
  refine wpAnyH_take (i := 8) (v := .slice A3 0 C3) rfl (by as_aux_lemma => kernel_rfl) (by as_aux_lemma => kernel_rfl) (by as_aux_lemma => kernel_rfl) (fun _ _ _ h => h) (Or.inl ⟨by kernel_rfl, fun wz hz => by kernel_rfl⟩) hH ?_
  try simp only [Act.put, setIfInBounds_toArray, set_cons_zero, set_cons_succ]
  refine wpAnyH_take (i := 9) (v := .int .i64 0) rfl (by as_aux_lemma => kernel_rfl) (by as_aux_lemma => kernel_rfl) (by as_aux_lemma => kernel_rfl) (fun _ _ _ h => h) (Or.inl ⟨by kernel_rfl, fun wz hz => by kernel_rfl⟩) hH ?_
  try simp only [Act.put, setIfInBounds_toArray, set_cons_zero, set_cons_succ]
  refine wpAnyH_take (i := 10) (v := .bool true) rfl (by as_aux_lemma => kernel_rfl) (by as_aux_lemma => kernel_rfl) (by as_aux_lemma => kernel_rfl) (fun _ _ _ h => h) (Or.inl ⟨by kernel_rfl, fun wz hz => by kernel_rfl⟩) hH ?_
  try simp only [Act.put, setIfInBounds_toArray, set_cons_zero, set_cons_succ]
  refine wpAnyH_take (i := 11) (v := .bool true) rfl (by as_aux_lemma => kernel_rfl) (by as_aux_lemma => kernel_rfl) (by as_aux_lemma => kernel_rfl) (fun _ _ _ h => h) (Or.inl ⟨by kernel_rfl, fun wz hz => by kernel_rfl⟩) hH ?_
  try simp only [Act.put, setIfInBounds_toArray, set_cons_zero, set_cons_succ]
  refine wpAnyH_take (i := 12) (v := .bool true) rfl (by as_aux_lemma => kernel_rfl) (by as_aux_lemma => kernel_rfl) (by as_aux_lemma => kernel_rfl) (fun _ _ _ h => h) (Or.inl ⟨by kernel_rfl, fun wz hz => by kernel_rfl⟩) hH ?_
  try simp only [Act.put, setIfInBounds_toArray, set_cons_zero, set_cons_succ]
  refine wpAnyH_take (i := 13) (v := .int .i64 0) rfl (by as_aux_lemma => kernel_rfl) (by as_aux_lemma => kernel_rfl) (by as_aux_lemma => kernel_rfl) (fun _ _ _ h => h) (Or.inl ⟨by kernel_rfl, fun wz hz => by kernel_rfl⟩) hH ?_
  try simp only [Act.put, setIfInBounds_toArray, set_cons_zero, set_cons_succ]
  refine wpAnyH_take (i := 14) (v := .bool true) rfl (by as_aux_lemma => kernel_rfl) (by as_aux_lemma => kernel_rfl) (by as_aux_lemma => kernel_rfl) (fun _ _ _ h => h) (Or.inl ⟨by kernel_rfl, fun wz hz => by kernel_rfl⟩) hH ?_
  try simp only [Act.put, setIfInBounds_toArray, set_cons_zero, set_cons_succ]
  refine wpAnyH_take (i := 15) (v := .bool true) rfl (by as_aux_lemma => kernel_rfl) (by as_aux_lemma => kernel_rfl) (by as_aux_lemma => kernel_rfl) (fun _ _ _ h => h) (Or.inl ⟨by kernel_rfl, fun wz hz => by kernel_rfl⟩) hH ?_
  try simp only [Act.put, setIfInBounds_toArray, set_cons_zero, set_cons_succ]
  refine wpAnyH_take (i := 16) (v := .bool true) rfl (by as_aux_lemma => kernel_rfl) (by as_aux_lemma => kernel_rfl) (by as_aux_lemma => kernel_rfl) (fun _ _ _ h => h) (Or.inl ⟨by kernel_rfl, fun wz hz => by kernel_rfl⟩) hH ?_
  try simp only [Act.put, setIfInBounds_toArray, set_cons_zero, set_cons_succ]
  refine wpAnyH_take (i := 17) (v := .pointer (some ⟨gb, 1, none⟩)) rfl (by as_aux_lemma => kernel_rfl) (by as_aux_lemma => kernel_rfl) (by as_aux_lemma => kernel_rfl) (fun _ _ _ h => h) (Or.inl ⟨by kernel_rfl, fun wz hz => by kernel_rfl⟩) hH ?_
  try simp only [Act.put, setIfInBounds_toArray, set_cons_zero, set_cons_succ]
  refine wpAnyH_take (i := 18) (v := .string { data := #[70] }) rfl (by as_aux_lemma => kernel_rfl) (by as_aux_lemma => kernel_rfl) (by as_aux_lemma => kernel_rfl) (fun _ _ _ h => h) (Or.inl ⟨by kernel_rfl, fun wz hz => by have h1 := hz.2.2.1; go_simp⟩) hH ?_
  try simp only [Act.put, setIfInBounds_toArray, set_cons_zero, set_cons_succ]
  refine wpAnyH_take (i := 19) (v := .bool true) rfl (by as_aux_lemma => kernel_rfl) (by as_aux_lemma => kernel_rfl) (by as_aux_lemma => kernel_rfl) (fun _ _ _ h => h) (Or.inl ⟨by kernel_rfl, fun wz hz => by kernel_rfl⟩) hH ?_
  try simp only [Act.put, setIfInBounds_toArray, set_cons_zero, set_cons_succ]
  refine wpAnyH_take (i := 20) (v := .bool true) rfl (by as_aux_lemma => kernel_rfl) (by as_aux_lemma => kernel_rfl) (by as_aux_lemma => kernel_rfl) (fun _ _ _ h => h) (Or.inl ⟨by kernel_rfl, fun wz hz => by kernel_rfl⟩) hH ?_
  try simp only [Act.put, setIfInBounds_toArray, set_cons_zero, set_cons_succ]
  refine wpAnyH_take (i := 21) (v := .bool true) rfl (by as_aux_lemma => kernel_rfl) (by as_aux_lemma => kernel_rfl) (by as_aux_lemma => kernel_rfl) (fun _ _ _ h => h) (Or.inl ⟨by kernel_rfl, fun wz hz => by kernel_rfl⟩) hH ?_
  try simp only [Act.put, setIfInBounds_toArray, set_cons_zero, set_cons_succ]
  refine wpAnyH_take (i := 22) (v := .pointer (some ⟨gb, 4, none⟩)) rfl (by as_aux_lemma => kernel_rfl) (by as_aux_lemma => kernel_rfl) (by as_aux_lemma => kernel_rfl) (fun _ _ _ h => h) (Or.inl ⟨by kernel_rfl, fun wz hz => by kernel_rfl⟩) hH ?_
  try simp only [Act.put, setIfInBounds_toArray, set_cons_zero, set_cons_succ]
  refine wpAnyH_take (i := 23) (v := .int .i64 2) rfl (by as_aux_lemma => kernel_rfl) (by as_aux_lemma => kernel_rfl) (by as_aux_lemma => kernel_rfl) (fun _ _ _ h => h) (Or.inl ⟨by kernel_rfl, fun wz hz => by have h1 := hz.2.2.2.1; go_simp⟩) hH ?_
  try simp only [Act.put, setIfInBounds_toArray, set_cons_zero, set_cons_succ]
  refine wpAnyH_take (i := 24) (v := .bool true) rfl (by as_aux_lemma => kernel_rfl) (by as_aux_lemma => kernel_rfl) (by as_aux_lemma => kernel_rfl) (fun _ _ _ h => h) (Or.inl ⟨by kernel_rfl, fun wz hz => by kernel_rfl⟩) hH ?_
  try simp only [Act.put, setIfInBounds_toArray, set_cons_zero, set_cons_succ]
  refine wpAnyH_take (i := 25) (v := .bool true) rfl (by as_aux_lemma => kernel_rfl) (by as_aux_lemma => kernel_rfl) (by as_aux_lemma => kernel_rfl) (fun _ _ _ h => h) (Or.inl ⟨by kernel_rfl, fun wz hz => by kernel_rfl⟩) hH ?_
  try simp only [Act.put, setIfInBounds_toArray, set_cons_zero, set_cons_succ]
  refine wpAnyH_take (i := 26) (v := .bool true) rfl (by as_aux_lemma => kernel_rfl) (by as_aux_lemma => kernel_rfl) (by as_aux_lemma => kernel_rfl) (fun _ _ _ h => h) (Or.inl ⟨by kernel_rfl, fun wz hz => by kernel_rfl⟩) hH ?_
  try simp only [Act.put, setIfInBounds_toArray, set_cons_zero, set_cons_succ]
  refine wpAnyH_take (i := 27) (v := vb) rfl (by as_aux_lemma => kernel_rfl) (by as_aux_lemma => kernel_rfl) (by as_aux_lemma => kernel_rfl) (fun _ _ _ h => h) (Or.inl ⟨by kernel_rfl, fun wz hz => by kernel_rfl⟩) hH ?_
  try simp only [Act.put, setIfInBounds_toArray, set_cons_zero, set_cons_succ]
  refine wpAnyH_ready (rs := [28]) (by as_aux_lemma => kernel_rfl) (by simp) ?_
  refine AllReadyH.cons rfl (fun K hK => ?_) AllReadyH.nil
  go_simp
  have GT := Lib.hid (txt1 wd kF.name)
  have GN := Lib.hid (G0.out.next (below_box wd (.cells #[.string { data := #[102, 97, 105, 108, 101, 100] }] 9)))
  refine hK.out _ _ (HS.out _ GN.out) (fun hHn => ?_)
  clear hK K hH
  have hH := hHn
  clear hHn
  try simp only [Act.put, setIfInBounds_toArray, set_cons_zero, set_cons_succ]
  rw [show Obj.cells #[.string (mkS kF.name)] 9 = (.cells #[.string { data := #[102, 97, 105, 108, 101, 100] }] 9) from rfl] at GT
  generalize wd.alloc (.cells #[.string { data := #[102, 97, 105, 108, 101, 100] }] 9) = wb at *
  generalize wd.heap.size = gq at *
  refine wpAnyH_ready (rs := [29]) (by as_aux_lemma => kernel_rfl) (by simp) ?_
  refine AllReadyH.cons rfl (fun K hK => ?_) AllReadyH.nil
  go_simp
  go_at_call 20
  refine (same_x vb (.slice (some ⟨gq, 0, none⟩) 1 1) [kF.name] [kF.name] wb (own_txts (GN.out.q (vb, [kF.name]) (by simp))) GT.out (by decide)).mono ?_
  rintro r wr1 ⟨rfl, m, rfl⟩
  have G1 := Lib.hid (GN.out.next (below_drewN (Below.refl _ _) m))
  refine hK.out _ _ (HS.out _ G1.out) (fun hHn => ?_)
  clear hK K hH
  generalize wb.drewN m = wr1 at *
  have hH := hHn
  clear hHn
  try simp only [Act.put, setIfInBounds_toArray, set_cons_zero, set_cons_succ]
  refine wpAnyH_take (i := 30) (v := .bool true) rfl (by as_aux_lemma => kernel_rfl) (by as_aux_lemma => kernel_rfl) (by as_aux_lemma => kernel_rfl) (fun _ _ _ h => h) (Or.inl ⟨by kernel_rfl, fun wz hz => by kernel_rfl⟩) hH ?_
  try simp only [Act.put, setIfInBounds_toArray, set_cons_zero, set_cons_succ]
  refine wpAnyH_take (i := 31) (v := .bool true) rfl (by as_aux_lemma => kernel_rfl) (by as_aux_lemma => kernel_rfl) (by as_aux_lemma => kernel_rfl) (fun _ _ _ h => h) (Or.inl ⟨by kernel_rfl, fun wz hz => by kernel_rfl⟩) hH ?_
  try simp only [Act.put, setIfInBounds_toArray, set_cons_zero, set_cons_succ]
  refine wpAnyH_take (i := 32) (v := .int .i64 0) rfl (by as_aux_lemma => kernel_rfl) (by as_aux_lemma => kernel_rfl) (by as_aux_lemma => kernel_rfl) (fun _ _ _ h => h) (Or.inl ⟨by kernel_rfl, fun wz hz => by kernel_rfl⟩) hH ?_
  try simp only [Act.put, setIfInBounds_toArray, set_cons_zero, set_cons_succ]
  refine wpAnyH_take (i := 33) (v := .bool true) rfl (by as_aux_lemma => kernel_rfl) (by as_aux_lemma => kernel_rfl) (by as_aux_lemma => kernel_rfl) (fun _ _ _ h => h) (Or.inl ⟨by kernel_rfl, fun wz hz => by kernel_rfl⟩) hH ?_
  try simp only [Act.put, setIfInBounds_toArray, set_cons_zero, set_cons_succ]
  refine wpAnyH_take (i := 34) (v := .bool true) rfl (by as_aux_lemma => kernel_rfl) (by as_aux_lemma => kernel_rfl) (by as_aux_lemma => kernel_rfl) (fun _ _ _ h => h) (Or.inl ⟨by kernel_rfl, fun wz hz => by kernel_rfl⟩) hH ?_
  try simp only [Act.put, setIfInBounds_toArray, set_cons_zero, set_cons_succ]
  refine wpAnyH_take (i := 35) (v := .bool true) rfl (by as_aux_lemma => kernel_rfl) (by as_aux_lemma => kernel_rfl) (by as_aux_lemma => kernel_rfl) (fun _ _ _ h => h) (Or.inl ⟨by kernel_rfl, fun wz hz => by kernel_rfl⟩) hH ?_
  try simp only [Act.put, setIfInBounds_toArray, set_cons_zero, set_cons_succ]
  refine wpAnyH_take (i := 36) (v := .pointer (some ⟨gc, 1, none⟩)) rfl (by as_aux_lemma => kernel_rfl) (by as_aux_lemma => kernel_rfl) (by as_aux_lemma => kernel_rfl) (fun _ _ _ h => h) (Or.inl ⟨by kernel_rfl, fun wz hz => by kernel_rfl⟩) hH ?_
  try simp only [Act.put, setIfInBounds_toArray, set_cons_zero, set_cons_succ]
  refine wpAnyH_take (i := 37) (v := .string { data := #[68] }) rfl (by as_aux_lemma => kernel_rfl) (by as_aux_lemma => kernel_rfl) (by as_aux_lemma => kernel_rfl) (fun _ _ _ h => h) (Or.inl ⟨by kernel_rfl, fun wz hz => by have h1 := hz.2.2.2.2; go_simp⟩) hH ?_
  try simp only [Act.put, setIfInBounds_toArray, set_cons_zero, set_cons_succ]
  refine wpAnyH_take (i := 38) (v := .bool true) rfl (by as_aux_lemma => kernel_rfl) (by as_aux_lemma => kernel_rfl) (by as_aux_lemma => kernel_rfl) (fun _ _ _ h => h) (Or.inl ⟨by kernel_rfl, fun wz hz => by kernel_rfl⟩) hH ?_
  try simp only [Act.put, setIfInBounds_toArray, set_cons_zero, set_cons_succ]
  refine wpAnyH_take (i := 39) (v := .bool true) rfl (by as_aux_lemma => kernel_rfl) (by as_aux_lemma => kernel_rfl) (by as_aux_lemma => kernel_rfl) (fun _ _ _ h => h) (Or.inl ⟨by kernel_rfl, fun wz hz => by kernel_rfl⟩) hH ?_
  try simp only [Act.put, setIfInBounds_toArray, set_cons_zero, set_cons_succ]
  refine wpAnyH_take (i := 40) (v := .bool true) rfl (by as_aux_lemma => kernel_rfl) (by as_aux_lemma => kernel_rfl) (by as_aux_lemma => kernel_rfl) (fun _ _ _ h => h) (Or.inl ⟨by kernel_rfl, fun wz hz => by kernel_rfl⟩) hH ?_
  try simp only [Act.put, setIfInBounds_toArray, set_cons_zero, set_cons_succ]
  refine wpAnyH_take (i := 41) (v := .slice A5 0 C5) rfl (by as_aux_lemma => kernel_rfl) (by as_aux_lemma => kernel_rfl) (by as_aux_lemma => kernel_rfl) (fun _ _ _ h => h) (Or.inl ⟨by kernel_rfl, fun wz hz => by kernel_rfl⟩) hH ?_
  try simp only [Act.put, setIfInBounds_toArray, set_cons_zero, set_cons_succ]
  refine wpAnyH_take (i := 42) (v := .int .i64 0) rfl (by as_aux_lemma => kernel_rfl) (by as_aux_lemma => kernel_rfl) (by as_aux_lemma => kernel_rfl) (fun _ _ _ h => h) (Or.inl ⟨by kernel_rfl, fun wz hz => by kernel_rfl⟩) hH ?_
  try simp only [Act.put, setIfInBounds_toArray, set_cons_zero, set_cons_succ]
  refine wpAnyH_take (i := 43) (v := .bool true) rfl (by as_aux_lemma => kernel_rfl) (by as_aux_lemma => kernel_rfl) (by as_aux_lemma => kernel_rfl) (fun _ _ _ h => h) (Or.inl ⟨by kernel_rfl, fun wz hz => by kernel_rfl⟩) hH ?_
  try simp only [Act.put, setIfInBounds_toArray, set_cons_zero, set_cons_succ]
  refine wpAnyH_take (i := 44) (v := .bool true) rfl (by as_aux_lemma => kernel_rfl) (by as_aux_lemma => kernel_rfl) (by as_aux_lemma => kernel_rfl) (fun _ _ _ h => h) (Or.inl ⟨by kernel_rfl, fun wz hz => by kernel_rfl⟩) hH ?_
  try simp only [Act.put, setIfInBounds_toArray, set_cons_zero, set_cons_succ]
  refine wpAnyH_take (i := 45) (v := .bool true) rfl (by as_aux_lemma => kernel_rfl) (by as_aux_lemma => kernel_rfl) (by as_aux_lemma => kernel_rfl) (fun _ _ _ h => h) (Or.inl ⟨by kernel_rfl, fun wz hz => by kernel_rfl⟩) hH ?_
  try simp only [Act.put, setIfInBounds_toArray, set_cons_zero, set_cons_succ]
  refine wpAnyH_take (i := 46) (v := .int .i64 9) rfl (by as_aux_lemma => kernel_rfl) (by as_aux_lemma => kernel_rfl) (by as_aux_lemma => kernel_rfl) (fun _ _ _ h => h) (Or.inl ⟨by kernel_rfl, fun wz hz => by kernel_rfl⟩) hH ?_
  try simp only [Act.put, setIfInBounds_toArray, set_cons_zero, set_cons_succ]
  refine wpAnyH_take (i := 47) (v := .bool true) rfl (by as_aux_lemma => kernel_rfl) (by as_aux_lemma => kernel_rfl) (by as_aux_lemma => kernel_rfl) (fun _ _ _ h => h) (Or.inl ⟨by kernel_rfl, fun wz hz => by kernel_rfl⟩) hH ?_
  try simp only [Act.put, setIfInBounds_toArray, set_cons_zero, set_cons_succ]
  refine wpAnyH_take (i := 48) (v := .bool true) rfl (by as_aux_lemma => kernel_rfl) (by as_aux_lemma => kernel_rfl) (by as_aux_lemma => kernel_rfl) (fun _ _ _ h => h) (Or.inl ⟨by kernel_rfl, fun wz hz => by kernel_rfl⟩) hH ?_
  try simp only [Act.put, setIfInBounds_toArray, set_cons_zero, set_cons_succ]
  refine wpAnyH_take (i := 49) (v := .bool true) rfl (by as_aux_lemma => kernel_rfl) (by as_aux_lemma => kernel_rfl) (by as_aux_lemma => kernel_rfl) (fun _ _ _ h => h) (Or.inl ⟨by kernel_rfl, fun wz hz => by kernel_rfl⟩) hH ?_
  try simp only [Act.put, setIfInBounds_toArray, set_cons_zero, set_cons_succ]
  refine wpAnyH_take (i := 50) (v := .int .i64 10) rfl (by as_aux_lemma => kernel_rfl) (by as_aux_lemma => kernel_rfl) (by as_aux_lemma => kernel_rfl) (fun _ _ _ h => h) (Or.inl ⟨by kernel_rfl, fun wz hz => by kernel_rfl⟩) hH ?_
  try simp only [Act.put, setIfInBounds_toArray, set_cons_zero, set_cons_succ]
  refine wpAnyH_take (i := 51) (v := .bool true) rfl (by as_aux_lemma => kernel_rfl) (by as_aux_lemma => kernel_rfl) (by as_aux_lemma => kernel_rfl) (fun _ _ _ h => h) (Or.inl ⟨by kernel_rfl, fun wz hz => by kernel_rfl⟩) hH ?_
  try simp only [Act.put, setIfInBounds_toArray, set_cons_zero, set_cons_succ]
  refine wpAnyH_take (i := 52) (v := .bool true) rfl (by as_aux_lemma => kernel_rfl) (by as_aux_lemma => kernel_rfl) (by as_aux_lemma => kernel_rfl) (fun _ _ _ h => h) (Or.inl ⟨by kernel_rfl, fun wz hz => by kernel_rfl⟩) hH ?_
  try simp only [Act.put, setIfInBounds_toArray, set_cons_zero, set_cons_succ]
  refine wpAnyH_take (i := 53) (v := .bool true) rfl (by as_aux_lemma => kernel_rfl) (by as_aux_lemma => kernel_rfl) (by as_aux_lemma => kernel_rfl) (fun _ _ _ h => h) (Or.inl ⟨by kernel_rfl, fun wz hz => by kernel_rfl⟩) hH ?_
  try simp only [Act.put, setIfInBounds_toArray, set_cons_zero, set_cons_succ]
  refine wpAnyH_take (i := 54) (v := .int .i64 1) rfl (by as_aux_lemma => kernel_rfl) (by as_aux_lemma => kernel_rfl) (by as_aux_lemma => kernel_rfl) (fun _ _ _ h => h) (Or.inl ⟨by kernel_rfl, fun wz hz => by kernel_rfl⟩) hH ?_
  try simp only [Act.put, setIfInBounds_toArray, set_cons_zero, set_cons_succ]
  refine wpAnyH_take (i := 55) (v := .bool true) rfl (by as_aux_lemma => kernel_rfl) (by as_aux_lemma => kernel_rfl) (by as_aux_lemma => kernel_rfl) (fun _ _ _ h => h) (Or.inl ⟨by kernel_rfl, fun wz hz => by kernel_rfl⟩) hH ?_
  try simp only [Act.put, setIfInBounds_toArray, set_cons_zero, set_cons_succ]
  refine wpAnyH_take (i := 56) (v := .bool true) rfl (by as_aux_lemma => kernel_rfl) (by as_aux_lemma => kernel_rfl) (by as_aux_lemma => kernel_rfl) (fun _ _ _ h => h) (Or.inl ⟨by kernel_rfl, fun wz hz => by kernel_rfl⟩) hH ?_
  try simp only [Act.put, setIfInBounds_toArray, set_cons_zero, set_cons_succ]
  refine wpAnyH_take (i := 57) (v := .bool true) rfl (by as_aux_lemma => kernel_rfl) (by as_aux_lemma => kernel_rfl) (by as_aux_lemma => kernel_rfl) (fun _ _ _ h => h) (Or.inl ⟨by kernel_rfl, fun wz hz => by kernel_rfl⟩) hH ?_
  try simp only [Act.put, setIfInBounds_toArray, set_cons_zero, set_cons_succ]
  refine wpAnyH_take (i := 58) (v := .int .i64 150) rfl (by as_aux_lemma => kernel_rfl) (by as_aux_lemma => kernel_rfl) (by as_aux_lemma => kernel_rfl) (fun _ _ _ h => h) (Or.inl ⟨by kernel_rfl, fun wz hz => by kernel_rfl⟩) hH ?_
  try simp only [Act.put, setIfInBounds_toArray, set_cons_zero, set_cons_succ]
  refine wpAnyH_take (i := 59) (v := .bool true) rfl (by as_aux_lemma => kernel_rfl) (by as_aux_lemma => kernel_rfl) (by as_aux_lemma => kernel_rfl) (fun _ _ _ h => h) (Or.inl ⟨by kernel_rfl, fun wz hz => by kernel_rfl⟩) hH ?_
  try simp only [Act.put, setIfInBounds_toArray, set_cons_zero, set_cons_succ]
  refine wpAnyH_take (i := 60) (v := .bool true) rfl (by as_aux_lemma => kernel_rfl) (by as_aux_lemma => kernel_rfl) (by as_aux_lemma => kernel_rfl) (fun _ _ _ h => h) (Or.inl ⟨by kernel_rfl, fun wz hz => by kernel_rfl⟩) hH ?_
  try simp only [Act.put, setIfInBounds_toArray, set_cons_zero, set_cons_succ]
  refine wpAnyH_take (i := 61) (v := .bool true) rfl (by as_aux_lemma => kernel_rfl) (by as_aux_lemma => kernel_rfl) (by as_aux_lemma => kernel_rfl) (fun _ _ _ h => h) (Or.inl ⟨by kernel_rfl, fun wz hz => by kernel_rfl⟩) hH ?_
  try simp only [Act.put, setIfInBounds_toArray, set_cons_zero, set_cons_succ]
  refine wpAnyH_take (i := 62) (v := .bool true) rfl (by as_aux_lemma => kernel_rfl) (by as_aux_lemma => kernel_rfl) (by as_aux_lemma => kernel_rfl) (fun _ _ _ h => h) (Or.inl ⟨by kernel_rfl, fun wz hz => by kernel_rfl⟩) hH ?_
  try simp only [Act.put, setIfInBounds_toArray, set_cons_zero, set_cons_succ]
  refine wpAnyH_take (i := 63) (v := .bool true) rfl (by as_aux_lemma => kernel_rfl) (by as_aux_lemma => kernel_rfl) (by as_aux_lemma => kernel_rfl) (fun _ _ _ h => h) (Or.inl ⟨by kernel_rfl, fun wz hz => by kernel_rfl⟩) hH ?_
  try simp only [Act.put, setIfInBounds_toArray, set_cons_zero, set_cons_succ]
  refine wpAnyH_take (i := 64) (v := .bool true) rfl (by as_aux_lemma => kernel_rfl) (by as_aux_lemma => kernel_rfl) (by as_aux_lemma => kernel_rfl) (fun _ _ _ h => h) (Or.inl ⟨by kernel_rfl, fun wz hz => by kernel_rfl⟩) hH ?_
  try simp only [Act.put, setIfInBounds_toArray, set_cons_zero, set_cons_succ]
  refine wpAnyH_ready (rs := [65]) (by as_aux_lemma => kernel_rfl) (by simp) ?_
  refine AllReadyH.cons rfl (fun K hK => ?_) AllReadyH.nil
  go_simp
  go_at_call 19
  refine (uC _).mono ?_
  rintro r wr2 ⟨rfl, hb⟩
  have G2 := Lib.hid (G1.out.next hb)
  refine hK.out _ _ (HS.out _ G2.out) (fun hHn => ?_)
  clear hK K hH
  have hH := hHn
  clear hHn
  try simp only [Act.put, setIfInBounds_toArray, set_cons_zero, set_cons_succ]
  refine wpAnyH_ready (rs := [66]) (by as_aux_lemma => kernel_rfl) (by simp) ?_
  refine AllReadyH.cons rfl (fun K hK => ?_) AllReadyH.nil
  go_simp
  go_at_call 18
  refine (waA _).mono ?_
  rintro r wr3 ⟨rfl, hb⟩
  have G3 := Lib.hid (G2.out.next hb)
  refine hK.out _ _ (HS.out _ G3.out) (fun hHn => ?_)
  clear hK K hH
  have hH := hHn
  clear hHn
  try simp only [Act.put, setIfInBounds_toArray, set_cons_zero, set_cons_succ]
  refine wpAnyH_take (i := 67) (v := .bool true) rfl (by as_aux_lemma => kernel_rfl) (by as_aux_lemma => kernel_rfl) (by as_aux_lemma => kernel_rfl) (fun _ _ _ h => h) (Or.inl ⟨by kernel_rfl, fun wz hz => by kernel_rfl⟩) hH ?_
  try simp only [Act.put, setIfInBounds_toArray, set_cons_zero, set_cons_succ]
  refine wpAnyH_take (i := 68) (v := .bool true) rfl (by as_aux_lemma => kernel_rfl) (by as_aux_lemma => kernel_rfl) (by as_aux_lemma => kernel_rfl) (fun _ _ _ h => h) (Or.inl ⟨by kernel_rfl, fun wz hz => by kernel_rfl⟩) hH ?_
  try simp only [Act.put, setIfInBounds_toArray, set_cons_zero, set_cons_succ]
  refine wpAnyH_take (i := 69) (v := .bool true) rfl (by as_aux_lemma => kernel_rfl) (by as_aux_lemma => kernel_rfl) (by as_aux_lemma => kernel_rfl) (fun _ _ _ h => h) (Or.inl ⟨by kernel_rfl, fun wz hz => by kernel_rfl⟩) hH ?_
  try simp only [Act.put, setIfInBounds_toArray, set_cons_zero, set_cons_succ]
  refine wpAnyH_take (i := 71) (v := .agg (EC xA (.slice (some ⟨gr, 0, none⟩) 1 1) jnil)) rfl (by as_aux_lemma => kernel_rfl) (by as_aux_lemma => kernel_rfl) (by as_aux_lemma => kernel_rfl) (fun _ _ _ h => h) (Or.inl ⟨by kernel_rfl, fun wz hz => jload_op _ ⟨rfl, rfl⟩ hz.1⟩) hH ?_
  try simp only [Act.put, setIfInBounds_toArray, set_cons_zero, set_cons_succ]
  refine wpAnyH_ready (rs := [70]) (by as_aux_lemma => kernel_rfl) (by simp) ?_
  refine AllReadyH.cons rfl (fun K hK => ?_) AllReadyH.nil
  go_simp
  go_at_call 19
  refine (uC _).mono ?_
  rintro r wr4 ⟨rfl, hb⟩
  have G4 := Lib.hid (G3.out.next hb)
  refine hK.out _ _ (HS.out _ G4.out) (fun hHn => ?_)
  clear hK K hH
  have hH := hHn
  clear hHn
  try simp only [Act.put, setIfInBounds_toArray, set_cons_zero, set_cons_succ]
  refine wpAnyH_ready (rs := [72]) (by as_aux_lemma => kernel_rfl) (by simp) ?_
  refine AllReadyH.cons rfl (fun K hK => ?_) AllReadyH.nil
  go_simp
  go_at_call 14
  refine (exA _ _).mono ?_
  rintro r wr5 ⟨rfl, hb⟩
  have G5 := Lib.hid (G4.out.next hb)
  refine hK.out _ _ (HS.out _ G5.out) (fun hHn => ?_)
  clear hK K hH
  have hH := hHn
  clear hHn
  try simp only [Act.put, setIfInBounds_toArray, set_cons_zero, set_cons_succ]
  refine wpAnyH_take (i := 73) (v := .bool true) rfl (by as_aux_lemma => kernel_rfl) (by as_aux_lemma => kernel_rfl) (by as_aux_lemma => kernel_rfl) (fun _ _ _ h => h) (Or.inl ⟨by kernel_rfl, fun wz hz => by kernel_rfl⟩) hH ?_
  try simp only [Act.put, setIfInBounds_toArray, set_cons_zero, set_cons_succ]
  refine wpAnyH_take (i := 74) (v := .bool true) rfl (by as_aux_lemma => kernel_rfl) (by as_aux_lemma => kernel_rfl) (by as_aux_lemma => kernel_rfl) (fun _ _ _ h => h) (Or.inl ⟨by kernel_rfl, fun wz hz => by kernel_rfl⟩) hH ?_
  try simp only [Act.put, setIfInBounds_toArray, set_cons_zero, set_cons_succ]
  refine wpAnyH_take (i := 75) (v := .bool true) rfl (by as_aux_lemma => kernel_rfl) (by as_aux_lemma => kernel_rfl) (by as_aux_lemma => kernel_rfl) (fun _ _ _ h => h) (Or.inl ⟨by kernel_rfl, fun wz hz => by kernel_rfl⟩) hH ?_
  try simp only [Act.put, setIfInBounds_toArray, set_cons_zero, set_cons_succ]
  refine wpAnyH_take (i := 77) (v := .agg (EC xA (.slice (some ⟨gr, 0, none⟩) 1 1) jnil)) rfl (by as_aux_lemma => kernel_rfl) (by as_aux_lemma => kernel_rfl) (by as_aux_lemma => kernel_rfl) (fun _ _ _ h => h) (Or.inl ⟨by kernel_rfl, fun wz hz => jload_op _ ⟨rfl, rfl⟩ hz.1⟩) hH ?_
  try simp only [Act.put, setIfInBounds_toArray, set_cons_zero, set_cons_succ]
  refine wpAnyH_take (i := 78) (v := .agg #[.int .i64 0, .string { data := #[82] }, .int .i64 1, .int .i64 120, .int .i64 0]) rfl (by as_aux_lemma => kernel_rfl) (by as_aux_lemma => kernel_rfl) (by as_aux_lemma => kernel_rfl) (fun _ _ _ h => h) (Or.inl ⟨by kernel_rfl, fun wz hz => jload_op _ ⟨rfl, rfl⟩ hz.2.1⟩) hH ?_
  try simp only [Act.put, setIfInBounds_toArray, set_cons_zero, set_cons_succ]
  refine wpAnyH_ready (rs := [76]) (by as_aux_lemma => kernel_rfl) (by simp) ?_
  refine AllReadyH.cons rfl (fun K hK => ?_) AllReadyH.nil
  go_simp
  go_at_call 19
  refine (uC _).mono ?_
  rintro r wr6 ⟨rfl, hb⟩
  have G6 := Lib.hid (G5.out.next hb)
  refine hK.out _ _ (HS.out _ G6.out) (fun hHn => ?_)
  clear hK K hH
  have hH := hHn
  clear hHn
  try simp only [Act.put, setIfInBounds_toArray, set_cons_zero, set_cons_succ]
  refine wpAnyH_ready (rs := [79]) (by as_aux_lemma => kernel_rfl) (by simp) ?_
  refine AllReadyH.cons rfl (fun K hK => ?_) AllReadyH.nil
  go_simp
  go_at_call 16
  refine (alA _ _).mono ?_
  rintro r wr7 ⟨rfl, hb⟩
  have G7 := Lib.hid (G6.out.next hb)
  refine hK.out _ _ (HS.out _ G7.out) (fun hHn => ?_)
  clear hK K hH
  have hH := hHn
  clear hHn
  try simp only [Act.put, setIfInBounds_toArray, set_cons_zero, set_cons_succ]
  refine wpAnyH_take (i := 80) (v := .bool true) rfl (by as_aux_lemma => kernel_rfl) (by as_aux_lemma => kernel_rfl) (by as_aux_lemma => kernel_rfl) (fun _ _ _ h => h) (Or.inl ⟨by kernel_rfl, fun wz hz => by kernel_rfl⟩) hH ?_
  try simp only [Act.put, setIfInBounds_toArray, set_cons_zero, set_cons_succ]
  refine wpAnyH_take (i := 81) (v := .bool true) rfl (by as_aux_lemma => kernel_rfl) (by as_aux_lemma => kernel_rfl) (by as_aux_lemma => kernel_rfl) (fun _ _ _ h => h) (Or.inl ⟨by kernel_rfl, fun wz hz => by kernel_rfl⟩) hH ?_
  try simp only [Act.put, setIfInBounds_toArray, set_cons_zero, set_cons_succ]
  refine wpAnyH_take (i := 82) (v := .bool true) rfl (by as_aux_lemma => kernel_rfl) (by as_aux_lemma => kernel_rfl) (by as_aux_lemma => kernel_rfl) (fun _ _ _ h => h) (Or.inl ⟨by kernel_rfl, fun wz hz => by kernel_rfl⟩) hH ?_
  try simp only [Act.put, setIfInBounds_toArray, set_cons_zero, set_cons_succ]
  refine wpAnyH_ready (rs := [83]) (by as_aux_lemma => kernel_rfl) (by simp) ?_
  refine AllReadyH.cons rfl (fun K hK => ?_) AllReadyH.nil
  go_simp
  go_at_call 19
  refine (uC _).mono ?_
  rintro r wr8 ⟨rfl, hb⟩
  have G8 := Lib.hid (G7.out.next hb)
  refine hK.out _ _ (HS.out _ G8.out) (fun hHn => ?_)
  clear hK K hH
  have hH := hHn
  clear hHn
  try simp only [Act.put, setIfInBounds_toArray, set_cons_zero, set_cons_succ]
  refine wpAnyH_ready (rs := [84]) (by as_aux_lemma => kernel_rfl) (by simp) ?_
  refine AllReadyH.cons rfl (fun K hK => ?_) AllReadyH.nil
  go_simp
  go_at_call 9
  refine (riA _).mono ?_
  rintro r wr9 ⟨rfl, hb⟩
  have G9 := Lib.hid (G8.out.next hb)
  refine hK.out _ _ (HS.out _ G9.out) (fun hHn => ?_)
  clear hK K hH
  have hH := hHn
  clear hHn
  try simp only [Act.put, setIfInBounds_toArray, set_cons_zero, set_cons_succ]
  refine wpAnyH_take (i := 85) (oi := { dst := some 169, op := Op.binOp BinOp.eql 37 (Operand.tmp 168) (Operand.const (Value.int IntKind.i64 0)) 37, type := 4, pos := "law.go:30", after := _, guard := some (82, true) }) (v := .bool true) rfl (by as_aux_lemma => kernel_rfl) (by as_aux_lemma => kernel_rfl) (by as_aux_lemma => kernel_rfl) (fun _ _ _ h => h) (Or.inl ⟨by kernel_rfl, fun wz hz => by kernel_rfl⟩) hH ?_
  try simp only [Act.put, setIfInBounds_toArray, set_cons_zero, set_cons_succ]
  refine wpAnyH_take (i := 86) (oi := { dst := some 170, op := Op.pick (Operand.tmp 166) (Operand.tmp 169) (Operand.const (Value.bool false)), type := 4, pos := "law.go:30", after := _, guard := none }) (v := .bool true) rfl (by as_aux_lemma => kernel_rfl) (by as_aux_lemma => kernel_rfl) (by as_aux_lemma => kernel_rfl) (fun _ _ _ h => h) (Or.inl ⟨by kernel_rfl, fun wz hz => by kernel_rfl⟩) hH ?_
  try simp only [Act.put, setIfInBounds_toArray, set_cons_zero, set_cons_succ]
  refine wpAnyH_take (i := 87) (oi := { dst := some 0, op := Op.assign (Operand.tmp 170), type := 4, pos := "law.go:30", after := _, guard := none }) (v := .bool true) rfl (by as_aux_lemma => kernel_rfl) (by as_aux_lemma => kernel_rfl) (by as_aux_lemma => kernel_rfl) (fun _ _ _ h => h) (Or.inl ⟨by kernel_rfl, fun wz hz => by kernel_rfl⟩) hH ?_
  try simp only [Act.put, setIfInBounds_toArray, set_cons_zero, set_cons_succ]
  refine wpAnyH_done (by kernel_rfl) ?_ _
  go_wp2_with fail
  go_ret
  exact ⟨rfl, G9.out.below⟩
end Go.Proofs.YtcedhgihebollaaGreatDoor.E.J
