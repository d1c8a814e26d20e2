/-
  The walk of lay.
-/
import Derived.Test.YtmmghdnlppjgbaaWhLay
namespace Go.Proofs.Ytmmghdnlppjgbaa
set_option maxRecDepth 100000
open Go.RowKit
section
variable {O : Nat → Prop} {b : Nat} {n : Int} {M : List (Int × Value)} {S P : List Tm} {mt : Nat} {sv : Nat → Option Nat} {v : Value} {L : List Hd} {w w' : World}
/-- Far ahead: behind the wheels. -/
theorem WC.lay_far {t : Tm} {w2 : World} (h : WC O b n M S (t :: P) mt sv v L w) (few : S.length ≤ 100000)
    (e : w2.heap = (w.setCell ⟨t.a, 2, none⟩ (.int .i64 4)).heap) (e0 : w2.os = w.os) (e1 : w2.tape = w.tape) (e2 : w2.output = w.output) :
    Calls Try.prog 31 #[lsI b, .iface 66 (ptrV t.a)] w2 fun e w' => e = .returned (.tuple #[]) ∧ Wd O b n M (⟨t.a, t.id, t.f, 4⟩ :: S) P mt w w' := by
  obtain ⟨h2, ⟨p, tp⟩, f2, sz⟩ := h.marked 4 e e0 e1 e2
  have ot := h2.ot t (by simp)
  obtain ⟨ndt, _⟩ := nd_mid h2.nd
  have hL : L.length ≤ S.length := by
    rw [h2.perm.length_eq, List.length_map]
    exact List.length_filter_le _ _
  refine (hpush_x (h2.hsp ot) h2.ord (t := t.hd) tp (fun x hx => ?_) (.inr (.inr (.inr rfl))) (by omega)).mono ?_
  · obtain ⟨s, hs, _, e⟩ := h2.mem_L hx
    rw [← e]
    exact ndt s (List.mem_append_left _ hs)
  · rintro e w' ⟨rfl, O', v', L', h3, f3, s3, p3, o3⟩
    refine ⟨rfl, ⟨_, sv, v', L', h2.far_laid h3 f3 p3 o3, fun k hk => ?_⟩, f2.trans f3 fun i hi e => h2.ohp ot i e⟩
    rcases hk with hk | hk
    · exact .inl hk
    · rcases s3 k hk with hk | hk
      · exact .inl (h2.ohp ot k hk)
      · exact .inr (by omega)
theorem wpList_put_ex {w : World} {ops : Array Oper} {rest : List Oper} {o : Oper} {a : Act} {Q : Exit → Act → World → Prop} (hg : o.guard = none) (mo xo yo : Operand) (hop : o.op = Op.mapUpdate 59 mo xo yo) (x y z : Value) (hm : a.eval mo = x) (hx : a.eval xo = y) (hy : a.eval yo = z) {R : World → Prop}
    (hX : ∃ w3, (Instr.mapUpdate 59 x y z).run Try.prog w = .ok () w3 ∧ R w3) (hK : ∀ w3, Hid (R w3) → wpList Try.prog ops Q rest (a.put o.dst undef) w3) : wpList Try.prog ops Q (o :: rest) a w := by
  obtain ⟨w3, hrun, h3⟩ := hX
  refine wpList_plain hg fun K' hK' => ?_
  unfold Oper.wp
  simp [execOp, hop, hm, hx, hy, hrun, Result.andThen]
  exact hK' _ _ (hK w3 (Lib.hid h3))
theorem make_map (w : World) : (Instr.makeMap 59 none).run Try.prog w = .ok (.map (some w.heap.size)) (w.alloc (.map #[] 0)) := by kernel_rfl
theorem map_some (m : Nat) (w : World) : (binOp BinOp.eql 59 (.map (some m)) (.map none)).run Try.prog w = .ok (.bool false) w := by kernel_rfl
theorem map_none (w : World) : (binOp BinOp.eql 59 (.map none) (.map none)).run Try.prog w = .ok (.bool true) w := by kernel_rfl
set_option maxHeartbeats 4000000 in
theorem lay_x {t : Tm} (h : WC O b n M S (t :: P) mt sv v L w) (hf : n ≤ t.f) (n0 : 0 ≤ n) (f1 : t.f ≤ 4398046511104) (hid : ∀ s ∈ S, s.id ≠ t.id) (hn : Nm t.id) (few : S.length ≤ 100000) :
    Calls Try.prog 22 #[.pointer (some ⟨b, 0, none⟩), ptrV t.a] w fun e w' => e = .returned (.tuple #[]) ∧ Wd O b n M (⟨t.a, t.id, t.f, lvOf n t.f⟩ :: S) P mt w w' := by
  have H := Lib.hid h
  have HI := Lib.hid hid
  have HN := Lib.hid hn
  have HF := Lib.hid few
  obtain ⟨kb, _⟩ := h.kinds
  have tb := kb t (by simp)
  have nb : b ≠ t.a := fun e => tb e.symm
  have f0 : 0 ≤ t.f := by omega
  have ft : ∀ i, w.frozen? ⟨t.a, i, none⟩ = false := by obtain ⟨l', p, hp⟩ := h.tP t (by simp); exact fun i => freeOf hp i
  obtain ⟨l', p, hp⟩ := h.tP t (by simp)
  obtain ⟨t0, t1, t2, _⟩ := hp.cells
  have ft2 := ft 2
  have c0 := h.hs.wb.now
  have fb := fun k => h.hs.wb.free (2 + k)
  have HC := Lib.hid (fun k (hk : k < 256) => h.hs.wb.slot hk)
  clear h hid hn few kb ft hp
  go_enter Try.func22, Try.ntmps22
  go_wp2_with fail
  go_loopw [6] (fun s wr => ∃ i m : Nat, s = .int .i64 i ∧ i ≤ 4 ∧ wr = w.drewN m ∧ Hid (∀ k, k < i → wd (k + 1) ≤ t.f - n)) (fun s _ => 4 - (intOf s).toNat)
  case atStart => exact ⟨0, 0, rfl, by omega, rfl, Lib.hid fun k hk => by omega⟩
  case round =>
    obtain ⟨i, m, rfl, hi, rfl, HR⟩ := hrel
    by_cases h4 : i < 4
    · have HW := Lib.hid (width_x (i + 1) (by omega))
      rw [show (((i + 1 : Nat)) : Int) = (i : Int) + 1 by omega] at HW
      cases hd : decide (t.f - n < wd (i + 1)) with
      | false =>
        have HR2 : Hid (∀ k, k < i + 1 → wd (k + 1) ≤ t.f - n) := Lib.hid fun k hk => by
          rcases Nat.lt_or_eq_of_le (Nat.le_of_lt_succ hk) with hk | rfl
          · exact HR.out k hk
          · have := of_decide_eq_false hd; omega
        go_wp2_with fail
        go_quiet ((go_at_call 30; first | exact Calls.quiet_of_same (HW.out _) | exact quiet_more (HW.out _)))
        go_wp2_with fail
        go_roundw
        case rel => exact ⟨i + 1, _, by simp, by omega, rfl, HR2⟩
        case measure => simp [intOf]; omega
      | true =>
        have HL := Lib.hid (lvOf_is h4 (of_decide_eq_true hd) fun k hk => by have := HR.out k hk; omega)
        have HS := Lib.hid (fun w => slot_x b i t.f h4 f0 (by omega) w)
        have hk4 : slotN i t.f < 256 := by have := slot_lt i t.f; omega
        have ck := HC.out _ hk4
        have fk := fb (slotN i t.f)
        have HK : Hid (∃ k, k = slotN i t.f) := Lib.hid ⟨_, rfl⟩
        obtain ⟨k, hk⟩ := HK.out
        rw [← hk] at ck fk HS hk4
        have HXC := Lib.hid (fun (w2 : World) (e : w2.heap = (w.setCell ⟨t.a, 2, none⟩ (.int .i64 i)).heap ∧ w2.os = w.os ∧ w2.tape = w.tape ∧ w2.output = w.output) => show w2.cell? ⟨b, 2 + k, none⟩ = some (.map (sv k)) ∧ w2.cell? ⟨t.a, 0, none⟩ = some (.int .i64 t.id) ∧ w2.frozen? ⟨b, 2 + k, none⟩ = false ∧ b < w2.heap.size by
          obtain ⟨h2, ⟨p, tp⟩, _, _⟩ := H.out.marked i e.1 e.2.1 e.2.2.1 e.2.2.2
          exact ⟨h2.hs.wb.slot (by omega), tp.cells.1, h2.hs.wb.free _, h2.hs.wb.lt⟩)
        cases hsv : sv k with
        | some m0 =>
          have HX := Lib.hid (fun (w2 : World) (e : w2.heap = (w.setCell ⟨t.a, 2, none⟩ (.int .i64 i)).heap ∧ w2.os = w.os ∧ w2.tape = w.tape ∧ w2.output = w.output) => H.out.lay_old (w2 := w2) h4 hk hsv HI.out HN.out HF.out e.1 e.2.1 e.2.2.1 e.2.2.2)
          have hE := map_some m0
          rw [hsv] at HXC
          clear hk hsv
          go_wp2_with fail
          go_quiet ((go_at_call 30; first | exact Calls.quiet_of_same (HW.out _) | exact quiet_more (HW.out _)))
          go_wp2_with (go_at_call 24; refine (HS.out _).mono ?_; rintro e w2 ⟨rfl, q, hw2⟩; have HW2 := Lib.hid (show w2.heap = (w.setCell ⟨t.a, 2, none⟩ (.int .i64 i)).heap ∧ w2.os = w.os ∧ w2.tape = w.tape ∧ w2.output = w.output from by rw [hw2]; exact ⟨rfl, rfl, rfl, rfl⟩); obtain ⟨d1, d2, d3, d4⟩ := HXC.out w2 HW2.out; clear hw2)
          obtain ⟨w3, hrun, h3⟩ := HX.out w2.drew HW2.out
          have H3 := Lib.hid h3
          clear h3
          go_still_tail 8, (by kernel_rfl)
          go_wp2_with fail
          go_returns
          exact ⟨rfl, by rw [HL.out]; exact H3.out⟩
        | none =>
          have HX := Lib.hid (fun (w2 wn : World) (e : w2.heap = (w.setCell ⟨t.a, 2, none⟩ (.int .i64 i)).heap ∧ w2.os = w.os ∧ w2.tape = w.tape ∧ w2.output = w.output) => H.out.lay_new (w2 := w2) (wn := wn) h4 hk hsv HN.out e.1 e.2.1 e.2.2.1 e.2.2.2)
          have hE := map_none
          have hMk := make_map
          rw [hsv] at HXC
          clear hk hsv
          go_wp2_with fail
          go_quiet ((go_at_call 30; first | exact Calls.quiet_of_same (HW.out _) | exact quiet_more (HW.out _)))
          go_wp2_with (go_at_call 24; refine (HS.out _).mono ?_; rintro e w2 ⟨rfl, q, hw2⟩; have HW2 := Lib.hid (show w2.heap = (w.setCell ⟨t.a, 2, none⟩ (.int .i64 i)).heap ∧ w2.os = w.os ∧ w2.tape = w.tape ∧ w2.output = w.output from by rw [hw2]; exact ⟨rfl, rfl, rfl, rfl⟩); obtain ⟨d1, d2, d3, d4⟩ := HXC.out w2 HW2.out; clear hw2)
          have e1 : ((w2.setCell ⟨b, 2 + k, none⟩ (.map (some w2.heap.size))).alloc (.map #[] 0)).cell? ⟨b, 2 + k, none⟩ = some (.map (some w2.heap.size)) := (World.cell?_alloc_old _ _ _ (by simpa using Nat.ne_of_lt d4)).trans (World.cell?_setCell_same _ _ _ d1)
          have e2 : ((w2.setCell ⟨b, 2 + k, none⟩ (.map (some w2.heap.size))).alloc (.map #[] 0)).cell? ⟨t.a, 0, none⟩ = some (.int .i64 t.id) := by
            rw [World.cell?_alloc_old _ _ _ (by simpa using Nat.ne_of_lt (World.block_lt_of_cell? _ _ d2)), World.cell?_setCell_far _ _ _ _ nb]
            exact d2
          obtain ⟨w3, hrun, h3⟩ := HX.out w2 ((w2.setCell ⟨b, 2 + k, none⟩ (.map (some w2.heap.size))).alloc (.map #[] 0)).drew HW2.out rfl HW2.out.2.1 HW2.out.2.2.1 HW2.out.2.2.2
          have H3 := Lib.hid h3
          clear h3 d1 d2 d3
          generalize (w2.setCell ⟨b, 2 + k, none⟩ (.map (some w2.heap.size))).alloc (.map #[] 0) = wx at *
          go_still_tail 8, (by kernel_rfl)
          go_wp2_with fail
          go_returns
          exact ⟨rfl, by rw [HL.out]; exact H3.out⟩
    · have : i = 4 := by omega
      subst this
      have HL := Lib.hid (lvOf_far (n := n) (f := t.f) fun k hk => by have := HR.out k hk; omega)
      go_wp2_with (go_at_call 31; refine (H.out.lay_far (w2 := (w.drewN m).setCell ⟨t.a, 2, none⟩ (.int .i64 4)) HF.out rfl rfl rfl rfl).mono ?_; rintro e w3 ⟨rfl, h3⟩)
      go_end0
      exact ⟨rfl, by rw [HL.out]; exact h3⟩
end
end Go.Proofs.Ytmmghdnlppjgbaa
