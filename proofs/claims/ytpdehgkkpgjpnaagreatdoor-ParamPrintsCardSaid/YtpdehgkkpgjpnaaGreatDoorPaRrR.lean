/-
  The walk of the reference's RightRcpt.
-/
import Derived.Test.YtpdehgkkpgjpnaaGreatDoorMaRf
import Derived.Test.YtpdehgkkpgjpnaaGreatDoorPaRR
import Derived.Test.YtpdehgkkpgjpnaaGreatDoorPaRrM
namespace Go.Proofs.YtpdehgkkpgjpnaaGreatDoor
set_option maxRecDepth 100000
open Go.RowKit
/-- A recipient in its box, block g; nothing that lay ahead has turned. -/
structure RX (W : World) (g : Nat) (r : RL) (w : World) : Prop where
  box : w.heap[g]? = some (.cells #[.string (mkS r.no), .string (mkS r.kind), .string (mkS r.oc)] 41 (0, 0))
  below : Below W.heap.size W w
theorem RX.new (w : World) (r : RL) : RX w w.heap.size r (w.alloc (.cells #[.string (mkS r.no), .string (mkS r.kind), .string (mkS r.oc)] 41)) := ⟨newOf w _, (Below.refl _ w).alloc (Nat.le_refl _) _⟩
theorem RX.next {W w w' : World} {g : Nat} {r : RL} (h : RX W g r w) (hb : Below w.heap.size w w') : RX W g r w' := ⟨(hb.block _ (ltOf h.box)).trans h.box, below_next h.below hb⟩
theorem RX.drewN {W w : World} {g : Nat} {r : RL} (h : RX W g r w) (n : Nat) : RX W g r (w.drewN n) := ⟨h.box, below_drewN h.below n⟩
theorem RX.drew {W w : World} {g : Nat} {r : RL} (h : RX W g r w) : RX W g r w.drew := ⟨h.box, ⟨h.below.os, h.below.tape, h.below.output, h.below.size, h.below.block⟩⟩
theorem RX.c0 {W w : World} {g : Nat} {r : RL} (h : RX W g r w) : w.cell? ⟨g, 0, none⟩ = some (.string (mkS r.no)) := cellOf h.box 0
theorem RX.c1 {W w : World} {g : Nat} {r : RL} (h : RX W g r w) : w.cell? ⟨g, 1, none⟩ = some (.string (mkS r.kind)) := cellOf h.box 1
theorem RX.c2 {W w : World} {g : Nat} {r : RL} (h : RX W g r w) : w.cell? ⟨g, 2, none⟩ = some (.string (mkS r.oc)) := cellOf h.box 2
theorem RX.quiet {W : World} {g : Nat} {r : RL} {Y : Type} {F : Y → World} {y : Y} (h : (∀ y, RX W g r (F y)) ∧ (∀ w', RX W g r w' → ∃ y, w' = F y)) {f : FuncId} {args : Array Value} {v : Value} (H : Calls Tryz.prog f args (F y) fun e w' => e = .returned v ∧ Below (F y).heap.size (F y) w') :
    Calls Tryz.prog f args (F y) fun e w' => e = .returned v ∧ ∃ y, w' = F y := H.mono fun _ _ ⟨he, hb⟩ => ⟨he, h.2 _ ((h.1 y).next hb)⟩
def rowN : List Txt := [[], [78], [83], [70], [68], [83, 70], [83, 68], [70, 68], [83, 70, 68]]
theorem rowN_eq (l : Txt) : rowN.contains l = (l == [78] || l == ordV l) := by
  refine bb _ _ ?_
  rw [List.contains_iff_mem, Bool.or_eq_true, beq_iff_eq, beq_iff_eq]
  constructor
  · intro h
    have : ∀ x ∈ rowN, x = [78] ∨ x = ordV x := by decide +kernel
    exact this l h
  · rintro (rfl | h)
    · decide
    · rw [h]
      unfold ordV
      cases l.contains 83 <;> cases l.contains 70 <;> cases l.contains 68 <;> decide
set_option maxHeartbeats 8000000 in
theorem rrightR_x (r : RL) (w : World) (hk : r.kind.length ≤ 100000) : Calls Tryz.prog 30 #[.agg #[.string (mkS r.no), .string (mkS r.kind), .string (mkS r.oc)]] w fun e w' => e = .returned (.int .i64 (rightR r)) ∧ Below w.heap.size w w' := by
  have H0 := Lib.hid (RX.new w r)
  have HA := Lib.hid (fun (w' : World) (g c : Nat) hc => among_x r.no rowN g 9 c rfl w' hc (by decide))
  have HK := Lib.hid (fun w' => typed_x r.kind w')
  have HC := Lib.hid (fun w' => rupper_x r.kind w' (by omega))
  have hT1 := mkS_toList r.kind
  have hT2 := mkS_toList r.oc
  have hTu := mkS_toList (upL r.kind)
  have hsz := mkS_size r.oc
  have HV := Lib.hid (show rightR r = if rowN.contains r.no = false then 2 else if (((r.kind == []) == (r.oc == [])) && (r.kind == [] || (isKind r.kind && upL r.kind == r.kind))) = false then 2 else if 256 < r.oc.length then 3 else 0 by
    rw [rowN_eq, show (upL r.kind == r.kind) = (r.kind == upL r.kind) from BEq.comm]
    rfl)
  generalize rowN.contains r.no = q1 at HA HV
  have hk1 : r.kind.isEmpty = (r.kind == []) := by cases r.kind <;> rfl
  have hk2 : decide (r.kind = []) = (r.kind == []) := by cases r.kind <;> rfl
  have ho1 : r.oc.isEmpty = (r.oc == []) := by cases r.oc <;> rfl
  have ho2 : decide (r.oc = []) = (r.oc == []) := by cases r.oc <;> rfl
  generalize hqa : (r.kind == []) = qa at HV hk1 hk2
  generalize hqb : (r.oc == []) = qb at HV ho1 ho2
  generalize isKind r.kind = q3 at HV HK
  generalize hq4 : (upL r.kind == r.kind) = q4 at HV
  clear hk
  go_enter Tryz.func30, Tryz.ntmps30
  go_wp2_with fail
  generalize hW0 : w.alloc (.cells #[.string (mkS r.no), .string (mkS r.kind), .string (mkS r.oc)] 41) = W0 at H0 ⊢
  have hs0 : W0.heap.size = w.heap.size + 1 := by rw [← hW0]; simp
  clear hW0
  refine (HA.out _ _ _ ?_).mono ?_
  · rw [← hs0]; exact row_new _ rowN _ rfl
  rintro e w1 ⟨rfl, hw⟩
  have H1 := Lib.hid (show RX w w.heap.size r w1 by rw [hw]; exact H0.out.next (below_new2 _ _))
  clear hw hs0 H0
  cases q1
  · go_wp2_with fail
    go_ret
    exact ⟨ret_int (by rw [HV.out]; rfl), H1.out.below⟩
  have d1 := H1.out.c1
  have d2 := H1.out.c2
  rcases qa with _ | _ <;> rcases qb with _ | _
  · rcases q3 with _ | _
    · obtain ⟨Y, F, y0, hy0, hF, hS⟩ : ∃ (Y : Type) (F : Y → World) (y0 : Y), F y0 = w1.drew ∧ (∀ y, RX w w.heap.size r (F y)) ∧ (∀ w', RX w w.heap.size r w' → ∃ y, w' = F y) :=
        ⟨{ w' // RX w w.heap.size r w' }, Subtype.val, ⟨_, H1.out.drew⟩, rfl, fun y => y.2, fun w' h => ⟨⟨w', h⟩, rfl⟩⟩
      have hne : Nonempty Y := ⟨y0⟩
      have hF1 := fun y => cellOf (hF y).box 1
      have hF2 := fun y => cellOf (hF y).box 2
      have HFS := Lib.hid (And.intro hF hS)
      clear hF hS d1 d2
      go_wp2_with fail
      refine region_in (by kernel_rfl) (by kernel_rfl) F y0 hy0 ?_
      repeat (go_big_quiet_step (first
        | (go_at_call 60; exact RX.quiet HFS.out (HK.out _))
        | (go_at_call 61; exact RX.quiet HFS.out (HC.out _))))
      refine wpQuiet_nil ?_
      rintro _ ⟨y, rfl⟩
      have H2 := Lib.hid (HFS.out.1 y)
      clear hF1 hF2 hy0
      have HB := Lib.hid H2.out.below
      go_wp2_with fail
      go_ret
      exact ⟨ret_int (by rw [HV.out]; simp), HB.out⟩
    · obtain ⟨Y, F, y0, hy0, hF, hS⟩ : ∃ (Y : Type) (F : Y → World) (y0 : Y), F y0 = w1.drew ∧ (∀ y, RX w w.heap.size r (F y)) ∧ (∀ w', RX w w.heap.size r w' → ∃ y, w' = F y) :=
        ⟨{ w' // RX w w.heap.size r w' }, Subtype.val, ⟨_, H1.out.drew⟩, rfl, fun y => y.2, fun w' h => ⟨⟨w', h⟩, rfl⟩⟩
      have hne : Nonempty Y := ⟨y0⟩
      have hF1 := fun y => cellOf (hF y).box 1
      have hF2 := fun y => cellOf (hF y).box 2
      have HFS := Lib.hid (And.intro hF hS)
      clear hF hS d1 d2
      go_wp2_with fail
      refine region_in (by kernel_rfl) (by kernel_rfl) F y0 hy0 ?_
      repeat (go_big_quiet_step (first
        | (go_at_call 60; exact RX.quiet HFS.out (HK.out _))
        | (go_at_call 61; exact RX.quiet HFS.out (HC.out _))))
      refine wpQuiet_nil ?_
      rintro _ ⟨y, rfl⟩
      have H2 := Lib.hid (HFS.out.1 y)
      clear hF1 hF2 hy0
      cases q4
      · have HB := Lib.hid H2.out.below
        go_wp2_with fail
        go_ret
        exact ⟨ret_int (by rw [HV.out]; simp), HB.out⟩
      · have _u := trivial
        have c2 := H2.out.c2
        have HB := Lib.hid H2.out.below
        by_cases hl : 256 < r.oc.length
        · have hlI : (256 : Int) < (r.oc.length : Int) := by omega
          go_wp2_with fail
          go_ret
          exact ⟨ret_int (by rw [HV.out]; simp [hl]), HB.out⟩
        · have hlI : ¬ (256 : Int) < (r.oc.length : Int) := by omega
          go_wp2_with fail
          go_ret
          exact ⟨ret_int (by rw [HV.out]; simp [hl]), HB.out⟩
  · go_wp2_with fail
    go_quiet (fail)
    have HB := Lib.hid (below_drewN H1.out.below nq)
    go_wp2_with fail
    go_ret
    exact ⟨ret_int (by rw [HV.out]; simp), HB.out⟩
  · go_wp2_with fail
    go_quiet (fail)
    have HB := Lib.hid (below_drewN H1.out.below nq)
    go_wp2_with fail
    go_ret
    exact ⟨ret_int (by rw [HV.out]; simp), HB.out⟩
  · go_wp2_with fail
    go_quiet (fail)
    have H2 := Lib.hid (H1.out.drewN nq)
    clear d1 d2
    have c2 := H2.out.c2
    have HB := Lib.hid H2.out.below
    by_cases hl : 256 < r.oc.length
    · have hlI : (256 : Int) < (r.oc.length : Int) := by omega
      go_wp2_with fail
      go_ret
      exact ⟨ret_int (by rw [HV.out]; simp [hl]), HB.out⟩
    · have hlI : ¬ (256 : Int) < (r.oc.length : Int) := by omega
      go_wp2_with fail
      go_ret
      exact ⟨ret_int (by rw [HV.out]; simp [hl]), HB.out⟩
end Go.Proofs.YtpdehgkkpgjpnaaGreatDoor
