/-
  The walk of the law PathTells.
-/
import Derived.Test.YtamjoleknjmpoaaPtTwo
import Derived.Test.YtamjoleknjmpoaaPrParse
namespace Go.Proofs.Ytamjoleknjmpoaa
open Go.RowKit
theorem eqR (p : Pth) (w : World) : (Op.equalIn 10000 25 (.agg #[.string (mkS p.1), .string (mkS p.2)]) (.agg #[.string (mkS p.1), .string (mkS p.2)])).run Try.prog w = .ok true w := by
  have u9 := Try.underlying9
  have a9 := Try.isAgg9
  have z9 := Try.sizeOf9
  have hS : Try.prog.underlying 25 = some (.struct (Try.prog.fieldsOf 25)) := by kernel_rfl
  have hp : Try.prog.stoodInHeld 25 = false := by kernel_rfl
  rw [show (10000 : Nat) = 9999 + 1 from rfl, run_equalIn_agg w 9999 25 _ _ hS hp]
  simp only [Program.fieldsOf, Try.underlying25]
  go_simp
/-- The law's four paths in their boxes. -/
structure T4 (W : World) (g1 g2 g3 g4 : Nat) (p z : Pth) (w : World) : Prop where
  a : PB W g1 p w
  b : RX W g2 p w
  c : PB W g3 z w
  d : RX W g4 z w
theorem T4.next {W w w' : World} {g1 g2 g3 g4 : Nat} {p z : Pth} (h : T4 W g1 g2 g3 g4 p z w) (hb : Below w.heap.size w w') : T4 W g1 g2 g3 g4 p z w' := ⟨h.a.next hb, h.b.next hb, h.c.next hb, h.d.next hb⟩
theorem T4.drew {W w : World} {g1 g2 g3 g4 : Nat} {p z : Pth} (h : T4 W g1 g2 g3 g4 p z w) : T4 W g1 g2 g3 g4 p z w.drew := ⟨h.a.drew, h.b.drew, h.c.drew, h.d.drew⟩
theorem T4.quiet {W : World} {g1 g2 g3 g4 : Nat} {p z : Pth} {Y : Type} {F : Y → World} {y : Y} (h : (∀ y, T4 W g1 g2 g3 g4 p z (F y)) ∧ (∀ w', T4 W g1 g2 g3 g4 p z w' → ∃ y, w' = F y)) {f : FuncId} {args : Array Value} {v : Value} (H : Calls Try.prog f args (F y) fun e w' => e = .returned v ∧ Below (F y).heap.size (F y) w') :
    Calls Try.prog f args (F y) fun e w' => e = .returned v ∧ ∃ y, w' = F y := H.mono fun _ _ ⟨he, hb⟩ => ⟨he, h.2 _ ((h.1 y).next hb)⟩
set_option maxRecDepth 100000 in
set_option maxHeartbeats 16000000 in
theorem pathTells_x (p : Pth) (s dm : List UInt8) (w : World) (_ : s.length ≤ 140737488355328) (_ : dm.length ≤ 140737488355328) :
    Calls Try.prog 3 #[.agg #[.string (mkS p.1), .string (mkS p.2)], .string (mkS s), .string (mkS dm)] w fun e w' => e = .returned (.bool true) ∧ Below w.heap.size w w' := by
  have HA := Lib.hid awake_x
  have HP := Lib.hid (pb_new (Below.refl w.heap.size w) p)
  have z1 := mkS_size p.1
  have z2 := mkS_size p.2
  have z5 := mkS_size s
  have z6 := mkS_size dm
  by_cases h1 : 500 < p.1.length
  · have d1 : decide ((500 : Int) < (p.1.length : Int)) = true := decide_eq_true (by omega)
    go_enter Try.func3, Try.ntmps3
    go_wp2_with fail
    refine (HA.out _).mono ?_
    rintro e w1 ⟨rfl, hb⟩
    have H1 := Lib.hid (HP.out.next hb)
    clear hb
    have p0 := cellOf H1.out.box 0
    have p1 := cellOf H1.out.box 1
    go_wp2_with fail
    go_ret
    exact ⟨rfl, H1.out.below⟩
  have d1 : decide ((500 : Int) < (p.1.length : Int)) = false := decide_eq_false (by omega)
  by_cases h2 : 500 < p.2.length
  · have d2 : decide ((500 : Int) < (p.2.length : Int)) = true := decide_eq_true (by omega)
    go_enter Try.func3, Try.ntmps3
    go_wp2_with fail
    refine (HA.out _).mono ?_
    rintro e w1 ⟨rfl, hb⟩
    have H1 := Lib.hid (HP.out.next hb)
    clear hb
    have p0 := cellOf H1.out.box 0
    have p1 := cellOf H1.out.box 1
    go_wp2_with fail
    go_ret
    exact ⟨rfl, H1.out.below⟩
  have d2 : decide ((500 : Int) < (p.2.length : Int)) = false := decide_eq_false (by omega)
  by_cases h5 : 1500 < s.length
  · have d5 : decide ((1500 : Int) < (s.length : Int)) = true := decide_eq_true (by omega)
    go_enter Try.func3, Try.ntmps3
    go_wp2_with fail
    refine (HA.out _).mono ?_
    rintro e w1 ⟨rfl, hb⟩
    have H1 := Lib.hid (HP.out.next hb)
    clear hb
    have p0 := cellOf H1.out.box 0
    have p1 := cellOf H1.out.box 1
    go_wp2_with fail
    go_ret
    exact ⟨rfl, H1.out.below⟩
  have d5 : decide ((1500 : Int) < (s.length : Int)) = false := decide_eq_false (by omega)
  by_cases h6 : 600 < dm.length
  · have d6 : decide ((600 : Int) < (dm.length : Int)) = true := decide_eq_true (by omega)
    go_enter Try.func3, Try.ntmps3
    go_wp2_with fail
    refine (HA.out _).mono ?_
    rintro e w1 ⟨rfl, hb⟩
    have H1 := Lib.hid (HP.out.next hb)
    clear hb
    have p0 := cellOf H1.out.box 0
    have p1 := cellOf H1.out.box 1
    go_wp2_with fail
    go_ret
    exact ⟨rfl, H1.out.below⟩
  have d6 : decide ((600 : Int) < (dm.length : Int)) = false := decide_eq_false (by omega)
  have HPP := Lib.hid (fun w => prG_x p w (by omega) (by omega))
  have HRP := Lib.hid (fun w => rprint_x p w)
  have HPA := Lib.hid (fun w => paG_x s w (by omega))
  have HRA := Lib.hid (fun w => rparse_x s w (by omega))
  have HDO := Lib.hid (fun w => domain_x dm w)
  have HRD := Lib.hid (fun w => rdomain_x dm w)
  have HRI := Lib.hid (fun w => riG_x p w (by omega) (by omega))
  have HRR := Lib.hid (fun w => rright_x p w)
  have HNU := Lib.hid (fun w => null_x p w)
  unfold PrPost at HRP
  unfold PaPost at HRA
  unfold DomPost at HDO HRD
  have hem1 : p.1.isEmpty = (p.1 == []) := by cases p.1 <;> rfl
  have hem2 : p.2.isEmpty = (p.2 == []) := by cases p.2 <;> rfl
  have hde1 : decide (p.1 = []) = (p.1 == []) := by cases p.1 <;> rfl
  have hde2 : decide (p.2 = []) = (p.2 == []) := by cases p.2 <;> rfl
  have hT1 := mkS_toList p.1
  have hT2 := mkS_toList p.2
  have HNB := Lib.hid (show nullB p = ((p.1 == []) && (p.2 == [])) from rfl)
  rw [HNB.out] at HNU
  have hez := fun w => eqR (parseV s).1 w
  obtain ⟨z, hz⟩ : ∃ z, (parseV s).1 = z := ⟨_, rfl⟩
  rw [hz] at HPA HRA hez
  generalize (parseV s).2.1 = rest at HPA HRA
  generalize (parseV s).2.2 = pe at HPA HRA
  generalize domainV dm = dv at HDO HRD
  generalize domainE dm = de at HDO HRD
  generalize printV p = tx at HPP HRP
  generalize rightE p = re at HPP HRP HRI HRR
  generalize hqa : (p.1 == []) = qa at HNU hem1 hde1
  generalize hqb : (p.2 == []) = qb at HNU hem2 hde2
  clear hz
  go_enter Try.func3, Try.ntmps3
  go_wp2_with fail
  refine (HA.out _).mono ?_
  rintro e w1 ⟨rfl, hb⟩
  have H1 := Lib.hid (HP.out.next hb)
  clear hb
  have p0 := cellOf H1.out.box 0
  have p1 := cellOf H1.out.box 1
  have lt0 := ltOf H1.out.box
  go_wp2_with fail
  have B0 := Lib.hid (rx_new H1.out.below p)
  have A0 := Lib.hid (H1.out.next (below_box w1 (.cells #[.string (mkS p.1), .string (mkS p.2)] 25)))
  clear p0 p1 lt0
  refine (HPP.out _).mono ?_
  rintro e w2 ⟨rfl, hb⟩
  have A2 := Lib.hid (A0.out.next hb)
  have B2 := Lib.hid (B0.out.next hb)
  clear hb
  have k0 := cellOf B2.out.box 0
  have k1 := cellOf B2.out.box 1
  go_wp2_with fail
  refine (HRP.out _).mono ?_
  rintro e w3 ⟨rfl, hb⟩
  have A3 := Lib.hid (A2.out.next hb)
  have B3 := Lib.hid (B2.out.next hb)
  clear hb k0 k1
  go_wp2_with fail
  refine (HPA.out _).mono ?_
  rintro e w4 ⟨rfl, hb⟩
  have C4 := Lib.hid (pb_new (A3.out.next hb).below z)
  have A4 := Lib.hid ((A3.out.next hb).next (below_box w4 (.cells #[.string (mkS z.1), .string (mkS z.2)] 23)))
  have B4 := Lib.hid ((B3.out.next hb).next (below_box w4 (.cells #[.string (mkS z.1), .string (mkS z.2)] 23)))
  clear hb
  go_wp2_with fail
  refine (HRA.out _).mono ?_
  rintro e w5 ⟨rfl, hb⟩
  have D5 := Lib.hid (rx_new (A4.out.next hb).below z)
  have A5 := Lib.hid ((A4.out.next hb).next (below_box w5 (.cells #[.string (mkS z.1), .string (mkS z.2)] 25)))
  have B5 := Lib.hid ((B4.out.next hb).next (below_box w5 (.cells #[.string (mkS z.1), .string (mkS z.2)] 25)))
  have C5 := Lib.hid ((C4.out.next hb).next (below_box w5 (.cells #[.string (mkS z.1), .string (mkS z.2)] 25)))
  clear hb
  go_wp2_with fail
  refine (HDO.out _).mono ?_
  rintro e w6 ⟨rfl, hb⟩
  have T6 := Lib.hid ((T4.mk A5.out B5.out C5.out D5.out).next hb)
  clear hb
  go_wp2_with fail
  refine (HRD.out _).mono ?_
  rintro e w7 ⟨rfl, hb⟩
  have T7 := Lib.hid (T6.out.next hb)
  clear hb
  obtain ⟨Y, F, y0, hy0, hF, hS⟩ : ∃ (Y : Type) (F : Y → World) (y0 : Y), F y0 = w7.drew ∧ (∀ y, T4 w w.heap.size w1.heap.size w4.heap.size w5.heap.size p z (F y)) ∧ (∀ w', T4 w w.heap.size w1.heap.size w4.heap.size w5.heap.size p z w' → ∃ y, w' = F y) :=
    ⟨{ w' // T4 w w.heap.size w1.heap.size w4.heap.size w5.heap.size p z w' }, Subtype.val, ⟨_, T7.out.drew⟩, rfl, fun y => y.2, fun w' h => ⟨⟨w', h⟩, rfl⟩⟩
  have hne : Nonempty Y := ⟨y0⟩
  have hA0 := fun y => cellOf (hF y).a.box 0
  have hA1 := fun y => cellOf (hF y).a.box 1
  have hB0 := fun y => cellOf (hF y).b.box 0
  have hB1 := fun y => cellOf (hF y).b.box 1
  have hC0 := fun y => cellOf (hF y).c.box 0
  have hC1 := fun y => cellOf (hF y).c.box 1
  have hD0 := fun y => cellOf (hF y).d.box 0
  have hD1 := fun y => cellOf (hF y).d.box 1
  have HFS := Lib.hid (And.intro hF hS)
  clear hF hS
  cases qa <;> cases qb
  all_goals
    go_wp2_with fail
    refine region_in (by kernel_rfl) (by kernel_rfl) F y0 hy0 ?_
    repeat (go_big_quiet_step (first
      | (go_at_call 15; exact T4.quiet HFS.out (HRI.out _))
      | (go_at_call 16; exact T4.quiet HFS.out (HRR.out _))
      | (go_at_call 17; exact T4.quiet HFS.out (HNU.out _))))
    refine wpQuiet_nil ?_
    rintro _ ⟨y, rfl⟩
    have HF := Lib.hid (HFS.out.1 y).a.below
    clear hA0 hA1 hB0 hB1 hC0 hC1 hD0 hD1 hy0
    go_wp2_with fail
    go_ret
    exact ⟨rfl, HF.out⟩
end Go.Proofs.Ytamjoleknjmpoaa
