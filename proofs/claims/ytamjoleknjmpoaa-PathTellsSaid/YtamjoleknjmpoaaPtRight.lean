/-
  The walks of path's formed, Right and Domain.
-/
import Derived.Test.YtamjoleknjmpoaaPtOf
namespace Go.Proofs.Ytamjoleknjmpoaa
open Go.RowKit
/-- A path in its box, block g; nothing that lay ahead has turned. -/
structure PB (W : World) (g : Nat) (p : Pth) (w : World) : Prop where
  box : w.heap[g]? = some (.cells #[.string (mkS p.1), .string (mkS p.2)] 23 (0, 0))
  below : Below W.heap.size W w
theorem pb_new {W w : World} (h : Below W.heap.size W w) (p : Pth) : PB W w.heap.size p (w.alloc (.cells #[.string (mkS p.1), .string (mkS p.2)] 23)) := ⟨newOf w _, h.alloc h.size _⟩
theorem PB.next {W w w' : World} {g : Nat} {p : Pth} (h : PB W g p w) (hb : Below w.heap.size w w') : PB W g p w' := ⟨(hb.block _ (ltOf h.box)).trans h.box, below_next h.below hb⟩
theorem PB.drewN {W w : World} {g : Nat} {p : Pth} (h : PB W g p w) (n : Nat) : PB W g p (w.drewN n) := ⟨h.box, below_drewN h.below n⟩
theorem PB.drew {W w : World} {g : Nat} {p : Pth} (h : PB W g p w) : PB W g p w.drew := ⟨h.box, ⟨h.below.os, h.below.tape, h.below.output, h.below.size, h.below.block⟩⟩
theorem PB.cells {W w : World} {g : Nat} {p : Pth} (h : PB W g p w) : w.cell? ⟨g, 0, none⟩ = some (.string (mkS p.1)) ∧ w.cell? ⟨g, 1, none⟩ = some (.string (mkS p.2)) ∧ Hid (PB W g p w) := ⟨cellOf h.box 0, cellOf h.box 1, h⟩
/-- Calls beside a path in its box. -/
theorem PB.call {W w : World} {g : Nat} {p : Pth} (h : Hid (PB W g p w)) {f : FuncId} {args : Array Value} {v : Value} (H : Calls Try.prog f args w fun e w' => e = .returned v ∧ Below w.heap.size w w') :
    Calls Try.prog f args w fun e w' => e = .returned v ∧ w'.cell? ⟨g, 0, none⟩ = some (.string (mkS p.1)) ∧ w'.cell? ⟨g, 1, none⟩ = some (.string (mkS p.2)) ∧ Hid (PB W g p w') :=
  H.mono fun _ _ ⟨he, hb⟩ => ⟨he, (h.out.next hb).cells⟩
theorem PB.same {W w : World} {g : Nat} {p : Pth} (h : Hid (PB W g p w)) {f : FuncId} {args : Array Value} {v : Value} (H : Calls Try.prog f args w fun e w' => e = .returned v ∧ w = w') :
    Calls Try.prog f args w fun e w' => e = .returned v ∧ w'.cell? ⟨g, 0, none⟩ = some (.string (mkS p.1)) ∧ w'.cell? ⟨g, 1, none⟩ = some (.string (mkS p.2)) ∧ Hid (PB W g p w') :=
  H.mono fun _ _ ⟨he, hb⟩ => by subst hb; exact ⟨he, h.out.cells⟩
/-- A region that draws its order, walked once, where all its operations and calls leave a world of a class. -/
theorem region_in {P : Program} {id : Nat} {Q : Exit → Act → World → Prop} {a : Act} {w : World} {l : List Oper} (hm : P.follows .mixedOrders = true) (hB : Region.lexB .any l.toArray = true) {Y : Type} (F : Y → World) (y0 : Y) (hy : F y0 = w.drew)
    (h : wpQuiet P l.toArray (fun w' => ∃ y, w' = F y) (fun a' => ∀ w', (∃ y, w' = F y) → Q .normal a' w') l a) : (Code.region id l.toArray true).wp P Q a w :=
  wp_region_quiet (C := fun w' => ∃ y, w' = F y) hm hB ⟨y0, hy.symm⟩ (by simpa using h)
theorem PB.quiet {W : World} {g : Nat} {p : Pth} {Y : Type} {F : Y → World} {y : Y} (h : (∀ y, PB W g p (F y)) ∧ (∀ w', PB W g p w' → ∃ y, w' = F y)) {f : FuncId} {args : Array Value} {v : Value} (H : Calls Try.prog f args (F y) fun e w' => e = .returned v ∧ Below (F y).heap.size (F y) w') :
    Calls Try.prog f args (F y) fun e w' => e = .returned v ∧ ∃ y, w' = F y := H.mono fun _ _ ⟨he, hb⟩ => ⟨he, h.2 _ ((h.1 y).next hb)⟩
theorem PB.qsame {W : World} {g : Nat} {p : Pth} {Y : Type} {F : Y → World} {y : Y} (h : (∀ y, PB W g p (F y)) ∧ (∀ w', PB W g p w' → ∃ y, w' = F y)) {f : FuncId} {args : Array Value} {v : Value} (H : Calls Try.prog f args (F y) fun e w' => e = .returned v ∧ F y = w') :
    Calls Try.prog f args (F y) fun e w' => e = .returned v ∧ ∃ y, w' = F y := H.mono fun _ _ ⟨he, hb⟩ => ⟨he, h.2 _ (by rw [← hb]; exact h.1 y)⟩
set_option maxHeartbeats 4000000 in
theorem formed_x (p : Pth) (w : World) (hl1 : p.1.length ≤ 1000000000000) (hl2 : p.2.length ≤ 1000000000000) :
    Calls Try.prog 35 #[.agg #[.string (mkS p.1), .string (mkS p.2)]] w fun e w' => e = .returned (.bool (formB p)) ∧ Below w.heap.size w w' := by
  have HV := Lib.hid (show formB p = ((nullB p || hostB p) || (p.1 != [] && p.1.all printB && labels p.2 && smallL p.2 == p.2)) from rfl)
  have HN := Lib.hid (fun w => null_x p w)
  have HH := Lib.hid (fun w => host_x p w)
  have HP := Lib.hid (pb_new (Below.refl w.heap.size w) p)
  have HE := Lib.hid (fun w => everyP_x p.1 w hl1)
  have HL := Lib.hid (fun w => labels_x p.2 w hl2)
  have HS := Lib.hid (fun w => small_x p.2 w hl2)
  have hT1 := mkS_toList p.1
  have hT2 := mkS_toList p.2
  have hT3 := mkS_toList (smallL p.2)
  have hem : p.1.isEmpty = (p.1 == []) := by cases p.1 <;> rfl
  have hem2 : decide (p.1 = []) = (p.1 == []) := by cases p.1 <;> rfl
  have HQ1 := Lib.hid (show (p.1 != []) = !(p.1 == []) from rfl)
  rw [HQ1.out] at HV
  clear HQ1
  generalize hq1 : (p.1 == []) = q1 at hem hem2 HV
  generalize p.1.all printB = q2 at HE HV
  generalize labels p.2 = q3 at HL HV
  generalize hq4 : (smallL p.2 == p.2) = q4 at HV
  go_enter Try.func35, Try.ntmps35
  go_wp2_with fail
  refine (HN.out _).mono ?_
  rintro e w1 ⟨rfl, hb1⟩
  have P1 := Lib.hid (HP.out.next hb1)
  clear hb1
  obtain ⟨hc0, hc1, _⟩ := P1.out.cells
  generalize nullB p = qn at HV ⊢
  cases qn
  · go_wp2_with fail
    refine (HH.out _).mono ?_
    rintro e w2 ⟨rfl, hb2⟩
    have P2 := Lib.hid (P1.out.next hb2)
    clear hb2 hc0 hc1
    obtain ⟨hc0, hc1, _⟩ := P2.out.cells
    generalize hostB p = qh at HV ⊢
    cases qh
    · obtain ⟨Y, F, y0, hy0, hF, hS⟩ : ∃ (Y : Type) (F : Y → World) (y0 : Y), F y0 = w2.drew ∧ (∀ y, PB w w.heap.size p (F y)) ∧ (∀ w', PB w w.heap.size p w' → ∃ y, w' = F y) :=
        ⟨{ w' // PB w w.heap.size p w' }, Subtype.val, ⟨_, P2.out.drew⟩, rfl, fun y => y.2, fun w' h => ⟨⟨w', h⟩, rfl⟩⟩
      have hne : Nonempty Y := ⟨y0⟩
      have hF0 := fun y => cellOf (hF y).box 0
      have hF1 := fun y => cellOf (hF y).box 1
      have HFS := Lib.hid (And.intro hF hS)
      clear hF hS
      cases q1
      · cases q2
        · go_wp2_with fail
          refine region_in (by kernel_rfl) (by kernel_rfl) F y0 hy0 ?_
          repeat (go_big_quiet_step (first
            | (go_at_call 43; exact PB.qsame HFS.out (HE.out _))
            | (go_at_call 29; exact PB.quiet HFS.out (HL.out _))
            | (go_at_call 30; exact PB.quiet HFS.out (HS.out _))))
          refine wpQuiet_nil ?_
          rintro _ ⟨y, rfl⟩
          have HF := Lib.hid (HFS.out.1 y).below
          clear hF0 hF1 hy0
          go_wp2_with fail
          go_ret
          exact ⟨ret_bool (by rw [HV.out]; rfl), HF.out⟩
        · cases q3
          · go_wp2_with fail
            refine region_in (by kernel_rfl) (by kernel_rfl) F y0 hy0 ?_
            repeat (go_big_quiet_step (first
              | (go_at_call 43; exact PB.qsame HFS.out (HE.out _))
              | (go_at_call 29; exact PB.quiet HFS.out (HL.out _))
              | (go_at_call 30; exact PB.quiet HFS.out (HS.out _))))
            refine wpQuiet_nil ?_
            rintro _ ⟨y, rfl⟩
            have HF := Lib.hid (HFS.out.1 y).below
            clear hF0 hF1 hy0
            go_wp2_with fail
            go_ret
            exact ⟨ret_bool (by rw [HV.out]; rfl), HF.out⟩
          · cases q4
            · go_wp2_with fail
              refine region_in (by kernel_rfl) (by kernel_rfl) F y0 hy0 ?_
              repeat (go_big_quiet_step (first
                | (go_at_call 43; exact PB.qsame HFS.out (HE.out _))
                | (go_at_call 29; exact PB.quiet HFS.out (HL.out _))
                | (go_at_call 30; exact PB.quiet HFS.out (HS.out _))))
              refine wpQuiet_nil ?_
              rintro _ ⟨y, rfl⟩
              have HF := Lib.hid (HFS.out.1 y).below
              clear hF0 hF1 hy0
              go_wp2_with fail
              go_ret
              exact ⟨ret_bool (by rw [HV.out]; rfl), HF.out⟩
            · go_wp2_with fail
              refine region_in (by kernel_rfl) (by kernel_rfl) F y0 hy0 ?_
              repeat (go_big_quiet_step (first
                | (go_at_call 43; exact PB.qsame HFS.out (HE.out _))
                | (go_at_call 29; exact PB.quiet HFS.out (HL.out _))
                | (go_at_call 30; exact PB.quiet HFS.out (HS.out _))))
              refine wpQuiet_nil ?_
              rintro _ ⟨y, rfl⟩
              have HF := Lib.hid (HFS.out.1 y).below
              clear hF0 hF1 hy0
              go_wp2_with fail
              go_ret
              exact ⟨ret_bool (by rw [HV.out]; rfl), HF.out⟩
      · have HF := Lib.hid P2.out.below
        go_wp2_with fail
        go_quiet (fail)
        go_wp2_with fail
        go_ret
        exact ⟨ret_bool (by rw [HV.out]; rfl), below_drewN HF.out _⟩
    · have HF := Lib.hid P2.out.below
      go_wp2_with fail
      go_ret
      exact ⟨ret_bool (by rw [HV.out]; rfl), HF.out⟩
  · have HF := Lib.hid P1.out.below
    go_wp2_with fail
    go_ret
    exact ⟨ret_bool (by rw [HV.out]; rfl), HF.out⟩
set_option maxHeartbeats 1000000 in
theorem right_x (p : Pth) (w : World) (hl1 : p.1.length ≤ 1000000000000) (hl2 : p.2.length ≤ 1000000000000) :
    Calls Try.prog 15 #[.agg #[.string (mkS p.1), .string (mkS p.2)]] w fun e w' => e = .returned (.int .i64 (rightE p)) ∧ Below w.heap.size w w' := by
  have HV := Lib.hid (show rightE p = if longB p then 3 else if formB p then 0 else 2 from rfl)
  have HL := Lib.hid (fun w => long_x p w)
  have HF := Lib.hid (fun w => formed_x p w hl1 hl2)
  have HP := Lib.hid (pb_new (Below.refl w.heap.size w) p)
  generalize longB p = q1 at HV HL
  generalize formB p = q2 at HV HF
  go_enter Try.func15, Try.ntmps15
  go_wp2_with fail
  refine (HL.out _).mono ?_
  rintro e w1 ⟨rfl, hb1⟩
  have P1 := Lib.hid (HP.out.next hb1)
  clear hb1
  obtain ⟨hc0, hc1, _⟩ := P1.out.cells
  cases q1
  · go_wp2_with fail
    refine (HF.out _).mono ?_
    rintro e w2 ⟨rfl, hb2⟩
    have P2 := Lib.hid (P1.out.next hb2)
    clear hb2 hc0 hc1
    cases q2
    · go_wp2_with fail
      go_ret
      exact ⟨ret_int (by rw [HV.out]; rfl), P2.out.below⟩
    · go_wp2_with fail
      go_ret
      exact ⟨ret_int (by rw [HV.out]; rfl), P2.out.below⟩
  · go_wp2_with fail
    go_ret
    exact ⟨ret_int (by rw [HV.out]; rfl), P1.out.below⟩
/-- What Domain answers. -/
def DomPost (s : List UInt8) (w : World) (e : Ending) (w' : World) : Prop := e = .returned (.tuple #[.string (mkS (domainV s)), .int .i64 (domainE s)]) ∧ Below w.heap.size w w'
theorem dom_no {s : List UInt8} {w w' : World} {n : Int} (h : domainE s = n) (hn : n ≠ 0) (hb : Below w.heap.size w w') : DomPost s w (.returned (.tuple #[.string { data := #[] }, .int .i64 n])) w' :=
  ⟨by rw [domainV, h, if_neg hn]; rfl, hb⟩
theorem dom_yes {s : List UInt8} {w w' : World} (h : domainE s = 0) (hb : Below w.heap.size w w') : DomPost s w (.returned (.tuple #[.string (mkS (smallL s)), .int .i64 0])) w' :=
  ⟨by rw [domainV, h, if_pos rfl], hb⟩
set_option maxHeartbeats 1000000 in
theorem domain_x (s : List UInt8) (w : World) : Calls Try.prog 13 #[.string (mkS s)] w (DomPost s w) := by
  have hms := mkS_size s
  have HV := Lib.hid (show domainE s = if 255 < s.length then 3 else if labels s then 0 else 2 from rfl)
  by_cases h1 : 255 < s.length
  · have d1 : decide ((255 : Int) < (s.length : Int)) = true := decide_eq_true (by omega)
    have HD := Lib.hid (show domainE s = 3 by rw [HV.out, if_pos h1])
    clear h1
    go_enter Try.func13, Try.ntmps13
    go_wp2_with fail
    go_ret2
    exact dom_no HD.out (by decide) (Below.refl _ _)
  · have d1 : decide ((255 : Int) < (s.length : Int)) = false := decide_eq_false (by omega)
    have HL := Lib.hid (fun w => labels_x s w (by omega))
    have HS := Lib.hid (fun w => small_x s w (by omega))
    rw [if_neg h1] at HV
    generalize labels s = q at HL HV
    clear h1
    go_enter Try.func13, Try.ntmps13
    go_wp2_with fail
    refine (HL.out _).mono ?_
    rintro e w1 ⟨rfl, hb1⟩
    have HB1 := Lib.hid hb1
    clear hb1
    cases q
    · go_wp2_with fail
      go_ret2
      exact dom_no (by rw [HV.out]; rfl) (by decide) HB1.out
    · go_wp2_with fail
      refine (HS.out _).mono ?_
      rintro e w2 ⟨rfl, hb2⟩
      have HB2 := Lib.hid (below_next HB1.out hb2)
      clear hb2
      go_wp2_with fail
      go_ret2
      exact dom_yes (by rw [HV.out]; rfl) HB2.out
end Go.Proofs.Ytamjoleknjmpoaa
