/-
  The walks of the reference's until, Domain, Right and Print.
-/
import Derived.Test.YtamjoleknjmpoaaPrLab
import Derived.Test.YtamjoleknjmpoaaPtRight
import Derived.Test.YtamjoleknjmpoaaPtPrint
namespace Go.Proofs.Ytamjoleknjmpoaa
open Go.RowKit
/-- Where a sign stands, from a place on. -/
def untV (s : List UInt8) (i : Nat) (c : UInt8) : Int := if hasC c (s.drop i) then ((i + (preC c (s.drop i)).length : Nat) : Int) else -1
theorem drop_at {l : List UInt8} {k : Nat} {x : UInt8} (h : l[k]? = some x) : l.drop k = x :: l.drop (k + 1) := by
  obtain ⟨hk, e⟩ := List.getElem?_eq_some_iff.1 h
  rw [List.drop_eq_getElem_cons hk, e]
theorem unt_yes {s : List UInt8} {k : Nat} {c : UInt8} (h : s[k]? = some c) : untV s k c = (k : Int) := by
  rw [untV, drop_at h]
  simp [hasC, preC]
theorem unt_step {s : List UInt8} {k : Nat} {x c : UInt8} (h : s[k]? = some x) (hx : (x == c) = false) : untV s k c = untV s (k + 1) c := by
  have hne : x ≠ c := fun e => by rw [e] at hx; simp at hx
  have e1 : hasC c (s.drop k) = hasC c (s.drop (k + 1)) := by rw [drop_at h]; simp [hasC, Ne.symm hne]
  have e2 : (preC c (s.drop k)).length = (preC c (s.drop (k + 1))).length + 1 := by rw [drop_at h]; simp [preC, hne]
  rw [untV, untV, e1, e2]
  split
  · congr 1; omega
  · rfl
theorem unt_end {s : List UInt8} {k : Nat} {c : UInt8} (h : s.length ≤ k) : untV s k c = -1 := by
  rw [untV, List.drop_eq_nil_of_le h]; rfl
set_option maxHeartbeats 1000000 in
theorem until_x (s : List UInt8) (i0 : Nat) (c : UInt8) (w : World) (hs : s.length ≤ 1000000) (hi : i0 ≤ s.length) :
    Calls Try.prog 33 #[.string (mkS s), .int .i64 (i0 : Int), .int .u8 (c.toNat : Int)] w fun e w' => e = .returned (.int .i64 (untV s i0 c)) ∧ w = w' := by
  have hms := mkS_size s
  obtain ⟨q0, hq0⟩ : ∃ q0, untV s i0 c = q0 := ⟨_, rfl⟩
  have HQ := Lib.hid hq0
  rw [hq0]
  clear hq0
  go_enter Try.func33, Try.ntmps33
  go_wp2_with fail
  go_loop [7] (fun i => ∃ k : Nat, k ≤ s.length ∧ i = .int .i64 k ∧ Hid (untV s k c = q0)) (fun i => s.length - (intOf i).toNat)
  case atStart => exact ⟨i0, hi, rfl, HQ⟩
  case round =>
    obtain ⟨k, hk, rfl, HU⟩ := hrel
    by_cases hlt : k < s.length
    · obtain ⟨x, hx⟩ : ∃ x : UInt8, (mkS s)[k]'(by omega) = x := ⟨_, rfl⟩
      have hX : s[k]? = some x := by rw [← hx]; have := Lib.data_getElem? (mkS s) k (by omega); rwa [mkS_data] at this
      have d1 : ((x.toNat : Int) == (c.toNat : Int)) = (x == c) := by rw [byte_beq x c.toNat c.toNat_lt _ rfl]; simp
      cases hq : (x == c)
      · rw [hq] at d1
        have HN := Lib.hid (show untV s (k + 1) c = q0 by rw [← unt_step hX hq]; exact HU.out)
        clear hX hq
        go_wp2_with fail
        go_round
        case rel => exact ⟨k + 1, by omega, by go_num, HN⟩
        case measure => simp [intOf]; omega
      · rw [hq] at d1
        have HN := Lib.hid (show (k : Int) = q0 by rw [← HU.out]; exact (unt_yes (by rw [hX, eq_of_beq hq])).symm)
        clear hX hq
        go_wp2_with fail
        go_ret
        exact ⟨ret_int HN.out, rfl⟩
    · have HN := Lib.hid (show (-1 : Int) = q0 by rw [← HU.out]; exact (unt_end (by omega)).symm)
      go_wp2_with fail
      go_ret
      exact ⟨ret_int HN.out, rfl⟩
set_option maxHeartbeats 1000000 in
theorem rdomain_x (s : List UInt8) (w : World) : Calls Try.prog 14 #[.string (mkS s)] w (DomPost s w) := by
  have hms := mkS_size s
  have HV := Lib.hid (show domainE s = if 255 < s.length then 3 else if labels s then 0 else 2 from rfl)
  by_cases h1 : 255 < s.length
  · have d1 : decide ((255 : Int) < (s.length : Int)) = true := decide_eq_true (by omega)
    have HD := Lib.hid (show domainE s = 3 by rw [HV.out, if_pos h1])
    clear h1
    go_enter Try.func14, Try.ntmps14
    go_wp2_with fail
    go_ret2
    exact dom_no HD.out (by decide) (Below.refl _ _)
  · have d1 : decide ((255 : Int) < (s.length : Int)) = false := decide_eq_false (by omega)
    have HL := Lib.hid (fun w => rlabels_x s w (by omega))
    have HS := Lib.hid (fun w => lower_x s w (by omega))
    rw [if_neg h1] at HV
    generalize labels s = q at HL HV
    clear h1
    go_enter Try.func14, Try.ntmps14
    go_wp2_with fail
    refine (HL.out _).mono ?_
    rintro e w1 ⟨rfl, hb1⟩
    have HB1 := Lib.hid hb1
    clear hb1
    cases q
    · go_wp2_with fail
      go_ret2
      exact dom_no (by rw [HV.out]; rfl) (by decide) HB1.out
    · go_wp2_with fail
      refine (HS.out _).mono ?_
      rintro e w2 ⟨rfl, hb2⟩
      have HB2 := Lib.hid (below_next HB1.out hb2)
      clear hb2
      go_wp2_with fail
      go_ret2
      exact dom_yes (by rw [HV.out]; rfl) HB2.out

/-- A path of the reference's in its box, block g; nothing that lay ahead has turned. -/
structure RX (W : World) (g : Nat) (p : Pth) (w : World) : Prop where
  box : w.heap[g]? = some (.cells #[.string (mkS p.1), .string (mkS p.2)] 25 (0, 0))
  below : Below W.heap.size W w
theorem rx_new {W w : World} (h : Below W.heap.size W w) (p : Pth) : RX W w.heap.size p (w.alloc (.cells #[.string (mkS p.1), .string (mkS p.2)] 25)) := ⟨newOf w _, h.alloc h.size _⟩
theorem RX.next {W w w' : World} {g : Nat} {p : Pth} (h : RX W g p w) (hb : Below w.heap.size w w') : RX W g p w' := ⟨(hb.block _ (ltOf h.box)).trans h.box, below_next h.below hb⟩
theorem RX.drew {W w : World} {g : Nat} {p : Pth} (h : RX W g p w) : RX W g p w.drew := ⟨h.box, ⟨h.below.os, h.below.tape, h.below.output, h.below.size, h.below.block⟩⟩
theorem RX.quiet {W : World} {g : Nat} {p : Pth} {Y : Type} {F : Y → World} {y : Y} (h : (∀ y, RX W g p (F y)) ∧ (∀ w', RX W g p w' → ∃ y, w' = F y)) {f : FuncId} {args : Array Value} {v : Value} (H : Calls Try.prog f args (F y) fun e w' => e = .returned v ∧ Below (F y).heap.size (F y) w') :
    Calls Try.prog f args (F y) fun e w' => e = .returned v ∧ ∃ y, w' = F y := H.mono fun _ _ ⟨he, hb⟩ => ⟨he, h.2 _ ((h.1 y).next hb)⟩
theorem right_bools : ∀ q1 qa qb qc qd qe qf : Bool, (if q1 then (3 : Int) else if ((qa && qb) || (qc && qb)) || (!qa && qf && qd && qe) then 0 else 2) = if q1 then 3 else if qb && (qa || qc) then 0 else if qa || !qd || !qe then 2 else if qf then 0 else 2 := by decide
theorem right_parts (p : Pth) : rightE p = if decide (64 < p.1.length) || decide (255 < p.2.length) then 3 else if (p.2 == []) && ((p.1 == []) || (p.1 == pmL)) then 0 else if (p.1 == []) || !labels p.2 || !(smallL p.2 == p.2) then 2 else if p.1.all printB then 0 else 2 := by
  exact right_bools (decide (64 < p.1.length) || decide (255 < p.2.length)) (p.1 == []) (p.2 == []) (p.1 == pmL) (labels p.2) (smallL p.2 == p.2) (p.1.all printB)
set_option maxHeartbeats 8000000 in
theorem rright_x (p : Pth) (w : World) : Calls Try.prog 16 #[.agg #[.string (mkS p.1), .string (mkS p.2)]] w fun e w' => e = .returned (.int .i64 (rightE p)) ∧ Below w.heap.size w w' := by
  have HV := Lib.hid (right_parts p)
  have HP := Lib.hid (rx_new (Below.refl w.heap.size w) p)
  have z1 := mkS_size p.1
  have z2 := mkS_size p.2
  have c0 := cellOf HP.out.box 0
  have c1 := cellOf HP.out.box 1
  by_cases h1 : 64 < p.1.length
  · have d1 : decide ((64 : Int) < (p.1.length : Int)) = true := decide_eq_true (by omega)
    have HE := Lib.hid (show rightE p = 3 by rw [HV.out, decide_eq_true h1]; rfl)
    go_enter Try.func16, Try.ntmps16
    go_wp2_with fail
    go_ret
    exact ⟨ret_int HE.out.symm, HP.out.below⟩
  have d1 : decide ((64 : Int) < (p.1.length : Int)) = false := decide_eq_false (by omega)
  by_cases h2 : 255 < p.2.length
  · have d2 : decide ((255 : Int) < (p.2.length : Int)) = true := decide_eq_true (by omega)
    have HE := Lib.hid (show rightE p = 3 by rw [HV.out, decide_eq_true h2, Bool.or_true]; rfl)
    go_enter Try.func16, Try.ntmps16
    go_wp2_with fail
    go_ret
    exact ⟨ret_int HE.out.symm, HP.out.below⟩
  have d2 : decide ((255 : Int) < (p.2.length : Int)) = false := decide_eq_false (by omega)
  have HL := Lib.hid (fun w => rlabels_x p.2 w (by omega))
  have HS := Lib.hid (fun w => lower_x p.2 w (by omega))
  rw [decide_eq_false h1, decide_eq_false h2] at HV
  have hT1 := mkS_toList p.1
  have hT2 := mkS_toList p.2
  have hT3 := mkS_toList (smallL p.2)
  have hpm : (p.1 == [112, 111, 115, 116, 109, 97, 115, 116, 101, 114]) = (p.1 == pmL) := rfl
  have hem1 : p.1.isEmpty = (p.1 == []) := by cases p.1 <;> rfl
  have hem2 : p.2.isEmpty = (p.2 == []) := by cases p.2 <;> rfl
  have hde1 : decide (p.1 = []) = (p.1 == []) := by cases p.1 <;> rfl
  have hl1 : p.1.length ≤ 64 := by omega
  generalize labels p.2 = qd at HL HV
  generalize hqa : (p.1 == []) = qa at HV hem1 hde1
  generalize hqb : (p.2 == []) = qb at HV hem2
  generalize hqc : (p.1 == pmL) = qc at HV hpm
  generalize hqe : (smallL p.2 == p.2) = qe at HV
  have HQC := Lib.hid hqc
  clear hqc
  obtain ⟨Y, F, y0, hy0, hF, hS⟩ : ∃ (Y : Type) (F : Y → World) (y0 : Y), F y0 = (w.alloc (.cells #[.string (mkS p.1), .string (mkS p.2)] 25)).drew ∧ (∀ y, RX w w.heap.size p (F y)) ∧ (∀ w', RX w w.heap.size p w' → ∃ y, w' = F y) :=
    ⟨{ w' // RX w w.heap.size p w' }, Subtype.val, ⟨_, HP.out.drew⟩, rfl, fun y => y.2, fun w' h => ⟨⟨w', h⟩, rfl⟩⟩
  have hne : Nonempty Y := ⟨y0⟩
  have hF0 := fun y => cellOf (hF y).box 0
  have hF1 := fun y => cellOf (hF y).box 1
  have HFS := Lib.hid (And.intro hF hS)
  clear hF hS
  cases qb
  · cases qa
    · cases qd
      · have HE := Lib.hid (show rightE p = 2 by rw [HV.out]; rfl)
        go_enter Try.func16, Try.ntmps16
        go_wp2_with fail
        refine region_in (by kernel_rfl) (by kernel_rfl) F y0 hy0 ?_
        repeat (go_big_quiet_step (first
          | (go_at_call 34; exact RX.quiet HFS.out (HL.out _))
          | (go_at_call 32; exact RX.quiet HFS.out (HS.out _))))
        refine wpQuiet_nil ?_
        rintro _ ⟨y, rfl⟩
        have HF := Lib.hid (HFS.out.1 y).below
        clear hF0 hF1 hy0
        go_wp2_with fail
        go_ret
        exact ⟨ret_int HE.out.symm, HF.out⟩
      · cases qe
        · have HE := Lib.hid (show rightE p = 2 by rw [HV.out]; rfl)
          go_enter Try.func16, Try.ntmps16
          go_wp2_with fail
          refine region_in (by kernel_rfl) (by kernel_rfl) F y0 hy0 ?_
          repeat (go_big_quiet_step (first
            | (go_at_call 34; exact RX.quiet HFS.out (HL.out _))
            | (go_at_call 32; exact RX.quiet HFS.out (HS.out _))))
          refine wpQuiet_nil ?_
          rintro _ ⟨y, rfl⟩
          have HF := Lib.hid (HFS.out.1 y).below
          clear hF0 hF1 hy0
          go_wp2_with fail
          go_ret
          exact ⟨ret_int HE.out.symm, HF.out⟩
        · have HE := Lib.hid (show rightE p = if p.1.all printB then 0 else 2 by rw [HV.out]; rfl)
          go_enter Try.func16, Try.ntmps16
          go_wp2_with fail
          refine region_in (by kernel_rfl) (by kernel_rfl) F y0 hy0 ?_
          repeat (go_big_quiet_step (first
            | (go_at_call 34; exact RX.quiet HFS.out (HL.out _))
            | (go_at_call 32; exact RX.quiet HFS.out (HS.out _))))
          refine wpQuiet_nil ?_
          rintro _ ⟨y, rfl⟩
          have HF := Lib.hid (HFS.out.1 y).below
          have k0 : (F y).cell? ⟨w.heap.size, 0, none⟩ = some (.string (mkS p.1)) := hF0 y
          clear hF0 hF1 hy0
          generalize F y = wq at HF k0 ⊢
          go_wp2_with fail
          go_loop [3] (fun i => ∃ j : Nat, j ≤ p.1.length ∧ i = .int .i64 j ∧ Hid ((p.1.take j).all printB = true)) (fun i => p.1.length - (intOf i).toNat)
          case atStart => exact ⟨0, Nat.zero_le _, rfl, by simp [Hid]⟩
          case round =>
            obtain ⟨j, hj, rfl, HJ⟩ := hrel
            by_cases hjl : j < p.1.length
            · obtain ⟨z, hz⟩ : ∃ z : UInt8, (mkS p.1)[j]'(by omega) = z := ⟨_, rfl⟩
              have hZ : p.1[j]? = some z := by rw [← hz]; have := Lib.data_getElem? (mkS p.1) j (by omega); rwa [mkS_data] at this
              have hz256 := z.toNat_lt
              have HZ := Lib.hid (show printB z = (decide (32 ≤ z.toNat) && decide (z.toNat ≤ 126)) from rfl)
              have HZN := Lib.hid (fun h : printB z = false => (all_not hZ h : p.1.all printB = false))
              have HZY := Lib.hid (fun h : printB z = true => all_take hZ HJ.out h)
              clear hZ
              by_cases h3 : z.toNat < 32
              · have e1 : decide ((z.toNat : Int) < 32) = true := decide_eq_true (by omega)
                have HB := Lib.hid (show rightE p = 2 by rw [HE.out, HZN.out (by rw [HZ.out, decide_eq_false (by omega)]; rfl)]; rfl)
                go_wp2_with fail
                go_ret
                exact ⟨ret_int HB.out.symm, HF.out⟩
              · have e1 : decide ((z.toNat : Int) < 32) = false := decide_eq_false (by omega)
                by_cases h4 : 126 < z.toNat
                · have e2 : decide ((126 : Int) < (z.toNat : Int)) = true := decide_eq_true (by omega)
                  have HB := Lib.hid (show rightE p = 2 by rw [HE.out, HZN.out (by rw [HZ.out, decide_eq_false (show ¬ z.toNat ≤ 126 by omega), Bool.and_false])]; rfl)
                  go_wp2_with fail
                  go_ret
                  exact ⟨ret_int HB.out.symm, HF.out⟩
                · have e2 : decide ((126 : Int) < (z.toNat : Int)) = false := decide_eq_false (by omega)
                  have HN := Lib.hid (HZY.out (by rw [HZ.out, decide_eq_true (by omega), decide_eq_true (by omega)]; rfl))
                  go_wp2_with fail
                  go_round
                  case rel => exact ⟨j + 1, by omega, by go_num, HN⟩
                  case measure => simp [intOf]; omega
            · have ha := HJ.out
              rw [List.take_of_length_le (by omega)] at ha
              have HB := Lib.hid (show rightE p = 0 by rw [HE.out, ha]; rfl)
              clear ha
              go_wp2_with fail
              go_ret
              exact ⟨ret_int HB.out.symm, HF.out⟩
    · have HE := Lib.hid (show rightE p = 2 by rw [HV.out]; rfl)
      go_enter Try.func16, Try.ntmps16
      go_wp2_with fail
      refine region_in (by kernel_rfl) (by kernel_rfl) F y0 hy0 ?_
      repeat (go_big_quiet_step (first
        | (go_at_call 34; exact RX.quiet HFS.out (HL.out _))
        | (go_at_call 32; exact RX.quiet HFS.out (HS.out _))))
      refine wpQuiet_nil ?_
      rintro _ ⟨y, rfl⟩
      have HF := Lib.hid (HFS.out.1 y).below
      clear hF0 hF1 hy0
      go_wp2_with fail
      go_ret
      exact ⟨ret_int HE.out.symm, HF.out⟩
  · cases qa
    · cases qc
      · cases qd
        · have HE := Lib.hid (show rightE p = 2 by rw [HV.out]; rfl)
          go_enter Try.func16, Try.ntmps16
          go_wp2_with fail
          refine region_in (by kernel_rfl) (by kernel_rfl) F y0 hy0 ?_
          repeat (go_big_quiet_step (first
            | (go_at_call 34; exact RX.quiet HFS.out (HL.out _))
            | (go_at_call 32; exact RX.quiet HFS.out (HS.out _))))
          refine wpQuiet_nil ?_
          rintro _ ⟨y, rfl⟩
          have HF := Lib.hid (HFS.out.1 y).below
          clear hF0 hF1 hy0
          go_wp2_with fail
          go_ret
          exact ⟨ret_int HE.out.symm, HF.out⟩
        · cases qe
          · have HE := Lib.hid (show rightE p = 2 by rw [HV.out]; rfl)
            go_enter Try.func16, Try.ntmps16
            go_wp2_with fail
            refine region_in (by kernel_rfl) (by kernel_rfl) F y0 hy0 ?_
            repeat (go_big_quiet_step (first
              | (go_at_call 34; exact RX.quiet HFS.out (HL.out _))
              | (go_at_call 32; exact RX.quiet HFS.out (HS.out _))))
            refine wpQuiet_nil ?_
            rintro _ ⟨y, rfl⟩
            have HF := Lib.hid (HFS.out.1 y).below
            clear hF0 hF1 hy0
            go_wp2_with fail
            go_ret
            exact ⟨ret_int HE.out.symm, HF.out⟩
          · have HE := Lib.hid (show rightE p = if p.1.all printB then 0 else 2 by rw [HV.out]; rfl)
            go_enter Try.func16, Try.ntmps16
            go_wp2_with fail
            refine region_in (by kernel_rfl) (by kernel_rfl) F y0 hy0 ?_
            repeat (go_big_quiet_step (first
              | (go_at_call 34; exact RX.quiet HFS.out (HL.out _))
              | (go_at_call 32; exact RX.quiet HFS.out (HS.out _))))
            refine wpQuiet_nil ?_
            rintro _ ⟨y, rfl⟩
            have HF := Lib.hid (HFS.out.1 y).below
            have k0 : (F y).cell? ⟨w.heap.size, 0, none⟩ = some (.string (mkS p.1)) := hF0 y
            clear hF0 hF1 hy0
            generalize F y = wq at HF k0 ⊢
            go_wp2_with fail
            go_loop [3] (fun i => ∃ j : Nat, j ≤ p.1.length ∧ i = .int .i64 j ∧ Hid ((p.1.take j).all printB = true)) (fun i => p.1.length - (intOf i).toNat)
            case atStart => exact ⟨0, Nat.zero_le _, rfl, by simp [Hid]⟩
            case round =>
              obtain ⟨j, hj, rfl, HJ⟩ := hrel
              by_cases hjl : j < p.1.length
              · obtain ⟨z, hz⟩ : ∃ z : UInt8, (mkS p.1)[j]'(by omega) = z := ⟨_, rfl⟩
                have hZ : p.1[j]? = some z := by rw [← hz]; have := Lib.data_getElem? (mkS p.1) j (by omega); rwa [mkS_data] at this
                have hz256 := z.toNat_lt
                have HZ := Lib.hid (show printB z = (decide (32 ≤ z.toNat) && decide (z.toNat ≤ 126)) from rfl)
                have HZN := Lib.hid (fun h : printB z = false => (all_not hZ h : p.1.all printB = false))
                have HZY := Lib.hid (fun h : printB z = true => all_take hZ HJ.out h)
                clear hZ
                by_cases h3 : z.toNat < 32
                · have e1 : decide ((z.toNat : Int) < 32) = true := decide_eq_true (by omega)
                  have HB := Lib.hid (show rightE p = 2 by rw [HE.out, HZN.out (by rw [HZ.out, decide_eq_false (by omega)]; rfl)]; rfl)
                  go_wp2_with fail
                  go_ret
                  exact ⟨ret_int HB.out.symm, HF.out⟩
                · have e1 : decide ((z.toNat : Int) < 32) = false := decide_eq_false (by omega)
                  by_cases h4 : 126 < z.toNat
                  · have e2 : decide ((126 : Int) < (z.toNat : Int)) = true := decide_eq_true (by omega)
                    have HB := Lib.hid (show rightE p = 2 by rw [HE.out, HZN.out (by rw [HZ.out, decide_eq_false (show ¬ z.toNat ≤ 126 by omega), Bool.and_false])]; rfl)
                    go_wp2_with fail
                    go_ret
                    exact ⟨ret_int HB.out.symm, HF.out⟩
                  · have e2 : decide ((126 : Int) < (z.toNat : Int)) = false := decide_eq_false (by omega)
                    have HN := Lib.hid (HZY.out (by rw [HZ.out, decide_eq_true (by omega), decide_eq_true (by omega)]; rfl))
                    go_wp2_with fail
                    go_round
                    case rel => exact ⟨j + 1, by omega, by go_num, HN⟩
                    case measure => simp [intOf]; omega
              · have ha := HJ.out
                rw [List.take_of_length_le (by omega)] at ha
                have HB := Lib.hid (show rightE p = 0 by rw [HE.out, ha]; rfl)
                clear ha
                go_wp2_with fail
                go_ret
                exact ⟨ret_int HB.out.symm, HF.out⟩
      · have HE := Lib.hid (show rightE p = 0 by rw [HV.out]; rfl)
        go_enter Try.func16, Try.ntmps16
        go_wp2_with fail
        go_ret
        exact ⟨ret_int HE.out.symm, HP.out.below⟩
    · have HE := Lib.hid (show rightE p = 0 by rw [HV.out]; rfl)
      go_enter Try.func16, Try.ntmps16
      go_wp2_with fail
      go_ret
      exact ⟨ret_int HE.out.symm, HP.out.below⟩
end Go.Proofs.Ytamjoleknjmpoaa
