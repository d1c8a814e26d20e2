/-
  The walk of heap's down over the row behind the wheels.
-/
import Derived.Test.YtmmghdnlppjgbaaWhUp
namespace Go.Proofs.Ytmmghdnlppjgbaa
set_option maxRecDepth 100000
open Go.RowKit
section
variable {O : Nat → Prop} {b : Nat} {n : Int} {mt : Nat} {sv : Nat → Option Nat} {v : Value} {L : List Hd} {w : World}
/-- What a way down leaves: in order, if it moved; else but for the one above. -/
def Downed (m i0 : Nat) (K : Nat → Int) (moved : Bool) : Prop := (moved = true → HOrd m K) ∧ (moved = false → UOk m K i0)
structure DnI (O : Nat → Prop) (b : Nat) (n : Int) (mt : Nat) (sv : Nat → Option Nat) (v : Value) (L L' : List Hd) (m i0 i : Nat) (w wr : World) : Prop where
  hp : HP O b n mt sv v L L' m w wr
  ok : DOk m (keyL L') i
  le : i0 ≤ i
  up : i0 < i → Above (keyL L') i
theorem DnI.drewN {L' : List Hd} {m i0 i : Nat} {wr : World} (h : DnI O b n mt sv v L L' m i0 i w wr) (q : Nat) : DnI O b n mt sv v L L' m i0 i w (wr.drewN q) := ⟨h.hp.drewN q, h.ok, h.le, h.up⟩
theorem DnI.over {L' : List Hd} {m i0 i : Nat} {wr : World} (h : DnI O b n mt sv v L L' m i0 i w wr) (hm : ∀ c, kid i c → c < m → keyL L' i ≤ keyL L' c) : HP O b n mt sv v L L' m w wr ∧ Downed m i0 (keyL L') (decide (i0 < i)) := by
  refine ⟨h.hp, fun hd => ?_, fun hd => ?_⟩
  · exact up_end (down_end h.ok hm) (h.up (by simpa using hd))
  · have : i = i0 := by have := h.le; simp at hd; omega
    subst this
    exact down_end h.ok hm
theorem DnI.step {L' : List Hd} {m i0 i j : Nat} {wr w' : World} (h : DnI O b n mt sv v L L' m i0 i w wr) (hj : kid i j) (hn : j < m) (hmL : m ≤ L.length) (hm : ∀ c, kid i c → c < m → keyL L' j ≤ keyL L' c) (hl : keyL L' j ≤ keyL L' i)
    (h2 : HS O b n mt sv v (swL L' i j) w' ∧ Fr O wr w') : DnI O b n mt sv v L (swL L' i j) m i0 j w w' := by
  have hij := kid_lt hj
  have e : keyL (swL L' i j) = swK (keyL L') i j := funext (keyL_sw (by rw [h.hp.len]; omega) (by rw [h.hp.len]; omega))
  obtain ⟨d1, d2, d3⟩ := down_step h.ok hj hn hm hl
  exact ⟨h.hp.swap (by omega) hn hmL h2, by rw [e]; exact d1, by have := h.le; omega, fun _ => by rw [e]; exact d3⟩
set_option maxHeartbeats 4000000 in
theorem down_x (h : HS O b n mt sv v L w) (hl : 0 < L.length) {i0 m : Nat} (hi0 : i0 ≤ m) (hm : m ≤ L.length) (hu : DOk m (keyL L) i0) :
    Calls Try.prog 32 #[lsI b, .int .i64 i0, .int .i64 m] w fun e w' => ∃ mv, e = .returned (.bool mv) ∧ ∃ L', HP O b n mt sv v L L' m w w' ∧ Downed m i0 (keyL L') mv := by
  obtain ⟨g, cap, rfl, _⟩ := h.form hl
  have HM := Lib.hid hm
  have few := h.few
  have hml : m ≤ 1000000 := by omega
  have H0 := Lib.hid (⟨HP.refl h m, hu, Nat.le_refl _, fun e => by omega⟩ : DnI O b n mt sv (.slice (some ⟨g, 0, none⟩) L.length cap) L L m i0 i0 w w)
  clear h hu hm few hl
  go_enter Try.func32, Try.ntmps32
  go_wp2_with fail
  go_loopw [7] (fun s wr => ∃ i L', s = .int .i64 (i : Nat) ∧ i ≤ m ∧ Hid (DnI O b n mt sv (.slice (some ⟨g, 0, none⟩) L.length cap) L L' m i0 i w wr)) (fun s _ => m - (intOf s).toNat)
  case atStart => exact ⟨i0, L, rfl, hi0, H0⟩
  case round =>
    obtain ⟨i, L', rfl, hi, HR⟩ := hrel
    have hw := HR.out.hp.hs.wb.list
    by_cases h1 : 2 * i + 1 < m
    · obtain ⟨xi, hxi⟩ := at_some (L := L') (k := i) (by rw [HR.out.hp.len]; have := HM.out; omega)
      obtain ⟨x1, hx1⟩ := at_some (L := L') (k := 2 * i + 1) (by rw [HR.out.hp.len]; have := HM.out; omega)
      have e1 : decide ((m : Int) ≤ 2 * (i : Int) + 1) = false := decide_eq_false (by omega)
      have e2 : decide (2 * (i : Int) + 1 < 0) = false := decide_eq_false (by omega)
      by_cases h2 : 2 * i + 2 < m
      · have e3 : decide (2 * (i : Int) + 1 + 1 < (m : Int)) = true := decide_eq_true (by omega)
        obtain ⟨x2, hx2⟩ := at_some (L := L') (k := 2 * i + 2) (by rw [HR.out.hp.len]; have := HM.out; omega)
        cases hc : decide (x2.f < x1.f) with
        | true =>
          have hcc := hc
          have HLA := Lib.hid (less_x HR.out.hp.hs hx2 hx1)
          rw [show (((2 * i + 2 : Nat) : Int)) = 2 * (i : Int) + 1 + 1 by omega, show (((2 * i + 1 : Nat) : Int)) = 2 * (i : Int) + 1 by omega, hc] at HLA
          have HLB := Lib.hid (fun q => less_x (HR.out.hp.hs.drewN q) hx2 hxi)
          have HSW := Lib.hid (fun p => swap_x (HR.out.hp.hs.drewN p) hxi hx2)
          have mL := meth_less hw
          have mL2 := fun q => meth_less (w := wr.drewN q) hw
          have mS := fun p => meth_swap (w := wr.drewN p) hw
          rw [show (((2 * i + 2 : Nat) : Int)) = 2 * (i : Int) + 1 + 1 by omega] at HLB HSW
          have eL := enter_less
          have eS := enter_swap
          have HK : Hid (kid i (2 * i + 2) ∧ (2 * i + 2) < m ∧ ∀ c, kid i c → c < m → keyL L' (2 * i + 2) ≤ keyL L' c) := Lib.hid ⟨Or.inr rfl, h2, fun c hc _ => by
            rcases hc with rfl | rfl
            · rw [keyL_at hx1, keyL_at hx2]; have := of_decide_eq_true hcc; omega
            · exact Int.le_refl _⟩
          have HX := Lib.hid (And.intro hx2 hxi)
          clear hx1 hx2 hxi hw hcc
          cases hlt : decide (x2.f < xi.f) with
          | true =>
            simp only [hlt] at HLB
            go_wp2_with (first
              | (go_at_call 79; with_reducible refine HLA.out.mono ?_; rintro e w' ⟨rfl, q, rfl⟩)
              | (go_at_call 79; with_reducible refine (HLB.out _).mono ?_; rintro e w' ⟨rfl, p, rfl⟩)
              | (go_at_call 80; with_reducible refine (HSW.out _).mono ?_; rintro e w' ⟨rfl, hs2⟩))
            have HS2 := Lib.hid hs2
            clear hs2
            go_roundw
            case rel =>
              obtain ⟨k1, k2, k3⟩ := HK.out
              refine ⟨(2 * i + 2), swL L' i (2 * i + 2), congrArg (Value.int .i64) (by omega), by omega, Lib.hid ((HR.out.drewN _).step k1 k2 HM.out k3 ?_ HS2.out)⟩
              rw [keyL_at HX.out.1, keyL_at HX.out.2]
              have := of_decide_eq_true hlt
              omega
            case measure => simp [intOf]; omega
          | false =>
            simp only [hlt] at HLB
            go_wp2_with (first
              | (go_at_call 79; with_reducible refine HLA.out.mono ?_; rintro e w' ⟨rfl, q, rfl⟩)
              | (go_at_call 79; with_reducible refine (HLB.out _).mono ?_; rintro e w' ⟨rfl, p, rfl⟩))
            go_ret
            obtain ⟨k1, k2, k3⟩ := HK.out
            exact ⟨_, rfl, L', (HR.out.drewN _).over fun c hc hcm => Int.le_trans (by rw [keyL_at HX.out.1, keyL_at HX.out.2]; have := of_decide_eq_false hlt; omega) (k3 c hc hcm)⟩
        | false =>
          have hcc := hc
          have HLA := Lib.hid (less_x HR.out.hp.hs hx2 hx1)
          rw [show (((2 * i + 2 : Nat) : Int)) = 2 * (i : Int) + 1 + 1 by omega, show (((2 * i + 1 : Nat) : Int)) = 2 * (i : Int) + 1 by omega, hc] at HLA
          have HLB := Lib.hid (fun q => less_x (HR.out.hp.hs.drewN q) hx1 hxi)
          have HSW := Lib.hid (fun p => swap_x (HR.out.hp.hs.drewN p) hxi hx1)
          have mL := meth_less hw
          have mL2 := fun q => meth_less (w := wr.drewN q) hw
          have mS := fun p => meth_swap (w := wr.drewN p) hw
          rw [show (((2 * i + 1 : Nat) : Int)) = 2 * (i : Int) + 1 by omega] at HLB HSW
          have eL := enter_less
          have eS := enter_swap
          have HK : Hid (kid i (2 * i + 1) ∧ (2 * i + 1) < m ∧ ∀ c, kid i c → c < m → keyL L' (2 * i + 1) ≤ keyL L' c) := Lib.hid ⟨Or.inl rfl, h1, fun c hc _ => by
            rcases hc with rfl | rfl
            · exact Int.le_refl _
            · rw [keyL_at hx1, keyL_at hx2]; have := of_decide_eq_false hcc; omega⟩
          have HX := Lib.hid (And.intro hx1 hxi)
          clear hx1 hx2 hxi hw hcc
          cases hlt : decide (x1.f < xi.f) with
          | true =>
            simp only [hlt] at HLB
            go_wp2_with (first
              | (go_at_call 79; with_reducible refine HLA.out.mono ?_; rintro e w' ⟨rfl, q, rfl⟩)
              | (go_at_call 79; with_reducible refine (HLB.out _).mono ?_; rintro e w' ⟨rfl, p, rfl⟩)
              | (go_at_call 80; with_reducible refine (HSW.out _).mono ?_; rintro e w' ⟨rfl, hs2⟩))
            have HS2 := Lib.hid hs2
            clear hs2
            go_roundw
            case rel =>
              obtain ⟨k1, k2, k3⟩ := HK.out
              refine ⟨(2 * i + 1), swL L' i (2 * i + 1), congrArg (Value.int .i64) (by omega), by omega, Lib.hid ((HR.out.drewN _).step k1 k2 HM.out k3 ?_ HS2.out)⟩
              rw [keyL_at HX.out.1, keyL_at HX.out.2]
              have := of_decide_eq_true hlt
              omega
            case measure => simp [intOf]; omega
          | false =>
            simp only [hlt] at HLB
            go_wp2_with (first
              | (go_at_call 79; with_reducible refine HLA.out.mono ?_; rintro e w' ⟨rfl, q, rfl⟩)
              | (go_at_call 79; with_reducible refine (HLB.out _).mono ?_; rintro e w' ⟨rfl, p, rfl⟩))
            go_ret
            obtain ⟨k1, k2, k3⟩ := HK.out
            exact ⟨_, rfl, L', (HR.out.drewN _).over fun c hc hcm => Int.le_trans (by rw [keyL_at HX.out.1, keyL_at HX.out.2]; have := of_decide_eq_false hlt; omega) (k3 c hc hcm)⟩
      · have e3 : decide (2 * (i : Int) + 1 + 1 < (m : Int)) = false := decide_eq_false (by omega)
        have HLB := Lib.hid (less_x HR.out.hp.hs hx1 hxi)
        have HSW := Lib.hid (fun p => swap_x (HR.out.hp.hs.drewN p) hxi hx1)
        have mL := meth_less hw
        have mS := fun p => meth_swap (w := wr.drewN p) hw
        rw [show (((2 * i + 1 : Nat) : Int)) = 2 * (i : Int) + 1 by omega] at HLB HSW
        have eL := enter_less
        have eS := enter_swap
        have HK : Hid (kid i (2 * i + 1) ∧ (2 * i + 1) < m ∧ ∀ c, kid i c → c < m → keyL L' (2 * i + 1) ≤ keyL L' c) := Lib.hid ⟨Or.inl rfl, h1, fun c hc hcm => by
          rcases hc with rfl | rfl
          · exact Int.le_refl _
          · omega⟩
        have HX := Lib.hid (And.intro hx1 hxi)
        clear hx1 hxi hw
        cases hlt : decide (x1.f < xi.f) with
        | true =>
          rw [hlt] at HLB
          go_wp2_with (first
            | (go_at_call 79; with_reducible refine HLB.out.mono ?_; rintro e w' ⟨rfl, p, rfl⟩)
            | (go_at_call 80; with_reducible refine (HSW.out _).mono ?_; rintro e w' ⟨rfl, hs2⟩))
          have HS2 := Lib.hid hs2
          clear hs2
          go_roundw
          case rel =>
            obtain ⟨k1, k2, k3⟩ := HK.out
            refine ⟨(2 * i + 1), swL L' i (2 * i + 1), congrArg (Value.int .i64) (by omega), by omega, Lib.hid ((HR.out.drewN p).step k1 k2 HM.out k3 ?_ HS2.out)⟩
            rw [keyL_at HX.out.1, keyL_at HX.out.2]
            have := of_decide_eq_true hlt
            omega
          case measure => simp [intOf]; omega
        | false =>
          rw [hlt] at HLB
          go_wp2_with (first
            | (go_at_call 79; with_reducible refine HLB.out.mono ?_; rintro e w' ⟨rfl, p, rfl⟩))
          go_ret
          obtain ⟨k1, k2, k3⟩ := HK.out
          exact ⟨_, rfl, L', (HR.out.drewN p).over fun c hc hcm => Int.le_trans (by rw [keyL_at HX.out.1, keyL_at HX.out.2]; have := of_decide_eq_false hlt; omega) (k3 c hc hcm)⟩
    · have HE := Lib.hid (HR.out.over (fun c hc hcm => by unfold kid at hc; omega))
      have e1 : decide ((m : Int) ≤ 2 * (i : Int) + 1) = true := decide_eq_true (by omega)
      clear hw
      go_wp2_with fail
      go_ret
      exact ⟨_, rfl, L', HE.out⟩
end
end Go.Proofs.Ytmmghdnlppjgbaa
