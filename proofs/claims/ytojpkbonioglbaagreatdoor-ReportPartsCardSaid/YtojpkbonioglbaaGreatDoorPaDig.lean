/-
  The walk of the reference's Digits.
-/
import Derived.Test.YtojpkbonioglbaaGreatDoorPaSmall
import Derived.Test.YtojpkbonioglbaaGreatDoorMaPure
import Derived.Test.YtojpkbonioglbaaGreatDoorMaBuild
import Derived.Deep.RegionHeld3
import Derived.Deep.RegionWith
import Derived.IntWalk
namespace Go.Proofs.YtojpkbonioglbaaGreatDoor
set_option maxRecDepth 100000
open Go.RowKit Go.Shelf
theorem conv_any (w : World) (x : Int) (n : Nat) (hn : n < 10) (hx : x = n) (c : Nat) (hc : c = w.heap.size) : (convert 84 9 (.slice (some ⟨c, 0, none⟩) 1 1)).run Tryz.prog (w.alloc (.cells #[.int .u8 (48 + x)] 5)) = .ok (.string (mkS [dg n])) (w.alloc (.cells #[.int .u8 (48 + x)] 5)) := by
  have e : (48 : Int) + x = ((dg n).toNat : Int) := by rw [dg_nat hn]; omega
  subst hc
  rw [e]
  exact conv_bytes _ _ [dg n] 1 1 rfl (cells_new w [dg n] #[.int .u8 ((dg n).toNat : Int)] rfl w.heap.size rfl)
theorem conv_kept {W w w' : World} {x : Int} {n : Nat} (hW : W.heap = (w.alloc (.cells #[.int .u8 (48 + x)] 5)).heap) (hn : n < 10) (hx : x = n) (hb : Below W.heap.size W w') : (convert 84 9 (.slice (some ⟨w.heap.size, 0, none⟩) 1 1)).run Tryz.prog w' = .ok (.string (mkS [dg n])) w' := by
  have e : (48 : Int) + x = ((dg n).toNat : Int) := by rw [dg_nat hn]; omega
  rw [e] at hW
  have h := cells_new w [dg n] #[.int .u8 ((dg n).toNat : Int)] rfl w.heap.size rfl
  refine conv_bytes _ _ [dg n] 1 1 rfl fun j v hj => ?_
  have h1 := h j v hj
  rw [hb.cell (p := (⟨w.heap.size, 0, none⟩ : Addr).add j) (by rw [add_block, hW]; show w.heap.size < _; simp)]
  rw [World.cell?_of_block (w := w.alloc (.cells #[.int .u8 ((dg n).toNat : Int)] 5)) (by rw [hW])]
  exact h1
theorem dig_b1 {w w' : World} (h : Below w.drew.heap.size w.drew w') : Below w.heap.size w w' := ⟨h.os, h.tape, h.output, h.size, h.block⟩
theorem dig_b2 {w w' : World} {o : Obj} (h : Below (w.alloc o).drew.heap.size (w.alloc o).drew w') : Below w.heap.size w w' := below_fresh (Below.refl _ w) (o := o) ⟨h.os, h.tape, h.output, h.size, h.block⟩
theorem cat_any (a b : List UInt8) : mkS a ++ mkS b = mkS (a ++ b) := mkS_cat a b
set_option maxHeartbeats 4000000 in
theorem dig_nat : ∀ (k u : Nat), u < 10 ^ (k + 1) → u ≤ 999999999 → ∀ w : World, Calls Tryz.prog 23 #[.int .i64 (u : Int)] w fun e w' => e = .returned (.string (mkS (Lib.decDigits u))) ∧ Below w.heap.size w w' := by
  intro k
  induction k with
  | zero =>
    intro u h hu w
    have h10 : u < 10 := by simpa using h
    have h10' : (u : Int) < 10 := by omega
    have h0' : (0 : Int) ≤ (u : Int) := by omega
    have hcv := conv_any w (u : Int) u h10 rfl _ rfl
    have HV := Lib.hid (show Lib.decDigits u = [dg u] from dec_1 h10)
    have q1 : IntKind.u8.wrap ((48 : Int) + u) = 48 + u := IntWalk.u8_in _ (by omega)
    clear h
    go_enter Tryz.func23, Tryz.ntmps23
    go_wp2_with fail
    go_ret
    exact ⟨by rw [HV.out]; rfl, (Below.refl _ w).alloc (Nat.le_refl _) _⟩
  | succ k ih =>
    intro u h hu w
    by_cases h10 : u < 10
    · exact ih u (by have := Nat.pow_le_pow_right (show 0 < 10 by decide) (show 1 ≤ k + 1 by omega); omega) hu w
    · have h10' : ¬ (u : Int) < 10 := by omega
      have h0' : (0 : Int) ≤ (u : Int) := by omega
      have HI := ih (u / 10) (by rw [Nat.div_lt_iff_lt_mul (by decide)]; rw [Nat.pow_succ] at h; exact h) (by omega)
      rw [show ((u / 10 : Nat) : Int) = (u : Int) / 10 by omega] at HI
      have HIh := Lib.hid HI
      have HV := Lib.hid (show Lib.decDigits u = Lib.decDigits (u / 10) ++ [dg (u % 10)] from dec_s h10)
      clear HI h ih
      have hm : u % 10 < 10 := Nat.mod_lt _ (by decide)
      have hx : (u : Int) % 10 = ((u % 10 : Nat) : Int) := by omega
      have HX := Lib.hid hx
      have hcv : ∀ (w : World) (c : Nat), c = w.heap.size → (convert 84 9 (.slice (some ⟨c, 0, none⟩) 1 1)).run Tryz.prog (w.alloc (.cells #[.int .u8 (48 + (u : Int) % 10)] 5)) = .ok (.string (mkS [dg (u % 10)])) (w.alloc (.cells #[.int .u8 (48 + (u : Int) % 10)] 5)) := fun w c hc => conv_any w _ _ hm hx c hc
      have hcvd : ∀ (w : World) (c : Nat), c = w.heap.size → (convert 84 9 (.slice (some ⟨c, 0, none⟩) 1 1)).run Tryz.prog (w.alloc (.cells #[.int .u8 (48 + (u : Int) % 10)] 5)).drew = .ok (.string (mkS [dg (u % 10)])) (w.alloc (.cells #[.int .u8 (48 + (u : Int) % 10)] 5)).drew := fun w c hc => by
        subst hc
        exact conv_kept (W := (w.alloc (.cells #[.int .u8 (48 + (u : Int) % 10)] 5)).drew) rfl hm hx (Below.refl _ _)
      have q1 : IntKind.u8.wrap ((48 : Int) + (u : Int) % 10) = 48 + (u : Int) % 10 := IntWalk.u8_in _ (by omega)
      have q3 : IntKind.i64.wrap ((u : Int) / 10) = (u : Int) / 10 := IntWalk.i64_in _ (by omega)
      have q4 : IntKind.i64.wrap ((48 : Int) + (u : Int) % 10) = 48 + (u : Int) % 10 := IntWalk.i64_in _ (by omega)
      have q2 : (u : Int).tmod 10 = (u : Int) % 10 := IntWalk.rem_in _ _ (by omega)
      have hlen : (Lib.decDigits (u / 10)).length ≤ 9 := (dd_all 8 (u / 10) (by omega)).2.1
      have hct := cat_any (Lib.decDigits (u / 10)) [dg (u % 10)]
      have hz := mkS_size (Lib.decDigits (u / 10))
      generalize Lib.decDigits (u / 10) = ds at HIh HV hlen hct hz
      have hz2 : ¬ 9223372036854775807 < (mkS ds).size + 1 := by omega
      have hz4 : ¬ 9223372036854775807 < ds.length + 1 := by omega
      have hz3 : (mkS [dg (u % 10)]).size = 1 := rfl
      clear hx
      go_enter Tryz.func23, Tryz.ntmps23
      go_wp2_with fail
      go_region_with (first
        | (go_at_call 23; (with_reducible refine (HIh.out _).mono ?_); rintro e w4 ⟨rfl, hb4⟩; (try have hcv2 := conv_kept (w := w) (by rfl) hm HX.out hb4)))
      · have HB := Lib.hid ((dig_b1 hb4).alloc (dig_b1 hb4).size (.cells #[.int .u8 (48 + (u : Int) % 10)] 5))
        clear hb4
        go_simp
        go_wp2_with fail
        go_ret
        exact ⟨by rw [HV.out]; rfl, HB.out⟩
      all_goals
        have HB := Lib.hid (dig_b2 hb4)
        clear hb4 hcv2
        go_simp
        go_wp2_with fail
        go_ret
        exact ⟨by rw [HV.out]; rfl, HB.out⟩
/-- Of a number of either sign. -/
theorem digits_x (n : Int) (w : World) (h1 : -999999999 ≤ n) (h2 : n ≤ 999999999) : Calls Tryz.prog 23 #[.int .i64 n] w fun e w' => e = .returned (.string (mkS (Lib.itoa n))) ∧ Below w.heap.size w w' := by
  by_cases h : n < 0
  · obtain ⟨u, hu⟩ : ∃ u : Nat, -n = u := ⟨(-n).toNat, by omega⟩
    have HD := Lib.hid (dig_nat 8 u (by omega) (by omega) w)
    have HV := Lib.hid (show Lib.itoa n = 45 :: Lib.decDigits u by rw [Lib.itoa, if_pos h]; congr 2; omega)
    have q1 : IntKind.i64.wrap (-n) = (u : Int) := by rw [hu]; exact IntWalk.i64_in _ (by omega)
    have hlen : (Lib.decDigits u).length ≤ 9 := (dd_all 8 u (by omega)).2.1
    have hz := mkS_size (Lib.decDigits u)
    have hct : ({ data := #[45] } : ByteArray) ++ mkS (Lib.decDigits u) = mkS (45 :: Lib.decDigits u) := mkS_cat [45] _
    generalize Lib.decDigits u = ds at HD HV hlen hz hct
    have hz4 : ¬ 9223372036854775807 < 1 + ds.length := by omega
    clear hu
    go_enter Tryz.func23, Tryz.ntmps23
    go_wp2_with fail
    refine HD.out.mono ?_
    rintro e w' ⟨rfl, hb⟩
    have HB := Lib.hid hb
    clear hb
    go_wp2_with fail
    go_ret
    exact ⟨by rw [HV.out]; rfl, HB.out⟩
  · obtain ⟨u, rfl⟩ : ∃ u : Nat, n = u := ⟨n.toNat, by omega⟩
    rw [Lib.itoa, if_neg h]
    exact dig_nat 8 u (by omega) (by omega) w
end Go.Proofs.YtojpkbonioglbaaGreatDoor
