/-
  The walks of width and slot; of Now.
-/
import Derived.Test.YtmmghdnlppjgbaaWhBox
import Derived.Test.YtmmghdnlppjgbaaWhSpec
namespace Go.Proofs.Ytmmghdnlppjgbaa
set_option maxRecDepth 100000
open Go.RowKit
theorem width_x (l : Nat) (hl : l ≤ 4) (w : World) : Calls Try.prog 30 #[.int .i64 l] w fun e w' => e = .returned (.int .i64 (wd l)) ∧ w' = w := by
  go_enter Try.func30, Try.ntmps30
  go_wp2_with fail
  go_loop [3, 5] (fun s u => ∃ k : Nat, k ≤ l ∧ u = .int .i64 k ∧ s = .int .i64 (wd k)) (fun _ u => l - (intOf u).toNat)
  case atStart => exact ⟨0, Nat.zero_le _, rfl, rfl⟩
  case round =>
    obtain ⟨k, hk, rfl, rfl⟩ := hrel
    by_cases hlt : k < l
    · have e0 : IntKind.i64.wrap (wd k * 64) = wd (k + 1) := by
        have : k = 0 ∨ k = 1 ∨ k = 2 ∨ k = 3 := by omega
        rcases this with rfl | rfl | rfl | rfl <;> decide
      go_wp2_with fail
      go_round
      case rel => exact ⟨k + 1, by omega, by simp, by simp⟩
      case measure => simp [intOf]; omega
    · have : k = l := by omega
      subst this
      go_wp2_with fail
      go_ret
      exact ⟨rfl, rfl⟩
section
variable {w : World} {b : Nat} {n : Int} {mt : Nat} {sv : Nat → Option Nat} {v : Value}
theorem now_x (h : WB w b n mt sv v) : Calls Try.prog 18 #[.pointer (some ⟨b, 0, none⟩)] w fun e w' => e = .returned (.int .i64 n) ∧ w' = w := by
  have c0 := h.now
  clear h
  go_enter Try.func18, Try.ntmps18
  go_wp2_with fail
  go_ret
  exact ⟨rfl, rfl⟩
set_option maxHeartbeats 2000000 in
theorem slot_x (b l : Nat) (f : Int) (hl : l < 4) (hf : 0 ≤ f) (hf2 : f ≤ 9223372036854775807) (w : World) : Calls Try.prog 24 #[.pointer (some ⟨b, 0, none⟩), .int .i64 l, .int .i64 f] w fun e w' => e = .returned (.pointer (some ⟨b, 2 + slotN l f, none⟩)) ∧ ∃ m, w' = w.drewN m := by
  have hp := wd_pos l
  have h1 : f.tdiv (wd l) = f / wd l := Int.tdiv_eq_ediv_of_nonneg hf
  have h0 : 0 ≤ f / wd l := Int.ediv_nonneg hf (by omega)
  have h3 : (f / wd l).tmod 64 = (f / wd l) % 64 := Int.tmod_eq_emod_of_nonneg h0
  have h4 := Int.emod_nonneg (f / wd l) (show (64 : Int) ≠ 0 by decide)
  have h5 := Int.emod_lt_of_pos (f / wd l) (show (0 : Int) < 64 by decide)
  have h6 : f / wd l ≤ f := Int.ediv_le_self _ hf
  have hw : IntKind.i64.wrap (f / wd l) = f / wd l := by rw [IntWalk.i64_in] <;> omega
  have hz : ((wd l == 0) = false) := by simp; omega
  have HS := Lib.hid (show 2 + slotN l f = 2 + l * 64 + ((f / wd l) % 64).toNat by unfold slotN; omega)
  rw [HS.out]
  generalize hq : f / wd l = q at *
  generalize hr : q % 64 = r at *
  obtain ⟨i, rfl⟩ : ∃ i : Nat, r = i := ⟨r.toNat, by omega⟩
  clear HS
  generalize hd : wd l = d at *
  have HW := Lib.hid (width_x l (by omega))
  rw [hd] at HW
  clear hr hd
  go_enter Try.func24, Try.ntmps24
  go_wp2_with fail
  go_quiet ((go_at_call 30; exact Calls.quiet_of_same (HW.out _)))
  go_wp2_with fail
  go_ret
  exact ⟨by simp, _, rfl⟩
end
end Go.Proofs.Ytmmghdnlppjgbaa
