/-
  The walk of told: the same lines are the same.
-/
import Derived.Test.YtkkpfencnjnddaaRefLines
namespace Go.Proofs.Ytkkpfencnjnddaa
open Go.RowKit
set_option maxHeartbeats 1000000 in
theorem told_x (B B' c c' : Nat) (A A' : Option Addr) (L : List (List UInt8 × Int)) (w : World) (hx : w.ownsRow B 49 2 (.slice A L.length c) L.length (lnsV L)) (hy : w.ownsRow B' 60 2 (.slice A' L.length c') L.length (lnsV L)) (hL : L.length ≤ 1000000000) :
    Calls Try.prog 13 #[.slice A L.length c, .slice A' L.length c'] w fun e w' => e = .returned (.bool true) ∧ Below w.heap.size w w' := by
  have HX := Lib.hid hx
  have HY := Lib.hid hy
  clear hx hy
  go_enter Try.func13, Try.ntmps13
  go_wp2_with fail
  go_loopw [5] (fun i wx => ∃ j q : Nat, j ≤ L.length ∧ i = .int .i64 j ∧ wx = w.drewN q) (fun i _ => L.length - (intOf i).toNat)
  case atStart => exact ⟨0, 0, Nat.zero_le _, rfl, rfl⟩
  case round =>
    obtain ⟨j, q, hj, rfl, rfl⟩ := hrel
    by_cases hlt3 : j < L.length
    · obtain ⟨kx, _, hvx, _, _⟩ := HX.out.form (by omega)
      obtain ⟨ky, _, hvy, _, _⟩ := HY.out.form (by omega)
      injection hvx with hvx hvx1 hvx2
      injection hvy with hvy hvy1 hvy2
      subst hvx; subst hvy
      clear hvx1 hvx2 hvy1 hvy2
      have hlj : L[j]? = some (L[j]'hlt3) := List.getElem?_eq_getElem hlt3
      generalize L[j]'hlt3 = l at hlj
      obtain ⟨t, x⟩ := l
      have x0 : w.cell? ⟨kx, j * 2, none⟩ = some (.string (mkS t)) := (HX.out.cellAt (j * 2) (by omega)).trans (lnsV_get hlj).1
      have x1 : w.cell? ⟨kx, j * 2 + 1, none⟩ = some (.int .i64 x) := (HX.out.cellAt (j * 2 + 1) (by omega)).trans (lnsV_get hlj).2
      have y0 : w.cell? ⟨ky, j * 2, none⟩ = some (.string (mkS t)) := (HY.out.cellAt (j * 2) (by omega)).trans (lnsV_get hlj).1
      have y1 : w.cell? ⟨ky, j * 2 + 1, none⟩ = some (.int .i64 x) := (HY.out.cellAt (j * 2 + 1) (by omega)).trans (lnsV_get hlj).2
      clear hlj
      go_wp2_with fail
      go_quiet (fail)
      go_wp2_with fail
      go_roundw
      case rel => exact ⟨j + 1, _, by omega, by go_num, rfl⟩
      case measure => simp [intOf]; omega
    · go_wp2_with fail
      go_ret
      exact ⟨rfl, below_drewN (Below.refl _ _) _⟩
end Go.Proofs.Ytkkpfencnjnddaa
