/-
  A map of numbers to numbers at its operations; two rows of numbers compared.
-/
import Derived.Test.YtmmghdnlppjgbaaWhSets
namespace Go.Proofs.Ytmmghdnlppjgbaa
set_option maxRecDepth 100000
open Go.RowKit Go.Maps Go.ChangeMaps
open Go.WideShapes
theorem make_ints (w : World) : (Instr.makeMap 53 none).run Try.prog w = .ok (.map (some w.heap.size)) (w.alloc (.map #[] 0)) := by kernel_rfl
theorem JAt.int_yes {w : World} {m : Nat} {L : List (Int × Value)} (h : JAt w m L) {n : Int} {a : Value} (hm : (n, a) ∈ L) (hn : Nm n) :
    (Instr.lookup 53 (.map (some m)) (.int .i64 n) false).run Try.prog w = .ok a w := by
  obtain ⟨es, h1, h2⟩ := h
  obtain ⟨v, ps, e1, e2⟩ := h1.lookup lawI Try.underlying53 (e := 3) (z := .int .i64 0) (by kernel_rfl) (show valR (.int .i64 0) = some (.held (.int .i64 0), []) from rfl) (keyI hn)
  rw [e1]
  rw [(JAt.at_ h2 (h1.tidy lawI) hm).2] at e2
  simp only [valR, Option.some.injEq, Prod.mk.injEq, DataW.held.injEq] at e2
  rw [e2.1]
theorem JAt.int_no {w : World} {m : Nat} {L : List (Int × Value)} (h : JAt w m L) {n : Int} (hm : ∀ p ∈ L, p.1 ≠ n) (hn : Nm n) :
    (Instr.lookup 53 (.map (some m)) (.int .i64 n) false).run Try.prog w = .ok (.int .i64 0) w := by
  obtain ⟨es, h1, h2⟩ := h
  obtain ⟨v, ps, e1, e2⟩ := h1.lookup lawI Try.underlying53 (e := 3) (z := .int .i64 0) (by kernel_rfl) (show valR (.int .i64 0) = some (.held (.int .i64 0), []) from rfl) (keyI hn)
  rw [e1]
  rw [atKey_of_not_has (JAt.not_ h2 hm)] at e2
  simp only [valR, Option.some.injEq, Prod.mk.injEq, DataW.held.injEq] at e2
  rw [e2.1]
theorem JAt.int_put {w : World} {m : Nat} {L : List (Int × Value)} (h : JAt w m L) {n : Int} (a : Value) (hn : Nm n) (hl : L.length ≤ 1000000) :
    ∃ w', (Instr.mapUpdate 53 (.map (some m)) (.int .i64 n) (a)).run Try.prog w = .ok () w' ∧ JAt w' m ((n, a) :: L.filter fun p => p.1 != n) ∧ w.mapTurned w' m := by
  obtain ⟨es, h1, h2⟩ := h
  obtain ⟨w', e1, e2, e3⟩ := h1.store lawI Try.underlying53 (by unfold maxLen; omega) (keyI hn) (show valR (a) = some (.held (a), []) from rfl)
  refine ⟨w', e1, .of (es := DataW.insert (.int .i64 n, .held (a)) (es.filter fun p => !p.1.sameKey (.int .i64 n))) e2 ?_, e3⟩
  refine (insert_perm _ _).trans (List.Perm.cons _ ?_)
  rw [← filter_jnt]
  exact h2.filter _
set_option maxHeartbeats 4000000 in
/-- The same row twice. -/
theorem same_x {w : World} {B B2 c c2 : Nat} {A A2 : Option Addr} {l : List Int} (hx : w.ownsRow B 3 1 (.slice A l.length c) l.length (intsR l)) (hy : w.ownsRow B2 3 1 (.slice A2 l.length c2) l.length (intsR l)) (few : l.length ≤ 1000) :
    Calls Try.prog 17 #[.slice A l.length c, .slice A2 l.length c2] w fun e w' => e = .returned (.bool true) ∧ ∃ m, w' = w.drewN m := by
  obtain ⟨N, hN⟩ : ∃ N, l.length = N := ⟨_, rfl⟩
  rw [hN] at hx hy few ⊢
  have H := Lib.hid (And.intro hN (And.intro hx hy))
  clear hx hy hN
  go_enter Try.func17, Try.ntmps17
  go_wp2_with fail
  go_loopw [5] (fun si wr => ∃ i m : Nat, si = .int .i64 i ∧ i ≤ N ∧ Hid (wr = w.drewN m)) (fun si _ => N - (intOf si).toNat)
  case atStart => exact ⟨0, 0, rfl, Nat.zero_le _, Lib.hid rfl⟩
  case round =>
    obtain ⟨i, m, rfl, hi, HW⟩ := hrel
    by_cases hiN : i < N
    · obtain ⟨x, hx⟩ : ∃ x, l[i]? = some x := ⟨_, List.getElem?_eq_getElem (by rw [H.out.1]; exact hiN)⟩
      obtain ⟨g, rfl⟩ := row_head H.out.2.1 (by omega)
      obtain ⟨g2, rfl⟩ := row_head H.out.2.2 (by omega)
      have x0 : wr.cell? ⟨g, i, none⟩ = some (.int .i64 x) := by rw [HW.out]; exact row_get (row_drewN H.out.2.1 m) hx
      have y0 : wr.cell? ⟨g2, i, none⟩ = some (.int .i64 x) := by rw [HW.out]; exact row_get (row_drewN H.out.2.2 m) hx
      clear hx
      go_wp2_with fail
      go_quiet (fail)
      go_wp2_with fail
      go_roundw
      case rel => exact ⟨i + 1, m + nq, by go_num, by omega, Lib.hid (by rw [HW.out]; exact World.drewN_drewN _ _ _)⟩
      case measure => simp [intOf]; omega
    · have ei : N = i := by omega
      subst ei
      go_wp2_with fail
      go_ret
      exact ⟨rfl, m, HW.out⟩
end Go.Proofs.Ytmmghdnlppjgbaa
