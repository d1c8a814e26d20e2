/-
  The walks of the document's answers: Tick and Back over any readings.
-/
import Derived.Test.YtokpenkkgbnioaaCkMath
import Derived.Test.YtokpenkkgbnioaaCkArg
namespace Go.Proofs.Ytokpenkkgbnioaa
set_option maxRecDepth 100000
open Go.RowKit
set_option maxHeartbeats 1000000 in
theorem rtick_x (m : Int) (v : Value) (l : List Int) (w : World) (hs : RowAt w v (intsV l)) (hn : l.length ≤ 1000) :
    Calls Try.prog 9 #[.int .i64 m, v] w fun e w' => e = .returned (.int .i64 (tickK m l)) ∧ w' = w := by
  obtain ⟨A, c, rfl, _, hc⟩ := hs.ints
  have HS := Lib.hid hc
  clear hc hs
  go_enter Try.func9, Try.ntmps9
  go_wp2_with fail
  go_loop [5, 6, 7] (fun t i _ => ∃ k : Nat, k ≤ l.length ∧ i = .int .i64 k ∧ t = .int .i64 (tickK m (l.take k))) (fun _ i _ => l.length - (intOf i).toNat)
  case atStart => exact ⟨0, Nat.zero_le _, rfl, rfl⟩
  case round =>
    obtain ⟨k, hk, rfl, rfl⟩ := hrel
    by_cases hlt : k < l.length
    · obtain ⟨n, hn1⟩ : ∃ n, l[k]? = some n := ⟨_, List.getElem?_eq_getElem hlt⟩
      obtain ⟨ad, rfl, hab, c0⟩ := HS.out k n hn1
      have HT := Lib.hid (show tickK m (l.take (k + 1)) = max (tickK m (l.take k)) (min n 1099511627776) by rw [take_snoc hn1, tick_snoc])
      generalize tickK m (l.take k) = t0 at HT
      clear hab hn1
      by_cases h1 : 1099511627776 < n
      · have d1 : decide ((1099511627776 : Int) < n) = true := decide_eq_true h1
        by_cases h2 : t0 < 1099511627776
        · have d2 : decide (t0 < (1099511627776 : Int)) = true := decide_eq_true h2
          go_wp2_with fail
          go_round
          case rel => exact ⟨k + 1, by omega, by go_num, by rw [HT.out, show max t0 (min n 1099511627776) = 1099511627776 by omega]⟩
          case measure => simp [intOf]; omega
        · have d2 : decide (t0 < (1099511627776 : Int)) = false := decide_eq_false h2
          go_wp2_with fail
          go_round
          case rel => exact ⟨k + 1, by omega, by go_num, by rw [HT.out, show max t0 (min n 1099511627776) = t0 by omega]⟩
          case measure => simp [intOf]; omega
      · have d1 : decide ((1099511627776 : Int) < n) = false := decide_eq_false h1
        by_cases h2 : t0 < n
        · have d2 : decide (t0 < n) = true := decide_eq_true h2
          go_wp2_with fail
          go_round
          case rel => exact ⟨k + 1, by omega, by go_num, by rw [HT.out, show max t0 (min n 1099511627776) = n by omega]⟩
          case measure => simp [intOf]; omega
        · have d2 : decide (t0 < n) = false := decide_eq_false h2
          go_wp2_with fail
          go_round
          case rel => exact ⟨k + 1, by omega, by go_num, by rw [HT.out, show max t0 (min n 1099511627776) = t0 by omega]⟩
          case measure => simp [intOf]; omega
    · have e : l.take k = l := List.take_of_length_le (by omega)
      rw [e]
      clear e
      go_wp2_with fail
      go_ret
      exact ⟨rfl, rfl⟩
set_option maxHeartbeats 1000000 in
theorem rback_x (m : Int) (v : Value) (l : List Int) (w : World) (hs : RowAt w v (intsV l)) (hn : l.length ≤ 1000) :
    Calls Try.prog 13 #[.int .i64 m, v] w fun e w' => e = .returned (.int .i64 (backK m l)) ∧ ∃ n, w' = w.drewN n := by
  obtain ⟨A, c, hv, hcap, hc⟩ := hs.ints
  subst hv
  have HS := Lib.hid hc
  have HR := Lib.hid hs
  clear hc hs
  go_enter Try.func13, Try.ntmps13
  go_wp2_with fail
  go_loopw [5, 6] (fun t i wr => ∃ k : Nat, k ≤ l.length ∧ i = .int .i64 k ∧ t = .int .i64 (backK m (l.take k)) ∧ ∃ n, wr = w.drewN n) (fun _ i _ => l.length - (intOf i).toNat)
  case atStart => exact ⟨0, Nat.zero_le _, rfl, rfl, 0, rfl⟩
  case round =>
    obtain ⟨k, hk, rfl, rfl, nd, rfl⟩ := hrel
    by_cases hlt : k < l.length
    · obtain ⟨n, hn1⟩ : ∃ n, l[k]? = some n := ⟨_, List.getElem?_eq_getElem hlt⟩
      obtain ⟨ad, rfl, hab, c0⟩ := HS.out k n hn1
      have HT := Lib.hid (show backK m (l.take (k + 1)) = backK m (l.take k) + (if n < tickK m (l.take k) then 1 else 0) by rw [take_snoc hn1, back_snoc])
      have HB := Lib.hid (show 0 ≤ backK m (l.take k) ∧ backK m (l.take k) ≤ k by have := back_le m (l.take k); rw [List.length_take] at this; omega)
      have HC : Hid (∀ j, Calls Try.prog 9 #[.int .i64 m, .slice (some ad) k c] (w.drewN j) fun e w' => e = .returned (.int .i64 (tickK m (l.take k))) ∧ w' = w.drewN j) := Lib.hid fun j => rtick_x m _ (l.take k) _ (by rw [← ints_take]; exact (RowAt.take (n := l.length) (HR.out.below (below_drewN (Below.refl w.heap.size w) j) (Nat.le_refl _)) (by simp [intsV]; omega))) (by rw [List.length_take]; omega)
      generalize backK m (l.take k) = t0 at HT HB
      generalize tickK m (l.take k) = t1 at HT HC
      obtain ⟨b0, b1⟩ := HB.out
      clear hab hn1
      by_cases h1 : n < t1
      · have d1 : decide (n < t1) = true := decide_eq_true h1
        go_wp2_with fail
        go_quiet ((go_at_call 9; exact quiet_more (HC.out _)))
        go_wp2_with fail
        go_roundw
        case rel => exact ⟨k + 1, by omega, by go_num, by rw [HT.out, if_pos h1], _, rfl⟩
        case measure => simp [intOf]; omega
      · have d1 : decide (n < t1) = false := decide_eq_false h1
        go_wp2_with fail
        go_quiet ((go_at_call 9; exact quiet_more (HC.out _)))
        go_wp2_with fail
        go_roundw
        case rel => exact ⟨k + 1, by omega, by go_num, by rw [HT.out, if_neg (by omega), Int.add_zero], _, rfl⟩
        case measure => simp [intOf]; omega
    · have e : l.take k = l := List.take_of_length_le (by omega)
      rw [e]
      clear e
      go_wp2_with fail
      go_ret
      exact ⟨rfl, _, rfl⟩
end Go.Proofs.Ytokpenkkgbnioaa
