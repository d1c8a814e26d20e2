/-
  The walks of right and Rank.
-/
import Derived.Test.YtjjndndhmccflaaRdBox
namespace Go.Proofs.Ytjjndndhmccflaa
set_option maxRecDepth 100000
open Go.RowKit
theorem below_box (w : World) (o : Obj) : Below w.heap.size w (w.alloc o) := (Below.refl _ w).alloc (Nat.le_refl _) _
theorem rk_wrap {p a n g : Int} (h : a < n) : p + min ((n - a) / g) (9 - p) = rk p a n g := by
  unfold rk
  rw [if_neg (by omega)]
  omega
set_option maxHeartbeats 4000000 in
/-- Rank, of what may be an entry. -/
theorem rank_x (x : Et) (n g : Int) (w : World) (hp1 : -9 ≤ x.pri) (hp2 : x.pri ≤ 9) (ha1 : 0 ≤ x.at_) (ha2 : x.at_ ≤ 1099511627776) (hn1 : -10000000000000 ≤ n) (hn2 : n ≤ 10000000000000) (hg : 1 ≤ g) (hg2 : g ≤ 1048576) :
    Calls Try.prog 23 #[agE x, .int .i64 n, .int .i64 g] w fun e w' => e = .returned (.int .i64 (rk x.pri x.at_ n g)) ∧ w' = w.alloc (.cells #[.int .i64 x.id, .string (mkS x.dest), .int .i64 x.pri, .int .i64 x.at_] 34) := by
  obtain ⟨i, d, p, a⟩ := x
  dsimp only at hp1 hp2 ha1 ha2 ⊢
  have m1 : min p 9 = p := by omega
  have m2 : max g 1 = g := by omega
  by_cases hna : n ≤ a
  · have e : rk p a n g = p := by unfold rk; rw [if_pos hna]
    rw [e]
    go_enter Try.func23, Try.ntmps23
    go_wp2_with fail
    go_ret
    exact ⟨rfl, rfl⟩
  · have e := rk_wrap (p := p) (g := g) (by omega : a < n)
    have w1 : IntKind.u64.wrap n = n := by simp [IntKind.wrap, IntKind.bits, IntKind.signed]; omega
    have w2 : IntKind.u64.wrap a = a := by simp [IntKind.wrap, IntKind.bits, IntKind.signed]; omega
    have w3 : IntKind.u64.wrap (n - a) = n - a := by simp [IntKind.wrap, IntKind.bits, IntKind.signed]; omega
    have w4 : IntKind.u64.wrap g = g := by simp [IntKind.wrap, IntKind.bits, IntKind.signed]; omega
    have w6 : IntKind.u64.wrap (9 - IntKind.u64.wrap p) = 9 - p := by simp [IntKind.wrap, IntKind.bits, IntKind.signed]; omega
    have w7 : (n - a).tdiv g = (n - a) / g := Int.tdiv_eq_ediv_of_nonneg (by omega)
    have q0 : 0 ≤ (n - a) / g := Int.ediv_nonneg (by omega) (by omega)
    have q1 : (n - a) / g ≤ n - a := Int.ediv_le_self _ (by omega)
    have w8 : IntKind.u64.wrap ((n - a) / g) = (n - a) / g := by simp only [IntKind.wrap, IntKind.bits, IntKind.signed]; simp; omega
    have E := Lib.hid e
    clear e
    generalize (n - a) / g = q at *
    have w9 : IntKind.i64.wrap (min q (9 - p)) = min q (9 - p) := by simp only [IntKind.wrap, IntKind.bits, IntKind.signed]; simp; omega
    have w10 : IntKind.i64.wrap (p + min q (9 - p)) = p + min q (9 - p) := by simp only [IntKind.wrap, IntKind.bits, IntKind.signed]; simp; omega
    go_enter Try.func23, Try.ntmps23
    go_wp2_with fail
    go_ret
    refine ⟨?_, rfl⟩
    rw [← E.out]; rfl
set_option maxHeartbeats 4000000 in
/-- right. -/
theorem right_x (x : Et) (w : World) (hd : x.dest.length ≤ 1000000000000) :
    Calls Try.prog 25 #[agE x] w fun e w' => e = .returned (.bool (okE x)) ∧ w' = w.alloc (.cells #[.int .i64 x.id, .string (mkS x.dest), .int .i64 x.pri, .int .i64 x.at_] 34) := by
  obtain ⟨i, d, p, a⟩ := x
  have hs := mkS_size d
  unfold okE
  dsimp only at hd ⊢
  have h1 : decide ((1 : Int) ≤ (d.length : Int)) = decide (1 ≤ d.length) := by rw [decide_eq_decide]; omega
  have h2 : decide ((d.length : Int) ≤ 255) = decide (d.length ≤ 255) := by rw [decide_eq_decide]; omega
  go_enter Try.func25, Try.ntmps25
  go_wp2_with fail
  all_goals go_ret
  all_goals refine ⟨ret_bool ?_, rfl⟩
  all_goals simp_all
  all_goals omega
end Go.Proofs.Ytjjndndhmccflaa
