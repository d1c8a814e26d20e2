/-
  The walk of the law ReadyRanks.
-/
import Derived.Test.YtdfihhjnbikimaaRdCls
import Derived.Deep.QuietTactic
import Derived.BigQuiet
namespace Go.Proofs.Ytdfihhjnbikimaa
set_option maxRecDepth 100000
open Go.RowKit
theorem rk_div {x y g : Int} (h : x ≤ y) (hg : 1 ≤ g) : x / g ≤ y / g := Int.ediv_le_ediv (by omega) h
theorem rk_div0 {x g : Int} (h : 0 ≤ x) (hg : 1 ≤ g) : 0 ≤ x / g := Int.ediv_nonneg h (by omega)
theorem rk_mono {p a n m g : Int} (h : n ≤ m) (hp : p ≤ 9) (hg : 1 ≤ g) : rk p a n g ≤ rk p a m g := by
  unfold rk
  have h1 := rk_div (x := n - a) (y := m - a) (by omega) hg
  split <;> split
  · omega
  · have := rk_div0 (x := m - a) (by omega) hg; omega
  · omega
  · omega
theorem rk_le {p a n g : Int} (hp : p ≤ 9) : rk p a n g ≤ 9 := by unfold rk; split <;> omega
theorem rk_ge {p a n g : Int} (hp : p ≤ 9) (hg : 1 ≤ g) : p ≤ rk p a n g := by
  unfold rk
  split
  · omega
  · have := rk_div0 (x := n - a) (by omega) hg; omega
theorem rk_at {p a n g : Int} (h : n ≤ a) : rk p a n g = p := by unfold rk; rw [if_pos h]
theorem rk_less {p a n g : Int} (hp : p ≤ 9) (h : n - a < g) : rk p a n g = p := by
  unfold rk
  split
  · rfl
  · rw [Int.ediv_eq_zero_of_lt (by omega) h]; omega
theorem rk_ages {p a g : Int} (k : Int) (hk : 1 ≤ k) (hg : 1 ≤ g) : rk p a (a + k * g) g = min 9 (p + k) := by
  unfold rk
  have h0 : 0 < k * g := Int.mul_pos (by omega) (by omega)
  rw [if_neg (by omega), show a + k * g - a = k * g by omega, Int.mul_ediv_cancel _ (by omega)]
theorem rk_pri {p a n g : Int} (hp : p ≤ 9) : rk p a n g ≤ rk (min 9 (p + 1)) a n g := by
  unfold rk
  split <;> omega
theorem rank_b (x : Et) (n g : Int) (hp1 : -9 ≤ x.pri) (hp2 : x.pri ≤ 9) (ha1 : 0 ≤ x.at_) (ha2 : x.at_ ≤ 1099511627776) (hn1 : -10000000000000 ≤ n) (hn2 : n ≤ 10000000000000) (hg : 1 ≤ g) (hg2 : g ≤ 1048576) {r : Int} (hr : rk x.pri x.at_ n g = r) (w : World) :
    Calls Try.prog 26 #[agE x, .int .i64 n, .int .i64 g] w fun e w' => e = .returned (.int .i64 r) ∧ Below w.heap.size w w' := by
  refine (rank_x x n g w hp1 hp2 ha1 ha2 hn1 hn2 hg hg2).mono ?_
  rintro e w' ⟨rfl, rfl⟩
  exact ⟨by rw [hr], below_box w _⟩
def rangeR (d p a n m g : Int) : Bool := decide (300 < d) || decide (p < -9) || decide (9 < p) || decide (a < 0) || decide (1099511627776 < a) || decide (n < 0) || decide (1099511627776 < n) || decide (m < 0) || decide (1099511627776 < m) || decide (g < 1) || decide (1048576 < g)
theorem rangeR_no {d p a n m g : Int} (h : rangeR d p a n m g = false) : d ≤ 300 ∧ -9 ≤ p ∧ p ≤ 9 ∧ 0 ≤ a ∧ a ≤ 1099511627776 ∧ 0 ≤ n ∧ n ≤ 1099511627776 ∧ 0 ≤ m ∧ m ≤ 1099511627776 ∧ 1 ≤ g ∧ g ≤ 1048576 := by
  unfold rangeR at h
  simp only [Bool.or_eq_false_iff, decide_eq_false_iff_not] at h
  omega
/-- The entry's box. -/
structure RX1 (B : Nat) (x : Et) (w wr : World) : Prop where
  below : Below w.heap.size w wr
  hx : wr.heap[B]? = some (.cells (ecs x) 34 (0, 0))
section
variable {B : Nat} {x : Et} {w wr w' : World}
theorem RX1.next (h : RX1 B x w wr) (k : Below wr.heap.size wr w') : RX1 B x w w' := ⟨below_next h.below k, (k.block _ (ltOf h.hx)).trans h.hx⟩
theorem RX1.cells (h : RX1 B x w wr) : wr.cell? ⟨B, 0, none⟩ = some (.int .i64 x.id) ∧ wr.cell? ⟨B, 1, none⟩ = some (.string (mkS x.dest)) ∧ wr.cell? ⟨B, 2, none⟩ = some (.int .i64 x.pri) ∧ wr.cell? ⟨B, 3, none⟩ = some (.int .i64 x.at_) ∧ Hid (RX1 B x w wr) := ⟨cellOf h.hx 0, cellOf h.hx 1, cellOf h.hx 2, cellOf h.hx 3, h⟩
theorem RX1.rank (h : Hid (RX1 B x w wr)) {y : Et} {n g r : Int} (k : ∀ w, Calls Try.prog 26 #[agE y, .int .i64 n, .int .i64 g] w fun e w' => e = .returned (.int .i64 r) ∧ Below w.heap.size w w') :
    Calls Try.prog 26 #[agE y, .int .i64 n, .int .i64 g] wr fun e w' => e = .returned (.int .i64 r) ∧ (w'.cell? ⟨B, 0, none⟩ = some (.int .i64 x.id) ∧ w'.cell? ⟨B, 1, none⟩ = some (.string (mkS x.dest)) ∧ w'.cell? ⟨B, 2, none⟩ = some (.int .i64 x.pri) ∧ w'.cell? ⟨B, 3, none⟩ = some (.int .i64 x.at_) ∧ Hid (RX1 B x w w')) :=
  (k wr).mono fun _ _ ⟨he, hb⟩ => ⟨he, (h.out.next hb).cells⟩
end
/-- The boxes of the entry and of its twin. -/
structure RX2 (B Y : Nat) (x y : Et) (w wr : World) : Prop where
  below : Below w.heap.size w wr
  hx : wr.heap[B]? = some (.cells (ecs x) 34 (0, 0))
  hy : wr.heap[Y]? = some (.cells (ecs y) 34 (0, 0))
theorem RX2.next {B Y : Nat} {x y : Et} {w wr w' : World} (h : RX2 B Y x y w wr) (k : Below wr.heap.size wr w') : RX2 B Y x y w w' := ⟨below_next h.below k, (k.block _ (ltOf h.hx)).trans h.hx, (k.block _ (ltOf h.hy)).trans h.hy⟩
set_option maxHeartbeats 16000000 in
theorem readyRanks_no (x : Et) (n m g : Int) (w : World) (hd : x.dest.length ≤ 140737488355328) (h : rangeR x.dest.length x.pri x.at_ n m g = true) :
    Calls Try.prog 4 #[agE x, .int .i64 n, .int .i64 m, .int .i64 g] w fun e w' => e = .returned (.bool true) ∧ Below w.heap.size w w' := by
  have HA := Lib.hid awake_x
  have H := Lib.hid h
  obtain ⟨i, d, p, a⟩ := x
  dsimp only at H hd
  have hs := mkS_size d
  have hB := Lib.hid (below_box w (.cells #[.int .i64 i, .string (mkS d), .int .i64 p, .int .i64 a] 34))
  clear h
  go_enter Try.func4, Try.ntmps4
  go_wp2_with fail
  refine (HA.out _).mono ?_
  rintro e w1 ⟨rfl, hb1⟩
  have HB1 := Lib.hid (below_fresh (Below.refl w.heap.size w) hb1)
  have hx1 := (hb1.block w.heap.size (by simp)).trans (newOf w _)
  have x0 := cellOf hx1 1
  have x2 := cellOf hx1 2
  have x3 := cellOf hx1 3
  clear hb1 hx1 hB HA
  go_wp2_with fail
  all_goals first
    | (go_ret; exact ⟨rfl, HB1.out⟩)
    | (exfalso; have := H.out; unfold rangeR at this; simp_all; done)
    | (exfalso; have := H.out; unfold rangeR at this; simp_all; omega)
set_option maxHeartbeats 16000000 in
theorem readyRanks_yes (x : Et) (n m g : Int) (w : World) (h : rangeR x.dest.length x.pri x.at_ n m g = false) :
    Calls Try.prog 4 #[agE x, .int .i64 n, .int .i64 m, .int .i64 g] w fun e w' => e = .returned (.bool true) ∧ Below w.heap.size w w' := by
  obtain ⟨h0, h1, h2, h3, h4, h5, h6, h7, h8, h9, h10⟩ := rangeR_no h
  have HA := Lib.hid awake_x
  obtain ⟨i, d, p, a⟩ := x
  dsimp only at h0 h1 h2 h3 h4
  have hs := mkS_size d
  have hX : (⟨i, d, p, a⟩ : Et).pri = p := rfl
  obtain ⟨r1, e1⟩ : ∃ r, rk p a n g = r := ⟨_, rfl⟩
  obtain ⟨r2, e2⟩ : ∃ r, rk p a (n + m) g = r := ⟨_, rfl⟩
  obtain ⟨p2, ep⟩ : ∃ p2, p2 = min 9 (p + 1) := ⟨_, rfl⟩
  obtain ⟨r6, e6⟩ : ∃ r, rk p2 a n g = r := ⟨_, rfl⟩
  have f12 : r1 ≤ r2 := by rw [← e1, ← e2]; exact rk_mono (by omega) h2 h9
  have f2 : r2 ≤ 9 := by rw [← e2]; exact rk_le h2
  have f1 : p ≤ r1 := by rw [← e1]; exact rk_ge h2 h9
  have f6 : r1 ≤ r6 := by rw [← e1, ← e6, ep]; exact rk_pri h2
  have fa : a ≤ n ∨ (n < a ∧ r1 = p) := by
    rcases Int.lt_or_le n a with e | e
    · exact .inr ⟨e, by rw [← e1]; exact rk_at (by omega)⟩
    · exact .inl e
  have K1 := Lib.hid (fun w => rank_b ⟨i, d, p, a⟩ n g h1 h2 h3 h4 (by omega) (by omega) h9 h10 e1 w)
  have K2 := Lib.hid (fun w => rank_b ⟨i, d, p, a⟩ (n + m) g h1 h2 h3 h4 (by omega) (by omega) h9 h10 e2 w)
  have K3 := Lib.hid (fun w => rank_b ⟨i, d, p, a⟩ a g h1 h2 h3 h4 (by omega) (by omega) h9 h10 (r := p) (rk_at (Int.le_refl _)) w)
  have K4 := Lib.hid (fun w => rank_b ⟨i, d, p, a⟩ (a + g) g h1 h2 h3 h4 (by omega) (by omega) h9 h10 (r := p2) (by have := rk_ages (p := p) (a := a) (g := g) 1 (by omega) h9; rw [Int.one_mul] at this; rw [ep]; exact this) w)
  have K5 := Lib.hid (fun w => rank_b ⟨i, d, p, a⟩ (a + g - 1) g h1 h2 h3 h4 (by omega) (by omega) h9 h10 (r := p) (rk_less (p := p) (a := a) (n := a + g - 1) (g := g) h2 (by omega)) w)
  have K6 := Lib.hid (fun w => rank_b ⟨i, d, p2, a⟩ n g (by show -9 ≤ p2; omega) (by show p2 ≤ 9; omega) h3 h4 (by omega) (by omega) h9 h10 e6 w)
  have K7 := Lib.hid (fun w => rank_b ⟨i, d, p, a⟩ (a + 18 * g) g h1 h2 h3 h4 (by omega) (by omega) h9 h10 (r := 9) (by have := rk_ages (p := p) (a := a) (g := g) 18 (by omega) h9; rw [this]; show min 9 (p + 18) = 9; omega) w)
  have w1 : IntKind.i64.wrap (n + m) = n + m := by simp [IntKind.wrap, IntKind.bits, IntKind.signed]; omega
  have w2 : IntKind.i64.wrap (p + 1) = p + 1 := by simp [IntKind.wrap, IntKind.bits, IntKind.signed]; omega
  have w3 : IntKind.i64.wrap (a + g) = a + g := by simp [IntKind.wrap, IntKind.bits, IntKind.signed]; omega
  have w4 : IntKind.i64.wrap (a + g - 1) = a + g - 1 := by simp [IntKind.wrap, IntKind.bits, IntKind.signed]; omega
  have w5 : IntKind.i64.wrap (18 * g) = 18 * g := by simp [IntKind.wrap, IntKind.bits, IntKind.signed]; omega
  have w6 : IntKind.i64.wrap (a + 18 * g) = a + 18 * g := by simp [IntKind.wrap, IntKind.bits, IntKind.signed]; omega
  have d0 : decide ((300 : Int) < (d.length : Int)) = false := decide_eq_false (by omega)
  have d1 : decide (p < -9) = false := decide_eq_false (by omega)
  have d2 : decide (9 < p) = false := decide_eq_false (by omega)
  have d3 : decide (a < 0) = false := decide_eq_false (by omega)
  have d4 : decide (1099511627776 < a) = false := decide_eq_false (by omega)
  have d5 : decide (n < 0) = false := decide_eq_false (by omega)
  have d6 : decide (1099511627776 < n) = false := decide_eq_false (by omega)
  have d7 : decide (m < 0) = false := decide_eq_false (by omega)
  have d8 : decide (1099511627776 < m) = false := decide_eq_false (by omega)
  have d9 : decide (g < 1) = false := decide_eq_false (by omega)
  have d10 : decide (1048576 < g) = false := decide_eq_false (by omega)
  have HF := Lib.hid (And.intro f12 (And.intro f2 (And.intro f1 (And.intro f6 fa))))
  obtain ⟨W1, hW1⟩ : ∃ W1, W1 = w.alloc (.cells (ecs ⟨i, d, p, a⟩) 34) := ⟨_, rfl⟩
  obtain ⟨B, hB⟩ : ∃ B, B = w.heap.size := ⟨_, rfl⟩
  have b1 : Below w.heap.size w W1 := by rw [hW1]; exact below_box w _
  have x1 : W1.heap[B]? = some (.cells (ecs ⟨i, d, p, a⟩) 34 (0, 0)) := by rw [hW1, hB]; exact newOf w _
  have HW := Lib.hid (And.intro hW1 (And.intro hB (And.intro b1 x1)))
  have EP := Lib.hid ep
  clear h h0 h1 h2 h3 h4 h5 h6 h7 h8 h9 h10 f12 f2 f1 f6 fa e1 e2 e6 ep hX hW1 hB b1 x1
  go_enter Try.func4, Try.ntmps4
  go_wp2_with fail
  rw [← HW.out.1, ← HW.out.2.1]
  refine (HA.out _).mono ?_
  rintro e wa ⟨rfl, hba⟩
  have HBa := Lib.hid (And.intro (below_next HW.out.2.2.1 hba) ((hba.block B (ltOf HW.out.2.2.2)).trans HW.out.2.2.2))
  have c0 := cellOf HBa.out.2 0
  have c1 := cellOf HBa.out.2 1
  have c2 := cellOf HBa.out.2 2
  have c3 := cellOf HBa.out.2 3
  have HX := Lib.hid (show RX1 B ⟨i, d, p, a⟩ w wa.drew from ⟨below_drewN HBa.out.1 1, HBa.out.2⟩)
  clear hba HA HW HBa
  go_wp2_with fail
  go_region_held3 (fun wr => wr.cell? ⟨B, 0, none⟩ = some (.int .i64 i) ∧ wr.cell? ⟨B, 1, none⟩ = some (.string (mkS d)) ∧ wr.cell? ⟨B, 2, none⟩ = some (.int .i64 p) ∧ wr.cell? ⟨B, 3, none⟩ = some (.int .i64 a) ∧ Hid (RX1 B ⟨i, d, p, a⟩ w wr))
    (first | (with_reducible exact HX.out.cells) | (with_reducible exact ⟨by assumption, by assumption, by assumption, by assumption, by assumption⟩))
    (first
      | (go_at_call 26; (with_reducible refine (RX1.rank (x := ⟨i, d, p, a⟩) (B := B) (w := w) ?_ K1.out).mono ?_); (first | assumption | exact HX); rintro e w2 ⟨rfl, g0, g1, g2, g3, g4⟩)
      | (go_at_call 26; (with_reducible refine (RX1.rank (x := ⟨i, d, p, a⟩) (B := B) (w := w) ?_ K2.out).mono ?_); (first | assumption | exact HX); rintro e w2 ⟨rfl, g0, g1, g2, g3, g4⟩))
  all_goals
    have HG := g4
    clear g0 g1 g2 g3 g4
    obtain ⟨f12, f2, f1, f6, fa⟩ := HF.out
    have t12 := decide_eq_true f12
    have t22 := decide_eq_true f2
    have t11 := decide_eq_true f1
    have t66 := decide_eq_true f6
    clear f12 f2 f1 f6
    obtain ⟨Y, hY⟩ : ∃ Y, Y = w2.heap.size := ⟨_, rfl⟩
    obtain ⟨w4, hw4⟩ : ∃ w4, w4 = w2.alloc (.cells #[.int .i64 i, .string (mkS d), .int .i64 (min 9 (p + 1)), .int .i64 a] 34) := ⟨_, rfl⟩
    have hB2 := ltOf HG.out.hx
    have HR := Lib.hid (show RX2 B Y ⟨i, d, p, a⟩ ⟨i, d, p2, a⟩ w w4 from ⟨by
        rw [hw4]; exact HG.out.below.alloc HG.out.below.size _, by
        rw [hw4]; exact ((below_box w2 _).block B hB2).trans HG.out.hx, by
        rw [hw4, hY, EP.out]; exact newOf w2 _⟩)
    have HW4 := Lib.hid (And.intro hw4 hY)
    have c0 := cellOf HG.out.hx 0
    have c1 := cellOf HG.out.hx 1
    have c2 := cellOf HG.out.hx 2
    have c3 := cellOf HG.out.hx 3
    have nB : B ≠ w2.heap.size := by omega
    clear hw4 hY
    go_wp2_with fail
    rw [← HW4.out.1, ← HW4.out.2]
    clear c0 c1 c2 c3 nB hB2
    rcases fa with fa | fa
    · have hab : decide (a ≤ n) = true := decide_eq_true fa
      clear fa
      obtain ⟨YT, F, y0, hy0, hF1, hF2⟩ := cls w4
      have : Nonempty YT := ⟨y0⟩
      have x0 : ∀ y, (F y).cell? ⟨B, 0, none⟩ = some (.int .i64 i) := fun y => ((hF1 y).cell (p := ⟨B, 0, none⟩) (ltOf HR.out.hx)).trans (cellOf HR.out.hx 0)
      have x1 : ∀ y, (F y).cell? ⟨B, 1, none⟩ = some (.string (mkS d)) := fun y => ((hF1 y).cell (p := ⟨B, 1, none⟩) (ltOf HR.out.hx)).trans (cellOf HR.out.hx 1)
      have x2 : ∀ y, (F y).cell? ⟨B, 2, none⟩ = some (.int .i64 p) := fun y => ((hF1 y).cell (p := ⟨B, 2, none⟩) (ltOf HR.out.hx)).trans (cellOf HR.out.hx 2)
      have x3 : ∀ y, (F y).cell? ⟨B, 3, none⟩ = some (.int .i64 a) := fun y => ((hF1 y).cell (p := ⟨B, 3, none⟩) (ltOf HR.out.hx)).trans (cellOf HR.out.hx 3)
      have t0 : ∀ y, (F y).cell? ⟨Y, 0, none⟩ = some (.int .i64 i) := fun y => ((hF1 y).cell (p := ⟨Y, 0, none⟩) (ltOf HR.out.hy)).trans (cellOf HR.out.hy 0)
      have t1 : ∀ y, (F y).cell? ⟨Y, 1, none⟩ = some (.string (mkS d)) := fun y => ((hF1 y).cell (p := ⟨Y, 1, none⟩) (ltOf HR.out.hy)).trans (cellOf HR.out.hy 1)
      have t2 : ∀ y, (F y).cell? ⟨Y, 2, none⟩ = some (.int .i64 p2) := fun y => ((hF1 y).cell (p := ⟨Y, 2, none⟩) (ltOf HR.out.hy)).trans (cellOf HR.out.hy 2)
      have t3 : ∀ y, (F y).cell? ⟨Y, 3, none⟩ = some (.int .i64 a) := fun y => ((hF1 y).cell (p := ⟨Y, 3, none⟩) (ltOf HR.out.hy)).trans (cellOf HR.out.hy 3)
      have C3 := Lib.hid (in_cls hF1 hF2 fun w' _ => K3.out w')
      have C4 := Lib.hid (in_cls hF1 hF2 fun w' _ => K4.out w')
      have C5 := Lib.hid (in_cls hF1 hF2 fun w' _ => K5.out w')
      have C6 := Lib.hid (in_cls hF1 hF2 fun w' _ => K6.out w')
      have C7 := Lib.hid (in_cls hF1 hF2 fun w' _ => K7.out w')
      have H1 := Lib.hid hF1
      have hp2 : min 9 (p + 1) = p2 := EP.out.symm
      clear hF1 hF2 K3 K4 K5 K6 K7 K1 K2
      rw [hp2]
      simp only [List.append_eq, List.cons_append, List.nil_append]
      refine region_in (by kernel_rfl) (by kernel_rfl) F y0 hy0 ?_
      repeat (go_big_quiet_step ((go_at_call 26; first | (with_reducible exact C3.out _) | (with_reducible exact C4.out _) | (with_reducible exact C5.out _) | (with_reducible exact C6.out _) | (with_reducible exact C7.out _))))
      refine wpQuiet_nil ?_
      rintro _ ⟨y, rfl⟩
      have HZ := Lib.hid (below_next HR.out.below (H1.out y))
      clear x0 x1 x2 x3 t0 t1 t2 t3 hy0
      go_wp2_with fail
      go_ret
      exact ⟨rfl, HZ.out⟩
    · have hr1 : (r1 == p) = true := beq_iff_eq.2 fa.2
      have hab : decide (a ≤ n) = false := decide_eq_false (by have := fa.1; omega)
      have HFA := Lib.hid fa
      clear fa
      obtain ⟨YT, F, y0, hy0, hF1, hF2⟩ := cls w4
      have : Nonempty YT := ⟨y0⟩
      have x0 : ∀ y, (F y).cell? ⟨B, 0, none⟩ = some (.int .i64 i) := fun y => ((hF1 y).cell (p := ⟨B, 0, none⟩) (ltOf HR.out.hx)).trans (cellOf HR.out.hx 0)
      have x1 : ∀ y, (F y).cell? ⟨B, 1, none⟩ = some (.string (mkS d)) := fun y => ((hF1 y).cell (p := ⟨B, 1, none⟩) (ltOf HR.out.hx)).trans (cellOf HR.out.hx 1)
      have x2 : ∀ y, (F y).cell? ⟨B, 2, none⟩ = some (.int .i64 p) := fun y => ((hF1 y).cell (p := ⟨B, 2, none⟩) (ltOf HR.out.hx)).trans (cellOf HR.out.hx 2)
      have x3 : ∀ y, (F y).cell? ⟨B, 3, none⟩ = some (.int .i64 a) := fun y => ((hF1 y).cell (p := ⟨B, 3, none⟩) (ltOf HR.out.hx)).trans (cellOf HR.out.hx 3)
      have t0 : ∀ y, (F y).cell? ⟨Y, 0, none⟩ = some (.int .i64 i) := fun y => ((hF1 y).cell (p := ⟨Y, 0, none⟩) (ltOf HR.out.hy)).trans (cellOf HR.out.hy 0)
      have t1 : ∀ y, (F y).cell? ⟨Y, 1, none⟩ = some (.string (mkS d)) := fun y => ((hF1 y).cell (p := ⟨Y, 1, none⟩) (ltOf HR.out.hy)).trans (cellOf HR.out.hy 1)
      have t2 : ∀ y, (F y).cell? ⟨Y, 2, none⟩ = some (.int .i64 p2) := fun y => ((hF1 y).cell (p := ⟨Y, 2, none⟩) (ltOf HR.out.hy)).trans (cellOf HR.out.hy 2)
      have t3 : ∀ y, (F y).cell? ⟨Y, 3, none⟩ = some (.int .i64 a) := fun y => ((hF1 y).cell (p := ⟨Y, 3, none⟩) (ltOf HR.out.hy)).trans (cellOf HR.out.hy 3)
      have C3 := Lib.hid (in_cls hF1 hF2 fun w' _ => K3.out w')
      have C4 := Lib.hid (in_cls hF1 hF2 fun w' _ => K4.out w')
      have C5 := Lib.hid (in_cls hF1 hF2 fun w' _ => K5.out w')
      have C6 := Lib.hid (in_cls hF1 hF2 fun w' _ => K6.out w')
      have C7 := Lib.hid (in_cls hF1 hF2 fun w' _ => K7.out w')
      have H1 := Lib.hid hF1
      have hp2 : min 9 (p + 1) = p2 := EP.out.symm
      clear hF1 hF2 K3 K4 K5 K6 K7 K1 K2
      rw [hp2]
      simp only [List.append_eq, List.cons_append, List.nil_append]
      refine region_in (by kernel_rfl) (by kernel_rfl) F y0 hy0 ?_
      repeat (go_big_quiet_step ((go_at_call 26; first | (with_reducible exact C3.out _) | (with_reducible exact C4.out _) | (with_reducible exact C5.out _) | (with_reducible exact C6.out _) | (with_reducible exact C7.out _))))
      refine wpQuiet_nil ?_
      rintro _ ⟨y, rfl⟩
      have HZ := Lib.hid (below_next HR.out.below (H1.out y))
      clear x0 x1 x2 x3 t0 t1 t2 t3 hy0
      go_wp2_with fail
      go_ret
      exact ⟨rfl, HZ.out⟩
theorem readyRanks_x (x : Et) (n m g : Int) (w : World) (hd : x.dest.length ≤ 140737488355328) :
    Calls Try.prog 4 #[agE x, .int .i64 n, .int .i64 m, .int .i64 g] w fun e w' => e = .returned (.bool true) ∧ Below w.heap.size w w' := by
  cases h : rangeR x.dest.length x.pri x.at_ n m g with
  | false => exact readyRanks_yes x n m g w h
  | true => exact readyRanks_no x n m g w hd h
theorem readyRanks_row (x : Et) (n m g : Int) (w : World) (_ : Nm x.id) (hd : x.dest.length ≤ 140737488355328) (_ : IntKind.i64.min ≤ n) (_ : n ≤ IntKind.i64.max) (_ : IntKind.i64.min ≤ m) (_ : m ≤ IntKind.i64.max) (_ : IntKind.i64.min ≤ g) (_ : g ≤ IntKind.i64.max) :
    Calls Try.prog 4 #[agE x, .int .i64 n, .int .i64 m, .int .i64 g] w fun e w' => e = .returned (.bool true) ∧ Below w.heap.size w w' := readyRanks_x x n m g w hd
end Go.Proofs.Ytdfihhjnbikimaa
