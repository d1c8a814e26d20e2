/-
  The walks of the reference's digits and Print.
-/
import Derived.Test.YtafbapmbhjkheaaDoorDrDays
import Derived.Test.YtafbapmbhjkheaaDoorPrBack
namespace Go.Proofs.YtafbapmbhjkheaaDoor
open Go.RowKit
/-- The last k digits of a number. -/
def lastX (n : Nat) : Nat → List UInt8
  | 0 => []
  | k + 1 => dg (n / 10 ^ k % 10) :: lastX n k
theorem lastX_len (n : Nat) : ∀ k, (lastX n k).length = k
  | 0 => rfl
  | k + 1 => by rw [lastX, List.length_cons, lastX_len n k]
theorem last_2 {n : Nat} (h : n < 100) : lastX n 2 = b2 n := by
  show [dg (n / 10 ^ 1 % 10), dg (n / 10 ^ 0 % 10)] = [dg (n / 10), dg (n % 10)]
  rw [show n / 10 ^ 1 % 10 = n / 10 by omega, show n / 10 ^ 0 % 10 = n % 10 by omega]
theorem last_4 {n : Nat} (h : n < 10000) : lastX n 4 = b4 n := by
  show [dg (n / 10 ^ 3 % 10), dg (n / 10 ^ 2 % 10), dg (n / 10 ^ 1 % 10), dg (n / 10 ^ 0 % 10)] = [dg (n / 1000), dg (n / 100 % 10), dg (n / 10 % 10), dg (n % 10)]
  rw [show n / 10 ^ 3 % 10 = n / 1000 by omega, show n / 10 ^ 2 % 10 = n / 100 % 10 by omega, show n / 10 ^ 1 % 10 = n / 10 % 10 by omega, show n / 10 ^ 0 % 10 = n % 10 by omega]
theorem conv_one (w : World) (x : Int) (n : Nat) (hn : n < 10) (hx : x = n) (c : Nat) (hc : c = w.heap.size) : (convert 46 9 (.slice (some ⟨c, 0, none⟩) 1 1)).run Tryd.prog (w.alloc (.cells #[.int .u8 (48 + x)] 5)) = .ok (.string (mkS [dg n])) (w.alloc (.cells #[.int .u8 (48 + x)] 5)) := by
  have e : (48 : Int) + x = ((dg n).toNat : Int) := by rw [dg_nat hn]; omega
  subst hc
  rw [e]
  exact conv_bytes _ _ [dg n] 1 1 rfl (cells_new w [dg n] #[.int .u8 ((dg n).toNat : Int)] rfl w.heap.size rfl)
theorem cat_one (b : UInt8) (l : List UInt8) : mkS [b] ++ mkS l = mkS (b :: l) := by rw [mkS_cat]; rfl
set_option maxHeartbeats 2000000 in
theorem digits_x (n k : Nat) (w : World) (hn : n < 10000) (hk : k ≤ 4) : Calls Tryd.prog 38 #[.int .i64 (n : Int), .int .i64 (k : Int)] w fun e w' => e = .returned (.string (mkS (lastX n k))) ∧ Below w.heap.size w w' := by
  have HW := Lib.hid (Below.refl w.heap.size w)
  go_enter Tryd.func38, Tryd.ntmps38
  go_wp2_with fail
  go_loopw [0, 5, 6] (fun a s i wr => ∃ j q : Nat, j ≤ k ∧ i = .int .i64 j ∧ s = .string (mkS (lastX n j)) ∧ a = .int .i64 (q : Int) ∧ q < 10000 ∧ Hid (q = n / 10 ^ j) ∧ Hid (Below w.heap.size w wr)) (fun _ _ i _ => k - (intOf i).toNat)
  case atStart => exact ⟨0, n, Nat.zero_le _, rfl, rfl, rfl, hn, by show n = n / 10 ^ 0; omega, HW.out⟩
  case round =>
    obtain ⟨j, q, hj, rfl, rfl, rfl, hq, HQ, HB⟩ := hrel
    by_cases hlt : j < k
    · have hcv := conv_one wr ((q : Int) % 10) (q % 10) (by omega) (by omega) _ rfl
      have HL := Lib.hid (show lastX n (j + 1) = dg (q % 10) :: lastX n j by rw [lastX, HQ.out])
      have hz := mkS_size (lastX n j)
      rw [lastX_len] at hz
      have hz1 : (mkS [dg (q % 10)]).size = 1 := rfl
      have hct := cat_one (dg (q % 10)) (lastX n j)
      generalize lastX n j = ls at HL hz hct
      go_wp2_with fail
      go_roundw
      case rel => exact ⟨j + 1, q / 10, by omega, by go_num, by rw [HL.out], by go_num, by omega, by show q / 10 = n / 10 ^ (j + 1); rw [HQ.out, Nat.div_div_eq_div_mul, Nat.pow_succ], HB.out.alloc HB.out.size _⟩
      case measure => simp [intOf]; omega
    · obtain rfl : j = k := by omega
      go_wp2_with fail
      go_ret
      exact ⟨rfl, HB.out⟩
theorem dig2_x (v : Int) (w : World) (h0 : 0 ≤ v) (h1 : v < 100) : Calls Tryd.prog 38 #[.int .i64 v, .int .i64 2] w fun e w' => e = .returned (.string (mkS (b2 v.toNat))) ∧ Below w.heap.size w w' := by
  obtain ⟨n, rfl⟩ : ∃ n : Nat, v = n := ⟨v.toNat, by omega⟩
  rw [Int.toNat_natCast, ← last_2 (by omega)]
  exact digits_x n 2 w (by omega) (by omega)
theorem dig4_x (v : Int) (w : World) (h0 : 0 ≤ v) (h1 : v < 10000) : Calls Tryd.prog 38 #[.int .i64 v, .int .i64 4] w fun e w' => e = .returned (.string (mkS (b4 v.toNat))) ∧ Below w.heap.size w w' := by
  obtain ⟨n, rfl⟩ : ∃ n : Nat, v = n := ⟨v.toNat, by omega⟩
  rw [Int.toNat_natCast, ← last_4 (by omega)]
  exact digits_x n 4 w (by omega) (by omega)
/-- What the statement that lays the text keeps: the date in its box. -/
structure RP (w0 : World) (B : Nat) (y m d : Int) (w : World) : Prop where
  box : w.heap[B]? = some (.cells #[.int .i64 y, .int .i64 m, .int .i64 d] 30 (0, 0))
  below : Below w0.heap.size w0 w
theorem rp_new {w0 w1 : World} (h : Below w0.heap.size w0 w1) (y m d : Int) : RP w0 w1.heap.size y m d (w1.alloc (.cells #[.int .i64 y, .int .i64 m, .int .i64 d] 30)) := ⟨newOf w1 _, h.alloc h.size _⟩
theorem RP.next {w0 w w' : World} {B : Nat} {y m d : Int} (h : RP w0 B y m d w) (hb : Below w.heap.size w w') : RP w0 B y m d w' := ⟨(hb.block _ (ltOf h.box)).trans h.box, below_next h.below hb⟩
theorem RP.drew {w0 w : World} {B : Nat} {y m d : Int} (h : RP w0 B y m d w) : RP w0 B y m d w.drew := ⟨h.box, ⟨h.below.os, h.below.tape, h.below.output, h.below.size, h.below.block⟩⟩
theorem RP.cells {w0 w : World} {B : Nat} {y m d : Int} (h : RP w0 B y m d w) : w.cell? ⟨B, 0, none⟩ = some (.int .i64 y) ∧ w.cell? ⟨B, 1, none⟩ = some (.int .i64 m) ∧ w.cell? ⟨B, 2, none⟩ = some (.int .i64 d) ∧ Hid (RP w0 B y m d w) :=
  ⟨cellOf h.box 0, cellOf h.box 1, cellOf h.box 2, h⟩
theorem rp2_x {w0 w : World} {B : Nat} {y m d : Int} (h : Hid (RP w0 B y m d w)) (v : Int) (hv : 0 ≤ v ∧ v < 100) : Calls Tryd.prog 38 #[.int .i64 v, .int .i64 2] w fun e w' => e = .returned (.string (mkS (b2 v.toNat))) ∧ w'.cell? ⟨B, 0, none⟩ = some (.int .i64 y) ∧ w'.cell? ⟨B, 1, none⟩ = some (.int .i64 m) ∧ w'.cell? ⟨B, 2, none⟩ = some (.int .i64 d) ∧ Hid (RP w0 B y m d w') :=
  (dig2_x v w hv.1 hv.2).mono fun _ _ ⟨he, hb⟩ => ⟨he, (h.out.next hb).cells⟩
theorem rp4_x {w0 w : World} {B : Nat} {y m d : Int} (h : Hid (RP w0 B y m d w)) (v : Int) (hv : 0 ≤ v ∧ v < 10000) : Calls Tryd.prog 38 #[.int .i64 v, .int .i64 4] w fun e w' => e = .returned (.string (mkS (b4 v.toNat))) ∧ w'.cell? ⟨B, 0, none⟩ = some (.int .i64 y) ∧ w'.cell? ⟨B, 1, none⟩ = some (.int .i64 m) ∧ w'.cell? ⟨B, 2, none⟩ = some (.int .i64 d) ∧ Hid (RP w0 B y m d w') :=
  (dig4_x v w hv.1 hv.2).mono fun _ _ ⟨he, hb⟩ => ⟨he, (h.out.next hb).cells⟩
theorem cat_text (a b c d e f : List UInt8) : mkS a ++ { data := #[45] } ++ mkS b ++ { data := #[45] } ++ mkS c ++ { data := #[84] } ++ mkS d ++ { data := #[58] } ++ mkS e ++ { data := #[58] } ++ mkS f ++ { data := #[90] } = mkS (a ++ [45] ++ b ++ [45] ++ c ++ [84] ++ d ++ [58] ++ e ++ [58] ++ f ++ [90]) := by
  simp only [show ({ data := #[45] } : ByteArray) = mkS [45] from rfl, show ({ data := #[84] } : ByteArray) = mkS [84] from rfl, show ({ data := #[58] } : ByteArray) = mkS [58] from rfl, show ({ data := #[90] } : ByteArray) = mkS [90] from rfl, mkS_cat]
def RPrintPost (t : Int) (w : World) (e : Ending) (w' : World) : Prop := e = .returned (.tuple #[.string (mkS (printS t)), .int .i64 (printE t)]) ∧ Below w.heap.size w w'
theorem rprint_end {t : Int} {q : ByteArray} {w w' : World} (h1 : mkS (printS t) = q) (h2 : printE t = 0) (hb : Below w.heap.size w w') : RPrintPost t w (.returned (.tuple #[.string q, .int .i64 0])) w' := ⟨by rw [h1, h2], hb⟩
set_option maxHeartbeats 1000000 in
theorem rprint_no (t : Int) (w : World) (ht : t < 0 ∨ 253402300799 < t) : Calls Tryd.prog 16 #[.int .i64 t] w (RPrintPost t w) := by
  have hf : timB t = false := Bool.eq_false_iff.2 fun e => by have := timB_iff.1 e; omega
  have HS := Lib.hid (print_none hf)
  clear hf
  by_cases h1 : t < 0
  · have d1 : decide (t < 0) = true := decide_eq_true h1
    go_enter Tryd.func16, Tryd.ntmps16
    go_wp2_with fail
    go_ret2
    exact ⟨by rw [HS.out.1, HS.out.2]; rfl, Below.refl _ _⟩
  · have d1 : decide (t < 0) = false := decide_eq_false h1
    have d2 : decide (253402300799 < t) = true := decide_eq_true (by omega)
    go_enter Tryd.func16, Tryd.ntmps16
    go_wp2_with fail
    go_ret2
    exact ⟨by rw [HS.out.1, HS.out.2]; rfl, Below.refl _ _⟩
set_option maxHeartbeats 8000000 in
theorem rprint_yes (t : Int) (w : World) (h0 : 0 ≤ t) (h1 : t ≤ 253402300799) : Calls Tryd.prog 16 #[.int .i64 t] w (RPrintPost t w) := by
  have ht : timB t = true := timB_iff.2 ⟨h0, h1⟩
  have d1 : decide (t < 0) = false := decide_eq_false (by omega)
  have d2 : decide (253402300799 < t) = false := decide_eq_false (by omega)
  have HO := Lib.hid (rof_x (t / 86400) w (by omega))
  have hsp := ofD_spec (n := t / 86400) (by omega) (by omega)
  have HE := Lib.hid (show ofV (t / 86400) = .tuple #[.agg #[.int .i64 (ofD (t / 86400)).1, .int .i64 (ofD (t / 86400)).2.1, .int .i64 (ofD (t / 86400)).2.2], .int .i64 0] by rw [ofV, ofE, if_pos (by omega)])
  have HS := Lib.hid (show mkS (printS t) = mkS (textX (ofD (t / 86400)).1.toNat (ofD (t / 86400)).2.1.toNat (ofD (t / 86400)).2.2.toNat (t % 86400 / 3600).toNat (t % 86400 % 3600 / 60).toNat (t % 86400 % 60).toNat) ∧ printE t = 0 by
    unfold printS printE printX
    rw [ht, show t % 86400 % 3600 = t % 3600 by omega, show t % 86400 % 60 = t % 60 by omega]
    exact ⟨rfl, rfl⟩)
  unfold OfPost at HO
  rw [HE.out] at HO
  generalize (ofD (t / 86400)).1 = y at *
  generalize (ofD (t / 86400)).2.1 = m at *
  generalize (ofD (t / 86400)).2.2 = d at *
  have hv := hsp.1
  have hm := hv.m
  have hd := hv.d31
  have hd1 := hv.d1
  have hy1 := hv.y1
  have hy2 := hv.y2
  clear hsp ht hv HE
  go_enter Tryd.func16, Tryd.ntmps16
  go_wp2_with fail
  refine HO.out.mono ?_
  rintro e w1 ⟨rfl, hb1⟩
  have HB1 := Lib.hid hb1
  clear hb1
  go_wp2_with fail
  have hT : 0 ≤ t % 86400 ∧ t % 86400 < 86400 := by omega
  generalize t % 86400 = T at HS hT
  have q1 : IntKind.i64.wrap (T.tdiv 3600) = T / 3600 := IntWalk.i64_quo _ _ (by omega)
  have q2 : T.tmod 3600 = T % 3600 := IntWalk.rem_in _ _ (by omega)
  have q3 : IntKind.i64.wrap ((T % 3600).tdiv 60) = T % 3600 / 60 := IntWalk.i64_quo _ _ (by omega)
  have q4 : T.tmod 60 = T % 60 := IntWalk.rem_in _ _ (by omega)
  have z0 : (mkS (b4 y.toNat)).size = 4 := rfl
  have z1 : (mkS (b2 m.toNat)).size = 2 := rfl
  have z2 : (mkS (b2 d.toNat)).size = 2 := rfl
  have z3 : (mkS (b2 (T / 3600).toNat)).size = 2 := rfl
  have z4 : (mkS (b2 (T % 3600 / 60).toNat)).size = 2 := rfl
  have z5 : (mkS (b2 (T % 60).toNat)).size = 2 := rfl
  have b1 : 0 ≤ y ∧ y < 10000 := by omega
  have b2' : 0 ≤ m ∧ m < 100 := by omega
  have b3 : 0 ≤ d ∧ d < 100 := by omega
  have b4' : 0 ≤ T / 3600 ∧ T / 3600 < 100 := by omega
  have b5 : 0 ≤ T % 3600 / 60 ∧ T % 3600 / 60 < 100 := by omega
  have b6 : 0 ≤ T % 60 ∧ T % 60 < 100 := by omega
  have B1 := Lib.hid b1
  have B2 := Lib.hid b2'
  have B3 := Lib.hid b3
  have B4 := Lib.hid b4'
  have B5 := Lib.hid b5
  have B6 := Lib.hid b6
  clear b1 b2' b3 b4' b5 b6 hm hd hd1 hy1 hy2 hT
  have HP := Lib.hid (rp_new HB1.out y m d)
  go_region_held3 (fun wr => wr.cell? ⟨w1.heap.size, 0, none⟩ = some (.int .i64 y) ∧ wr.cell? ⟨w1.heap.size, 1, none⟩ = some (.int .i64 m) ∧ wr.cell? ⟨w1.heap.size, 2, none⟩ = some (.int .i64 d) ∧ Hid (RP w w1.heap.size y m d wr))
    (first | exact HP.out.drew.cells | exact HP.out.cells | exact ⟨by assumption, by assumption, by assumption, by assumption⟩)
    (first
      | (go_at_call 38; (with_reducible refine (rp4_x (w0 := w) (B := w1.heap.size) (y := y) (m := m) (d := d) ?_ y B1.out).mono ?_); (first | exact Lib.hid HP.out.drew | assumption | exact Lib.hid HP.out); rintro e w2 ⟨rfl, g0, g1, g2, g3⟩)
      | (go_at_call 38; (with_reducible refine (rp2_x (w0 := w) (B := w1.heap.size) (y := y) (m := m) (d := d) ?_ m B2.out).mono ?_); (first | exact Lib.hid HP.out.drew | assumption | exact Lib.hid HP.out); rintro e w2 ⟨rfl, g0, g1, g2, g3⟩)
      | (go_at_call 38; (with_reducible refine (rp2_x (w0 := w) (B := w1.heap.size) (y := y) (m := m) (d := d) ?_ d B3.out).mono ?_); (first | exact Lib.hid HP.out.drew | assumption | exact Lib.hid HP.out); rintro e w2 ⟨rfl, g0, g1, g2, g3⟩)
      | (go_at_call 38; (with_reducible refine (rp2_x (w0 := w) (B := w1.heap.size) (y := y) (m := m) (d := d) ?_ (T / 3600) B4.out).mono ?_); (first | exact Lib.hid HP.out.drew | assumption | exact Lib.hid HP.out); rintro e w2 ⟨rfl, g0, g1, g2, g3⟩)
      | (go_at_call 38; (with_reducible refine (rp2_x (w0 := w) (B := w1.heap.size) (y := y) (m := m) (d := d) ?_ (T % 3600 / 60) B5.out).mono ?_); (first | exact Lib.hid HP.out.drew | assumption | exact Lib.hid HP.out); rintro e w2 ⟨rfl, g0, g1, g2, g3⟩)
      | (go_at_call 38; (with_reducible refine (rp2_x (w0 := w) (B := w1.heap.size) (y := y) (m := m) (d := d) ?_ (T % 60) B6.out).mono ?_); (first | exact Lib.hid HP.out.drew | assumption | exact Lib.hid HP.out); rintro e w2 ⟨rfl, g0, g1, g2, g3⟩))
  all_goals
    have HF := Lib.hid g3.out.below
    clear q1 q2 q3 q4 g0 g1 g2 g3
    go_wp2_with fail
    go_ret2
    exact rprint_end (by rw [HS.out.1, textX, cat_text]) HS.out.2 HF.out
theorem rprint_x (t : Int) (w : World) : Calls Tryd.prog 16 #[.int .i64 t] w (RPrintPost t w) := by
  by_cases h : 0 ≤ t ∧ t ≤ 253402300799
  · exact rprint_yes t w h.1 h.2
  · exact rprint_no t w (by omega)
end Go.Proofs.YtafbapmbhjkheaaDoor
