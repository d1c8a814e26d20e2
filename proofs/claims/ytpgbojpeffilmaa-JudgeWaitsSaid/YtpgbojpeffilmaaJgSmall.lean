/-
  The walks of judge's small functions: within, Right, Wait, sum, Expires, warned, Deadline, returned, kinds, asked.
-/
import Derived.Test.YtpgbojpeffilmaaProg
import Derived.Test.YtpgbojpeffilmaaJgMath
import Derived.Test.YtpgbojpeffilmaaMaBuild
import Derived.Test.YtpgbojpeffilmaaMaEvA
import Derived.Test.YtpgbojpeffilmaaRows
import Derived.Lib.IndexAny
import Derived.Laws.Runes
import Derived.Lib.Small
import Derived.Lib.Bytealg
import Derived.Lib.ItoaNum
import Derived.Lib.Atoi
import Derived.Lib.Join
import Derived.Lib.Strings
import Derived.Lib.TrimByte
import Derived.Lib.IndexMore
import Derived.Lib.AtoiTie
import Derived.WalkKit
import Derived.WalkSpells
import Derived.WalkLawsBesides
import Derived.Deep.QuietTactic
import Derived.BigQuiet
import Derived.StillTailTactics
import Derived.Lib.Hide
import Derived.Maps.AppendAt
import Derived.Deep.AppendLies
import Derived.Deep.RegionWith
import Derived.Deep.RegionHeld3
import Derived.Deep.DeepFit
import Derived.Deep.LoopGhost
import Derived.IntWalk
import Derived.Lib.IndexBytes
import Derived.Laws.BytesString
import Derived.Shelf.Strings.Search1
import Derived.Shelf.Strings.Search2
import Derived.Shelf.Strings.Search3
import Derived.Shelf.LaysM
import Derived.Shelf.Strings.Shaped
import Derived.Shelf.Strings.BuilderK
import Derived.Lib.FrozenHead2
import Derived.Deep.MidRow
import Derived.Laws.ResultCell
import Derived.Laws.RangeAny
namespace Go.Proofs.Ytpgbojpeffilmaa.E.J
set_option maxRecDepth 100000
open Go.RowKit Go.Shelf
abbrev plA (p : PJ) : Value := .agg #[.int .i64 p.base, .int .i64 p.most, .int .i64 p.life, .int .i64 p.warn]
theorem jwithin_x (n a b : Int) (w : World) : Calls Try.prog 14 #[.int .i64 n, .int .i64 a, .int .i64 b] w fun e w' => e = .returned (.bool (inI n a b)) ∧ w = w' := by
  unfold inI
  cases h1 : decide (a ≤ n) <;> cases h2 : decide (n ≤ b)
  all_goals
    go_enter Try.func14, Try.ntmps14
    go_wp2_with fail
    go_ret
    exact ⟨rfl, rfl⟩
set_option maxHeartbeats 4000000 in
theorem jright_x (p : PJ) (w : World) : Calls Try.prog 5 #[plA p] w fun e w' => e = .returned (.int .i64 (if okP p then 0 else 1)) ∧ Below w.heap.size w w' := by
  have H1 := Lib.hid (fun w => jwithin_x p.most 1 1048576 w)
  have H2 := Lib.hid (fun w => jwithin_x p.base 1 p.most w)
  have H3 := Lib.hid (fun w => jwithin_x p.life 1 1073741824 w)
  have H4 := Lib.hid (fun w => jwithin_x p.warn 1 1073741824 w)
  have HB := Lib.hid (below_box w (.cells #[.int .i64 p.base, .int .i64 p.most, .int .i64 p.life, .int .i64 p.warn] 23))
  unfold okP plA
  generalize inI p.most 1 1048576 = q1 at H1 ⊢
  generalize inI p.base 1 p.most = q2 at H2 ⊢
  generalize inI p.life 1 1073741824 = q3 at H3 ⊢
  generalize inI p.warn 1 1073741824 = q4 at H4 ⊢
  cases q1
  · go_enter Try.func5, Try.ntmps5
    go_wp2_with (first | (go_at_call 14; (with_reducible refine (H1.out _).mono ?_); rintro e w' ⟨rfl, rfl⟩))
    go_ret
    exact ⟨rfl, HB.out⟩
  · cases q2
    · go_enter Try.func5, Try.ntmps5
      go_wp2_with (first | (go_at_call 14; (with_reducible refine (H1.out _).mono ?_); rintro e w' ⟨rfl, rfl⟩) | (go_at_call 14; (with_reducible refine (H2.out _).mono ?_); rintro e w' ⟨rfl, rfl⟩))
      go_ret
      exact ⟨rfl, HB.out⟩
    · cases q3
      · go_enter Try.func5, Try.ntmps5
        go_wp2_with (first | (go_at_call 14; (with_reducible refine (H1.out _).mono ?_); rintro e w' ⟨rfl, rfl⟩) | (go_at_call 14; (with_reducible refine (H2.out _).mono ?_); rintro e w' ⟨rfl, rfl⟩) | (go_at_call 14; (with_reducible refine (H3.out _).mono ?_); rintro e w' ⟨rfl, rfl⟩))
        go_ret
        exact ⟨rfl, HB.out⟩
      · cases q4
        all_goals
          go_enter Try.func5, Try.ntmps5
          go_wp2_with (first | (go_at_call 14; (with_reducible refine (H1.out _).mono ?_); rintro e w' ⟨rfl, rfl⟩) | (go_at_call 14; (with_reducible refine (H2.out _).mono ?_); rintro e w' ⟨rfl, rfl⟩) | (go_at_call 14; (with_reducible refine (H3.out _).mono ?_); rintro e w' ⟨rfl, rfl⟩) | (go_at_call 14; (with_reducible refine (H4.out _).mono ?_); rintro e w' ⟨rfl, rfl⟩))
          go_ret
          exact ⟨rfl, HB.out⟩
set_option maxHeartbeats 4000000 in
theorem jsum_x (a b : Int) (w : World) (ha : -4000000000000000000 ≤ a ∧ a ≤ 4000000000000000000) (hb : -4000000000000000000 ≤ b ∧ b ≤ 4000000000000000000) :
    Calls Try.prog 18 #[.int .i64 a, .int .i64 b] w fun e w' => e = .returned (.int .i64 (a + b)) ∧ w = w' := by
  have q1 : IntKind.i64.wrap (9223372036854775807 - b) = 9223372036854775807 - b ∨ b ≤ 0 := by
    by_cases h : b ≤ 0
    · exact .inr h
    · exact .inl (IntWalk.i64_in _ (by omega))
  have q2 : IntKind.i64.wrap (-9223372036854775808 - b) = -9223372036854775808 - b ∨ 0 ≤ b := by
    by_cases h : 0 ≤ b
    · exact .inr h
    · exact .inl (IntWalk.i64_in _ (by omega))
  have q3 : IntKind.i64.wrap (a + b) = a + b := IntWalk.i64_in _ (by omega)
  by_cases h0 : 0 < b
  · have d1 : decide (0 < b) = true := decide_eq_true h0
    have q4 : IntKind.i64.wrap (9223372036854775807 - b) = 9223372036854775807 - b := q1.resolve_right (by omega)
    have d2 : decide (9223372036854775807 - b < a) = false := decide_eq_false (by omega)
    have d3 : decide (b < 0) = false := decide_eq_false (by omega)
    clear q1 q2
    go_enter Try.func18, Try.ntmps18
    go_wp2_with fail
    go_ret
    exact ⟨rfl, rfl⟩
  · have d1 : decide (0 < b) = false := decide_eq_false h0
    by_cases h1 : b < 0
    · have d3 : decide (b < 0) = true := decide_eq_true h1
      have q4 : IntKind.i64.wrap (-9223372036854775808 - b) = -9223372036854775808 - b := q2.resolve_right (by omega)
      have d2 : decide (a < -9223372036854775808 - b) = false := decide_eq_false (by omega)
      clear q1 q2
      go_enter Try.func18, Try.ntmps18
      go_wp2_with fail
      go_ret
      exact ⟨rfl, rfl⟩
    · have d3 : decide (b < 0) = false := decide_eq_false h1
      clear q1 q2
      go_enter Try.func18, Try.ntmps18
      go_wp2_with fail
      go_ret
      exact ⟨rfl, rfl⟩
set_option maxHeartbeats 8000000 in
theorem jwait_x (p : PJ) (t : Int) (w : World) (hp : okP p = true) (h1 : -1000000000000 ≤ t) (h2 : t ≤ 1000000000000) :
    Calls Try.prog 6 #[plA p, .int .i64 t] w fun e w' => e = .returned (.int .i64 (waitJ p t)) ∧ Below w.heap.size w w' := by
  have HB := Lib.hid (below_box w (.cells #[.int .i64 p.base, .int .i64 p.most, .int .i64 p.life, .int .i64 p.warn] 23))
  have HN := Lib.hid (newOf w (.cells #[.int .i64 p.base, .int .i64 p.most, .int .i64 p.life, .int .i64 p.warn] 23))
  obtain ⟨⟨m1, m2⟩, ⟨b1, b2⟩, _⟩ := okP_iff.1 hp
  obtain ⟨n, hn⟩ : ∃ n, dblJ t = n := ⟨_, rfl⟩
  have hn2 : min (max t 1 - 1) 63 = (n : Int) := by rw [← hn]; unfold dblJ; omega
  have hn3 : n ≤ 63 := by rw [← hn]; exact dbl_le t
  have HWJ := Lib.hid (show waitJ p t = min (p.base * 2 ^ n) p.most by unfold waitJ; rw [hn])
  have q1 : IntKind.i64.wrap (max t 1 - 1) = max t 1 - 1 := IntWalk.i64_in _ (by omega)
  have q2 : p.most.tdiv 2 = p.most / 2 := Int.tdiv_eq_ediv_of_nonneg (by omega)
  have q3 : IntKind.i64.wrap (p.most / 2) = p.most / 2 := IntWalk.i64_in _ (by omega)
  have q4 : max (p.most / 2) 0 = p.most / 2 := by omega
  have HP := Lib.hid hp
  clear hn hp
  unfold plA
  go_enter Try.func6, Try.ntmps6
  go_wp2_with fail
  go_loop [5, 12] (fun wv iv => ∃ k : Nat, k ≤ n ∧ iv = .int .i64 k ∧ wv = .int .i64 (p.base * 2 ^ k) ∧ Hid (p.base * 2 ^ k ≤ p.most)) (fun _ iv => n - (intOf iv).toNat)
  case atStart => exact ⟨0, Nat.zero_le _, rfl, by simp, Lib.hid (by simpa using b2)⟩
  case round =>
    obtain ⟨k, hk, rfl, rfl, HK⟩ := hrel
    have hbk := mul_pos1 b1 k
    have HPW := Lib.hid (show p.base * 2 ^ (k + 1) = 2 * (p.base * 2 ^ k) from wait_dbl k)
    have HST := Lib.hid (fun (hk : k < n) (hw : p.most / 2 < p.base * 2 ^ k) => wait_stop HP.out hk hw)
    have HEN := Lib.hid (fun (e : k = n) => show waitJ p t = min (p.base * 2 ^ k) p.most by rw [HWJ.out, e])
    have hkm := HK.out
    generalize p.base * 2 ^ k = x at *
    have q5 : max x (-4611686018427387904) = x := by omega
    by_cases hlt : k < n
    · have d1 : decide ((k : Int) < (n : Int)) = true := decide_eq_true (by omega)
      by_cases hw : p.most / 2 < x
      · have d2 : decide (p.most / 2 < x) = true := decide_eq_true hw
        have HE := Lib.hid (HWJ.out.trans (HST.out hlt hw))
        clear hw hkm HST
        go_wp2_with fail
        go_ret
        exact ⟨ret_int HE.out.symm, HB.out⟩
      · have d2 : decide (p.most / 2 < x) = false := decide_eq_false hw
        have q6 : IntKind.i64.wrap (2 * x) = 2 * x := IntWalk.i64_in _ (by omega)
        have HM := Lib.hid (show 2 * x ≤ p.most by omega)
        clear hw hkm HST
        go_wp2_with fail
        go_round
        case rel => exact ⟨k + 1, by omega, by go_num, by rw [HPW.out], Lib.hid (by rw [HPW.out]; exact HM.out)⟩
        case measure => simp [intOf]; omega
    · have HE := Lib.hid (HEN.out (by omega))
      obtain rfl : k = n := by omega
      have d1 : decide ((k : Int) < (k : Int)) = false := decide_eq_false (by omega)
      clear HST HEN
      go_wp2_with fail
      go_ret
      exact ⟨ret_int HE.out.symm, HB.out⟩
end Go.Proofs.Ytpgbojpeffilmaa.E.J
