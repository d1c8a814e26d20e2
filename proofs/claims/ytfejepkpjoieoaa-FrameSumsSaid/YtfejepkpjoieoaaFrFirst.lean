/-
  The walks of unsealed and of first.
-/
import Derived.Test.YtfejepkpjoieoaaFrLaid
import Derived.Test.YtfejepkpjoieoaaShelf
namespace Go.Proofs.Ytfejepkpjoieoaa
set_option maxRecDepth 100000
open Go.RowKit
theorem hasP_eq : ∀ (s p : List UInt8), Lib.hasPrefix s p = p.isPrefixOf s := by
  intro s p
  simp [Lib.hasPrefix]
theorem cutp_x (s p : Txt) (w : World) :
    Calls Try.prog 36 #[.string (mkS s), .string (mkS p)] w fun e w' => e = .returned (.tuple #[.string (mkS (Lib.trimPrefix s p)), .bool (p.isPrefixOf s)]) ∧ w = w' :=
  (Try.strings_CutPrefix (mkS s) (mkS p) w).mono fun e w' ⟨he, hw⟩ => ⟨by rw [he, mkS_data, mkS_data, hasP_eq]; rfl, hw.symm⟩
theorem trim_yes {s p : Txt} (h : p.isPrefixOf s = true) : Lib.trimPrefix s p = s.drop p.length := by
  simp [Lib.trimPrefix, hasP_eq, h]
/-- What unsealed answers where nothing is whole. -/
def UsNo (w : World) (e : Ending) (w' : World) : Prop := ∃ x y : Txt, e = .returned (.tuple #[.string (mkS x), .string (mkS y), .bool false]) ∧ Below w.heap.size w w'
def UsYes (p r : Txt) (w : World) (e : Ending) (w' : World) : Prop := e = .returned (.tuple #[.string (mkS p), .string (mkS r), .bool true]) ∧ Below w.heap.size w w'
set_option maxHeartbeats 1000000 in
theorem us_walk (l : Txt) (n : Nat) (w : World) (hl : l.length ≤ 1000000000) (hn : n ≤ l.length) (b : Bool) (hb : (le4 (sumF (l.take n))).isPrefixOf (l.drop n) = b) :
    Calls Try.prog 32 #[.string (mkS l), .int .i64 (n : Int)] w fun e w' => e = .returned (.tuple #[.string (mkS (l.take n)), .string (mkS (Lib.trimPrefix (l.drop n) (le4 (sumF (l.take n))))), .bool b]) ∧ Below w.heap.size w w' := by
  have hms := mkS_size l
  have he1 : (mkS l).extract 0 n = mkS (l.take n) := by rw [mkS_extract, List.drop_zero]
  have he2 : (mkS l).extract n l.length = mkS (l.drop n) := by rw [mkS_extract, List.take_length]
  have c1 : (0 : Int) ≤ (n : Int) := by omega
  have c2 : (n : Int) ≤ (l.length : Int) := by omega
  have c5 : (n : Int).toNat = n := by omega
  have HS := Lib.hid (fun w => sum_x (l.take n) w (by rw [List.length_take]; omega))
  have HL := Lib.hid (fun w => laidu32_x (sumF (l.take n)) w (sumF_lt _))
  have HC := Lib.hid (fun w => cutp_x (l.drop n) (le4 (sumF (l.take n))) w)
  rw [hb] at HC
  clear hb
  generalize l.take n = pc at *
  generalize l.drop n = rs at *
  generalize le4 (sumF pc) = q at *
  generalize sumF pc = s at *
  generalize Lib.trimPrefix rs q = z at *
  have d1 : decide (l.length < n) = false := decide_eq_false (by omega)
  go_enter Try.func32, Try.ntmps32
  go_wp2_with fail
  go_region_held3 (fun _ => True) (trivial) (first
    | (go_at_call 15; (with_reducible refine (HS.out _).mono ?_); rintro y w4 ⟨rfl, rfl⟩)
    | (go_at_call 30; (with_reducible refine (HL.out _).mono ?_); rintro y w5 ⟨rfl, hb5⟩)
    | (go_at_call 36; (with_reducible refine (HC.out _).mono ?_); rintro y w6 ⟨rfl, rfl⟩))
  all_goals
    have HB := Lib.hid hb5
    clear hb5
    go_wp2_with fail
    go_ret3
    exact ⟨rfl, by first | exact HB.out | exact ⟨HB.out.os, HB.out.tape, HB.out.output, HB.out.size, HB.out.block⟩⟩
theorem us_yes (l : Txt) (n : Nat) (p r : Txt) (w : World) (hl : l.length ≤ 1000000000) (h : unsealF l n = some (p, r)) :
    Calls Try.prog 32 #[.string (mkS l), .int .i64 (n : Int)] w (UsYes p r w) := by
  unfold unsealF at h
  split at h
  · cases h
  · split at h
    · rename_i h1 h2
      injection h with h
      injection h with hp hr
      refine (us_walk l n w hl (by omega) true h2).mono fun e w' ⟨he, hw⟩ => ⟨?_, hw⟩
      rw [he, trim_yes h2, le4_len, List.drop_drop, hp, hr]
    · cases h
set_option maxHeartbeats 1000000 in
theorem us_short (l : Txt) (n : Nat) (w : World) (h : l.length < n) :
    Calls Try.prog 32 #[.string (mkS l), .int .i64 (n : Int)] w fun e w' => e = .returned (.tuple #[.string { data := #[] }, .string { data := #[] }, .bool false]) ∧ w = w' := by
  have hms := mkS_size l
  have d1 : decide (l.length < n) = true := decide_eq_true h
  go_enter Try.func32, Try.ntmps32
  go_wp2_with fail
  go_ret3
  exact ⟨rfl, rfl⟩
theorem us_no (l : Txt) (n : Nat) (w : World) (hl : l.length ≤ 1000000000) (h : unsealF l n = none) :
    Calls Try.prog 32 #[.string (mkS l), .int .i64 (n : Int)] w (UsNo w) := by
  unfold unsealF at h
  split at h
  · rename_i h1
    exact (us_short l n w h1).mono fun e w' ⟨he, hw⟩ => ⟨[], [], he, hw ▸ Below.refl _ _⟩
  · split at h
    · cases h
    · rename_i h1 h2
      exact (us_walk l n w hl (by omega) false (Bool.eq_false_iff.2 h2)).mono fun e w' ⟨he, hw⟩ => ⟨_, _, he, hw⟩
theorem or_len (a b : UInt8) : bits .or .i64 (a.toNat : Int) ((b.toNat : Int) * 256) = (((a.toNat + 256 * b.toNat : Nat)) : Int) := by
  have ha := a.toNat_lt
  have hb := b.toNat_lt
  have e : a.toNat ||| (b.toNat * 256) = a.toNat + 256 * b.toNat := by
    have := Nat.shiftLeft_add_eq_or_of_lt (i := 8) (b := a.toNat) ha b.toNat
    rw [Nat.or_comm, show b.toNat * 256 = b.toNat <<< 8 by rw [Nat.shiftLeft_eq], ← this, Nat.shiftLeft_eq]
    omega
  have h1 : (BitVec.ofInt 64 (a.toNat : Int)).toNat = a.toNat := by
    rw [BitVec.ofInt_natCast, BitVec.toNat_ofNat]; exact Nat.mod_eq_of_lt (by omega)
  have h2 : (BitVec.ofInt 64 ((b.toNat : Int) * 256)).toNat = b.toNat * 256 := by
    rw [show ((b.toNat : Int) * 256) = ((b.toNat * 256 : Nat) : Int) by omega, BitVec.ofInt_natCast, BitVec.toNat_ofNat]; exact Nat.mod_eq_of_lt (by omega)
  show IntKind.i64.wrap ((BitVec.ofInt 64 (a.toNat : Int) ||| BitVec.ofInt 64 ((b.toNat : Int) * 256)).toNat : Int) = _
  rw [BitVec.toNat_or, h1, h2, e]
  exact IntWalk.i64_in _ (by omega)
def FirstNo (w : World) (e : Ending) (w' : World) : Prop := ∃ x : Txt, e = .returned (.tuple #[.string (mkS x), .bool false]) ∧ Below w.heap.size w w'
theorem len_at {p : Txt} (h : p.length = 2) : ∃ a b : UInt8, p = [a, b] ∧ lenF p = a.toNat + 256 * b.toNat := by
  match p, h with
  | [a, b], _ => exact ⟨a, b, rfl, by simp [lenF]⟩
set_option maxHeartbeats 1000000 in
/-- first where the length stands there. -/
theorem first_in (l rest : Txt) (a b : UInt8) (w : World) (hl : l.length ≤ 1000000000) (h : unsealF l 2 = some ([a, b], rest)) (x y : Txt) (q : Bool)
    (hu : ∀ w : World, Calls Try.prog 32 #[.string (mkS rest), .int .i64 ((a.toNat + 256 * b.toNat : Nat) : Int)] w fun e w' => e = .returned (.tuple #[.string (mkS x), .string (mkS y), .bool q]) ∧ Below w.heap.size w w') :
    Calls Try.prog 25 #[.string (mkS l)] w fun e w' => e = .returned (.tuple #[.string (mkS x), .bool q]) ∧ Below w.heap.size w w' := by
  have HU := Lib.hid hu
  have HY := Lib.hid (show ∀ w, Calls Try.prog 32 #[.string (mkS l), .int .i64 2] w fun e w' => e = .returned (.tuple #[.string (mkS [a, b]), .string (mkS rest), .bool true]) ∧ Below w.heap.size w w' from fun w => us_yes l 2 [a, b] rest w hl h)
  have hm2 : (mkS [a, b]).size = 2 := rfl
  have g0 : ∀ h, (mkS [a, b])[0]'h = a := fun h => mkS_get h rfl
  have g1 : ∀ h, (mkS [a, b])[1]'h = b := fun h => mkS_get h rfl
  have e1 := or_len a b
  have ha := a.toNat_lt
  have hb := b.toNat_lt
  generalize mkS [a, b] = t2 at HY hm2 g0 g1
  have q1 : IntKind.i64.wrap (a.toNat : Int) = (a.toNat : Int) := IntWalk.i64_in _ (by omega)
  have q2 : IntKind.i64.wrap (b.toNat : Int) = (b.toNat : Int) := IntWalk.i64_in _ (by omega)
  have q3 : IntKind.i64.wrap ((b.toNat : Int) * 256) = (b.toNat : Int) * 256 := IntWalk.i64_in _ (by omega)
  generalize a.toNat + 256 * b.toNat = n at HU e1
  clear h hu
  go_enter Try.func25, Try.ntmps25
  go_wp2_with fail
  refine (HY.out _).mono ?_
  rintro e w1 ⟨rfl, hb1⟩
  have HB1 := Lib.hid hb1
  clear hb1
  go_wp2_with fail
  go_region_held3 (fun _ => True) (trivial) ((go_at_call 32; (with_reducible refine (HU.out _).mono ?_); rintro y w4 ⟨rfl, hb5⟩))
  all_goals
    have HB := Lib.hid hb5
    clear hb5
    go_wp2_with fail
    go_ret2
    exact ⟨rfl, below_next HB1.out (by first | exact HB.out | exact ⟨HB.out.os, HB.out.tape, HB.out.output, HB.out.size, HB.out.block⟩)⟩
set_option maxHeartbeats 1000000 in
theorem first_short (l : Txt) (w : World) (hl : l.length ≤ 1000000000) (h : unsealF l 2 = none) :
    Calls Try.prog 25 #[.string (mkS l)] w (FirstNo w) := by
  have HN := Lib.hid (fun w => us_no l 2 w hl h)
  clear h
  go_enter Try.func25, Try.ntmps25
  go_wp2_with fail
  refine (HN.out _).mono ?_
  rintro e w1 ⟨x, y, rfl, hb1⟩
  have HB1 := Lib.hid hb1
  clear hb1
  go_wp2_with fail
  go_ret2
  exact ⟨[], rfl, HB1.out⟩
theorem first_yes (l r : Txt) (w : World) (hl : l.length ≤ 1000000000) (h : firstF l = some r) :
    Calls Try.prog 25 #[.string (mkS l)] w fun e w' => e = .returned (.tuple #[.string (mkS r), .bool true]) ∧ Below w.heap.size w w' := by
  unfold firstF at h
  cases h1 : unsealF l 2 with
  | none => rw [h1] at h; cases h
  | some q =>
    obtain ⟨p, rest⟩ := q
    rw [h1] at h
    simp only at h
    cases h2 : unsealF rest (lenF p) with
    | none => rw [h2] at h; cases h
    | some q' =>
      obtain ⟨r', t⟩ := q'
      rw [h2] at h
      simp only at h
      injection h with h
      subst h
      obtain ⟨hp, e1⟩ := unseal_some.1 h1
      obtain ⟨a, b, rfl, hn⟩ := len_at hp
      have hr : rest.length ≤ 1000000000 := by
        have := congrArg List.length e1
        rw [List.length_append] at this
        omega
      rw [hn] at h2
      exact first_in l rest a b w hl h1 r' t true fun w => us_yes rest _ r' t w hr h2
theorem first_no (l : Txt) (w : World) (hl : l.length ≤ 1000000000) (h : firstF l = none) :
    Calls Try.prog 25 #[.string (mkS l)] w (FirstNo w) := by
  unfold firstF at h
  cases h1 : unsealF l 2 with
  | none => exact first_short l w hl h1
  | some q =>
    obtain ⟨p, rest⟩ := q
    rw [h1] at h
    simp only at h
    obtain ⟨hp, e1⟩ := unseal_some.1 h1
    obtain ⟨a, b, rfl, hn⟩ := len_at hp
    have hr : rest.length ≤ 1000000000 := by
      have := congrArg List.length e1
      rw [List.length_append] at this
      omega
    rw [hn] at h
    cases h2 : unsealF rest (a.toNat + 256 * b.toNat) with
    | some q' => rw [h2] at h; cases h
    | none =>
      unfold unsealF at h2
      split at h2
      · rename_i h3
        exact (first_in l rest a b w hl h1 [] [] false fun w => (us_short rest _ w h3).mono fun e w' ⟨he, hw⟩ => ⟨he, hw ▸ Below.refl _ _⟩).mono fun e w' ⟨he, hw⟩ => ⟨_, he, hw⟩
      · split at h2
        · cases h2
        · rename_i h3 h4
          exact (first_in l rest a b w hl h1 _ _ false fun w => us_walk rest _ w hr (by omega) false (Bool.eq_false_iff.2 h4)).mono fun e w' ⟨he, hw⟩ => ⟨_, he, hw⟩
end Go.Proofs.Ytfejepkpjoieoaa
