/-
  Plain mathematics for the law PathBack, and the answers that the laws lean on.
-/
import Derived.Test.YtamjoleknjmpoaaPtAwake
namespace Go.Proofs.Ytamjoleknjmpoaa
open Go.RowKit
/-- What is read of any bytes, in the law's words. -/
theorem parse_back {s : List UInt8} {x : Pth} {rest : List UInt8} (h : parseV s = (x, rest, 0)) : rightE x = 0 ∧ ∃ k, 0 < k ∧ s.length = k + rest.length ∧ s.drop k = rest := by
  obtain ⟨h1, a, rfl, ha⟩ := parse_right h
  refine ⟨h1, a.length, ?_, by simp, by simp⟩
  cases a with
  | nil => exact absurd rfl ha
  | cons _ _ => simp
theorem text_eqb {p q : Pth} (hp : rightE p = 0) (hq : rightE q = 0) : (textL p == textL q) = (p.1 == q.1 && p.2 == q.2) := by
  rw [Bool.eq_iff_iff, beq_iff_eq, Bool.and_eq_true, beq_iff_eq, beq_iff_eq]
  refine ⟨fun h => ?_, fun ⟨h1, h2⟩ => ?_⟩
  · have := text_inj hp hq h
    rw [this]; exact ⟨rfl, rfl⟩
  · rw [show p = q from Prod.ext h1 h2]
theorem right_len {p : Pth} (h : rightE p = 0) : p.1.length ≤ 64 ∧ p.2.length ≤ 255 := by
  have hl := (right_ok h).1
  simp only [longB, Bool.or_eq_false_iff, decide_eq_false_iff_not] at hl
  omega
/-- Answers, as the laws meet them. -/
theorem prT_x {p : Pth} (h : rightE p = 0) (w : World) : Calls Try.prog 9 #[.agg #[.string (mkS p.1), .string (mkS p.2)]] w fun e w' => e = .returned (.tuple #[.string (mkS (textL p)), .int .i64 0]) ∧ Below w.heap.size w w' := by
  obtain ⟨h1, h2⟩ := right_len h
  exact (print_x p w (by omega) (by omega)).mono fun e w' ⟨he, hb⟩ => ⟨by rw [he, print_yes h, h], hb⟩
theorem prG_x (p : Pth) (w : World) (h1 : p.1.length ≤ 500) (h2 : p.2.length ≤ 500) : Calls Try.prog 9 #[.agg #[.string (mkS p.1), .string (mkS p.2)]] w fun e w' => e = .returned (.tuple #[.string (mkS (printV p)), .int .i64 (rightE p)]) ∧ Below w.heap.size w w' :=
  print_x p w (by omega) (by omega)
theorem riG_x (p : Pth) (w : World) (h1 : p.1.length ≤ 500) (h2 : p.2.length ≤ 500) : Calls Try.prog 15 #[.agg #[.string (mkS p.1), .string (mkS p.2)]] w fun e w' => e = .returned (.int .i64 (rightE p)) ∧ Below w.heap.size w w' :=
  right_x p w (by omega) (by omega)
theorem riT_x {p : Pth} (h : rightE p = 0) (w : World) : Calls Try.prog 15 #[.agg #[.string (mkS p.1), .string (mkS p.2)]] w fun e w' => e = .returned (.int .i64 0) ∧ Below w.heap.size w w' := by
  obtain ⟨h1, h2⟩ := right_len h
  exact (right_x p w (by omega) (by omega)).mono fun e w' ⟨he, hb⟩ => ⟨by rw [he, h], hb⟩
theorem paG_x (s : List UInt8) (w : World) (h : s.length ≤ 100000) : Calls Try.prog 11 #[.string (mkS s)] w fun e w' => e = .returned (.tuple #[.agg #[.string (mkS (parseV s).1.1), .string (mkS (parseV s).1.2)], .string (mkS (parseV s).2.1), .int .i64 (parseV s).2.2]) ∧ Below w.heap.size w w' :=
  parse_x s w (by omega)
theorem paT_x {p : Pth} (h : rightE p = 0) (behind : List UInt8) (hb : behind.length ≤ 20000) (w : World) : Calls Try.prog 11 #[.string (mkS (textL p ++ behind))] w fun e w' => e = .returned (.tuple #[.agg #[.string (mkS p.1), .string (mkS p.2)], .string (mkS behind), .int .i64 0]) ∧ Below w.heap.size w w' := by
  have hl := text_len h
  exact (parse_x (textL p ++ behind) w (by simp; omega)).mono fun e w' ⟨he, hb⟩ => ⟨by rw [he, parse_text h], hb⟩
theorem paN_x {p : Pth} (h : rightE p = 0) (w : World) : Calls Try.prog 11 #[.string (mkS (textL p))] w fun e w' => e = .returned (.tuple #[.agg #[.string (mkS p.1), .string (mkS p.2)], .string { data := #[] }, .int .i64 0]) ∧ Below w.heap.size w w' := by
  have := paT_x h [] (by simp) w
  rw [List.append_nil] at this
  exact this
theorem eqT (p : Pth) (w : World) : (Op.equalIn 10000 23 (.agg #[.string (mkS p.1), .string (mkS p.2)]) (.agg #[.string (mkS p.1), .string (mkS p.2)])).run Try.prog w = .ok true w := by
  rw [eqP]; simp
end Go.Proofs.Ytamjoleknjmpoaa
