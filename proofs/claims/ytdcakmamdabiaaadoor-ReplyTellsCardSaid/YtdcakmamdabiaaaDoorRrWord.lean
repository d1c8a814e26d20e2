/-
  The walk of the reference's word.
-/
import Derived.Test.YtdcakmamdabiaaaDoorRrFits
import Derived.Test.YtdcakmamdabiaaaDoorRrDig
namespace Go.Proofs.YtdcakmamdabiaaaDoor
set_option maxRecDepth 100000
open Go.RowKit
theorem EX.dig {W w : World} {e : E3} (h : Hid (EX W e w)) (n : Int) (hn : rpIn n = true) : Calls Tryd.prog 27 #[.int .i64 n] w fun x w' => x = .returned (.string (mkS (Lib.itoa n))) ∧ w'.cell? ⟨W.heap.size, 0, none⟩ = some (.int .i64 e.1) ∧ w'.cell? ⟨W.heap.size, 1, none⟩ = some (.int .i64 e.2.1) ∧ w'.cell? ⟨W.heap.size, 2, none⟩ = some (.int .i64 e.2.2) ∧ Hid (EX W e w') :=
  (digits_x n w (by simp only [rpIn, Bool.and_eq_true, decide_eq_true_eq] at hn; omega) (by simp only [rpIn, Bool.and_eq_true, decide_eq_true_eq] at hn; omega)).mono fun _ _ ⟨he, hb⟩ => ⟨he, (h.out.next hb).cells⟩
theorem cat_word (a b c : Txt) : mkS a ++ { data := #[46] } ++ mkS b ++ { data := #[46] } ++ mkS c ++ { data := #[32] } = mkS (a ++ 46 :: (b ++ 46 :: (c ++ [32]))) := by
  simp only [show ({ data := #[46] } : ByteArray) = mkS [46] from rfl, show ({ data := #[32] } : ByteArray) = mkS [32] from rfl, mkS_cat]
  simp
set_option maxHeartbeats 8000000 in
theorem word_x (e : E3) (h : rpHas e = false ∨ rpIn e.1 = true ∧ rpIn e.2.1 = true ∧ rpIn e.2.2 = true) (w : World) : Calls Tryd.prog 28 #[EV e] w fun x w' => x = .returned (.string (mkS (rpWord e))) ∧ Below w.heap.size w w' := by
  have HNo := Lib.hid (fun w => rnone_x e w)
  have HX := Lib.hid (EX.new w e)
  cases hh : rpHas e
  case false =>
    rw [hh] at HNo
    have HV := Lib.hid (show rpWord e = [] by rw [rpWord, hh]; rfl)
    go_enter Tryd.func28, Tryd.ntmps28
    go_wp2_with fail
    refine (HNo.out _).mono ?_
    rintro x w2 ⟨rfl, hb2⟩
    have HX2 := Lib.hid (HX.out.next hb2)
    clear hb2
    go_wp2_with fail
    go_ret
    exact ⟨by rw [HV.out]; rfl, HX2.out.below⟩
  case true =>
    rw [hh] at HNo h
    have HV := Lib.hid (show rpWord e = Lib.itoa e.1 ++ 46 :: (Lib.itoa e.2.1 ++ 46 :: (Lib.itoa e.2.2 ++ [32])) by rw [rpWord, hh]; rfl)
    obtain ⟨h1, h2, h3⟩ := Or.resolve_left h (by decide)
    clear hh h
    obtain ⟨a, b, c⟩ := e
    simp only at HV h1 h2 h3
    have H1 := Lib.hid h1
    have H2 := Lib.hid h2
    have H3 := Lib.hid h3
    have l1 := nm_len (itoa_nm h1).1
    have l2 := nm_len (itoa_nm h2).1
    have l3 := nm_len (itoa_nm h3).1
    have z1 := mkS_size (Lib.itoa a)
    have z2 := mkS_size (Lib.itoa b)
    have z3 := mkS_size (Lib.itoa c)
    clear h1 h2 h3
    have s1 : ¬ 9223372036854775807 < (Lib.itoa a).length + 1 := by omega
    have s2 : ¬ 9223372036854775807 < (Lib.itoa a).length + 1 + (Lib.itoa b).length := by omega
    have s3 : ¬ 9223372036854775807 < (Lib.itoa a).length + 1 + (Lib.itoa b).length + 1 := by omega
    have s4 : ¬ 9223372036854775807 < (Lib.itoa a).length + 1 + (Lib.itoa b).length + 1 + (Lib.itoa c).length := by omega
    have s5 : ¬ 9223372036854775807 < (Lib.itoa a).length + 1 + (Lib.itoa b).length + 1 + (Lib.itoa c).length + 1 := by omega
    go_enter Tryd.func28, Tryd.ntmps28
    go_wp2_with fail
    refine (HNo.out _).mono ?_
    rintro x w2 ⟨rfl, hb2⟩
    have HX2 := Lib.hid (HX.out.next hb2)
    clear hb2 HX HNo
    obtain ⟨c0, c1, c2, _⟩ := HX2.out.cells
    go_wp2_with fail
    go_region_held3 (fun wr => wr.cell? ⟨w.heap.size, 0, none⟩ = some (.int .i64 a) ∧ wr.cell? ⟨w.heap.size, 1, none⟩ = some (.int .i64 b) ∧ wr.cell? ⟨w.heap.size, 2, none⟩ = some (.int .i64 c) ∧ Hid (EX w (a, b, c) wr))
      (first | exact HX2.out.drew.cells | exact HX2.out.cells | exact ⟨by assumption, by assumption, by assumption, by assumption⟩)
      (first
        | (go_at_call 27; (with_reducible refine (EX.dig (W := w) (e := (a, b, c)) ?_ a H1.out).mono ?_); (first | exact Lib.hid HX2.out.drew | assumption | exact Lib.hid HX2.out); rintro x w4 ⟨rfl, g0, g1, g2, g3⟩)
        | (go_at_call 27; (with_reducible refine (EX.dig (W := w) (e := (a, b, c)) ?_ b H2.out).mono ?_); (first | exact Lib.hid HX2.out.drew | assumption | exact Lib.hid HX2.out); rintro x w4 ⟨rfl, g0, g1, g2, g3⟩)
        | (go_at_call 27; (with_reducible refine (EX.dig (W := w) (e := (a, b, c)) ?_ c H3.out).mono ?_); (first | exact Lib.hid HX2.out.drew | assumption | exact Lib.hid HX2.out); rintro x w4 ⟨rfl, g0, g1, g2, g3⟩))
    all_goals
      have HF := Lib.hid g3.out.below
      clear g0 g1 g2 g3
      go_wp2_with fail
      go_ret
      exact ⟨by rw [HV.out, ← cat_word]; rfl, HF.out⟩
end Go.Proofs.YtdcakmamdabiaaaDoor
