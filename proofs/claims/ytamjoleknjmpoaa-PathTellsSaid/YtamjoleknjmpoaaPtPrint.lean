/-
  The walk of path's Print.
-/
import Derived.Test.YtamjoleknjmpoaaPtRight
import Derived.Test.YtamjoleknjmpoaaPtQuote
namespace Go.Proofs.Ytamjoleknjmpoaa
open Go.RowKit
/-- What Print answers. -/
def PrPost (p : Pth) (w : World) (e : Ending) (w' : World) : Prop := e = .returned (.tuple #[.string (mkS (printV p)), .int .i64 (rightE p)]) ∧ Below w.heap.size w w'
theorem pr_no {p : Pth} {w w' : World} (h : rightE p ≠ 0) (hb : Below w.heap.size w w') : PrPost p w (.returned (.tuple #[.string { data := #[] }, .int .i64 (rightE p)])) w' :=
  ⟨by rw [print_no h]; rfl, hb⟩
theorem pr_yes {p : Pth} {w w' : World} {s : ByteArray} (h : rightE p = 0) (hs : s = mkS (textL p)) (hb : Below w.heap.size w w') : PrPost p w (.returned (.tuple #[.string s, .int .i64 0])) w' :=
  ⟨by rw [print_yes h, h, hs], hb⟩
theorem c60 : ({ data := #[60] } : ByteArray) = mkS [60] := rfl
theorem c62 : ({ data := #[62] } : ByteArray) = mkS [62] := rfl
theorem c64 : ({ data := #[64] } : ByteArray) = mkS [64] := rfl
theorem text_short {p : Pth} {q : ByteArray} (h : (nullB p || hostB p) = true) (hq : q = { data := #[60] } ++ mkS p.1 ++ { data := #[62] }) : q = mkS (textL p) := by
  rw [hq, c60, c62, mkS_cat, mkS_cat, textL, if_pos h]
theorem text_long {p : Pth} {q : ByteArray} (h : (nullB p || hostB p) = false) (hq : q = { data := #[60] } ++ mkS (locL p.1) ++ { data := #[64] } ++ mkS p.2 ++ { data := #[62] }) : q = mkS (textL p) := by
  rw [hq, c60, c62, c64, mkS_cat, mkS_cat, mkS_cat, mkS_cat, textL, if_neg (by rw [h]; exact Bool.false_ne_true)]
set_option maxHeartbeats 4000000 in
theorem print_x (p : Pth) (w : World) (hl1 : p.1.length ≤ 1000000000000) (hl2 : p.2.length ≤ 1000000000000) :
    Calls Try.prog 9 #[.agg #[.string (mkS p.1), .string (mkS p.2)]] w (PrPost p w) := by
  have HR := Lib.hid (fun w => right_x p w hl1 hl2)
  have HP := Lib.hid (pb_new (Below.refl w.heap.size w) p)
  by_cases h0 : rightE p = 0
  · have H0 := Lib.hid h0
    rw [h0] at HR
    have hlong := (right_ok h0).1
    simp only [longB, Bool.or_eq_false_iff, decide_eq_false_iff_not] at hlong
    have HN := Lib.hid (fun w => null_x p w)
    have HH := Lib.hid (fun w => host_x p w)
    have HA := Lib.hid (fun w => atoms_x p.1 w hl1)
    have HQ := Lib.hid (fun w => quoted_x p.1 w (by omega))
    have hz1 := mkS_size p.1
    have hz2 := mkS_size p.2
    have hql := quo_len p.1
    have hz3 : (mkS ([34] ++ quoL p.1 ++ [34])).size = (quoL p.1).length + 2 := by rw [mkS_size]; simp
    have HT1 := Lib.hid (fun q => text_short (p := p) (q := q))
    have HT2 := Lib.hid (fun q => text_long (p := p) (q := q))
    have HL := Lib.hid (show locL p.1 = if atoms p.1 then p.1 else [34] ++ quoL p.1 ++ [34] from rfl)
    generalize nullB p = qn at HN HT1 HT2
    generalize hostB p = qh at HH HT1 HT2
    generalize atoms p.1 = qa at HA HL
    generalize [34] ++ quoL p.1 ++ [34] = u at HQ HL hz3
    generalize (quoL p.1).length = ql at hql hz3
    generalize locL p.1 = v at HL HT2
    clear h0
    go_enter Try.func9, Try.ntmps9
    go_wp2_with fail
    refine (HR.out _).mono ?_
    rintro e w1 ⟨rfl, hb1⟩
    have P1 := Lib.hid (HP.out.next hb1)
    clear hb1
    obtain ⟨hc0, hc1, _⟩ := P1.out.cells
    go_wp2_with fail
    refine (HN.out _).mono ?_
    rintro e w2 ⟨rfl, hb2⟩
    have P2 := Lib.hid (P1.out.next hb2)
    clear hb2 hc0 hc1
    obtain ⟨hc0, hc1, _⟩ := P2.out.cells
    cases qn
    · go_wp2_with fail
      refine (HH.out _).mono ?_
      rintro e w3 ⟨rfl, hb3⟩
      have P3 := Lib.hid (P2.out.next hb3)
      clear hb3 hc0 hc1
      obtain ⟨hc0, hc1, _⟩ := P3.out.cells
      cases qh
      · go_wp2_with fail
        refine (HA.out _).mono ?_
        rintro e w4 ⟨rfl, hb4⟩
        have P4 := Lib.hid (P3.out.next hb4)
        clear hb4 hc0 hc1
        obtain ⟨hc0, hc1, _⟩ := P4.out.cells
        cases qa
        · go_wp2_with fail
          refine (HQ.out _).mono ?_
          rintro e w5 ⟨rfl, hb5⟩
          have P5 := Lib.hid (P4.out.next hb5)
          clear hb5 hc0 hc1
          obtain ⟨hc0, hc1, _⟩ := P5.out.cells
          go_wp2_with fail
          go_ret2
          exact pr_yes H0.out (HT2.out _ rfl (by rw [HL.out]; rfl)) P5.out.below
        · go_wp2_with fail
          go_ret2
          exact pr_yes H0.out (HT2.out _ rfl (by rw [HL.out]; rfl)) P4.out.below
      · go_wp2_with fail
        go_ret2
        exact pr_yes H0.out (HT1.out _ rfl rfl) P3.out.below
    · go_wp2_with fail
      go_ret2
      exact pr_yes H0.out (HT1.out _ rfl rfl) P2.out.below
  · have HV := Lib.hid (fun (w' : World) (hb : Below w.heap.size w w') => pr_no (p := p) h0 hb)
    have d1 : (rightE p != 0) = true := bne_iff_ne.2 h0
    generalize rightE p = n at HR HV d1
    clear h0
    go_enter Try.func9, Try.ntmps9
    go_wp2_with fail
    refine (HR.out _).mono ?_
    rintro e w1 ⟨rfl, hb1⟩
    have P1 := Lib.hid (HP.out.next hb1)
    clear hb1
    go_wp2_with fail
    go_ret2
    exact HV.out _ P1.out.below
end Go.Proofs.Ytamjoleknjmpoaa
