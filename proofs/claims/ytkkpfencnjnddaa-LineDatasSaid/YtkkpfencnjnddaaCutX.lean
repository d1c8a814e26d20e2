/-
  The walk of the reference's Cut.
-/
import Derived.Test.YtkkpfencnjnddaaRefCut
namespace Go.Proofs.Ytkkpfencnjnddaa
open Go.RowKit
theorem ci_last {s : List UInt8} {j f : Nat} (hj : j < s.length) : ((s.take (j + 1)).drop f).getLast? = some 13 ↔ f ≤ j ∧ s[j]? = some 13 := by
  rw [List.take_succ_eq_append_getElem hj, List.getElem?_eq_getElem hj]
  by_cases hf : f ≤ j
  · rw [List.drop_append_of_le_length (by rw [List.length_take]; omega), List.getLast?_append]
    simp [hf]
  · rw [List.drop_of_length_le (by rw [List.length_append, List.length_take, List.length_singleton]; omega)]
    simp [hf]
theorem ci_yes {s : List UInt8} {j f : Nat} {out : List (List UInt8)} (h : sc [] (s.take (j + 1)) = (out, (s.take (j + 1)).drop f)) (ha : s[j]? = some 13) (hb : s[j + 1]? = some 10) (hf : f ≤ j) :
    sc [] (s.take (j + 2)) = (out ++ [(s.take j).drop f], (s.take (j + 2)).drop (j + 2)) := by
  obtain ⟨hj, e⟩ := List.getElem?_eq_some_iff.1 hb
  obtain ⟨hj0, e0⟩ := List.getElem?_eq_some_iff.1 ha
  have hl := (ci_last (f := f) hj0).2 ⟨hf, ha⟩
  rw [List.take_succ_eq_append_getElem hj, e]
  have hy : (sc [] (s.take (j + 1))).2.getLast? = some 13 ∧ (10 : UInt8) = 10 := ⟨by rw [h]; exact hl, rfl⟩
  rw [sc_snoc_yes hy, h]
  refine Prod.ext ?_ ?_
  · show out ++ [((s.take (j + 1)).drop f).dropLast] = _
    rw [List.take_succ_eq_append_getElem hj0, List.drop_append_of_le_length (by rw [List.length_take]; omega), List.dropLast_concat]
  · show [] = (s.take (j + 1) ++ [10]).drop (j + 2)
    rw [List.drop_of_length_le (by rw [List.length_append, List.length_take, List.length_singleton]; omega)]
theorem ci_no {s : List UInt8} {j f : Nat} {out : List (List UInt8)} (h : sc [] (s.take (j + 1)) = (out, (s.take (j + 1)).drop f)) (hlt : j + 1 < s.length) (hf : f ≤ j + 1) (hn : ¬ (s[j]? = some 13 ∧ s[j + 1]? = some 10 ∧ f ≤ j)) :
    sc [] (s.take (j + 2)) = (out, (s.take (j + 2)).drop f) := by
  have hl := ci_last (s := s) (j := j) (f := f) (by omega)
  rw [List.take_succ_eq_append_getElem hlt]
  have hy : ¬ ((sc [] (s.take (j + 1))).2.getLast? = some 13 ∧ s[j + 1] = 10) := by
    rw [h, hl]
    rintro ⟨⟨h1, h2⟩, h3⟩
    exact hn ⟨h2, by rw [List.getElem?_eq_getElem hlt, h3], h1⟩
  rw [sc_snoc_no hy, h]
  refine Prod.ext rfl ?_
  show (s.take (j + 1)).drop f ++ [s[j + 1]] = _
  rw [List.drop_append_of_le_length (by rw [List.length_take]; omega)]
theorem mkS_extract (s : List UInt8) (a b : Nat) : (mkS s).extract a b = mkS ((s.take b).drop a) := by
  apply ba_eq
  rw [mkS_toList, Lib.toList_data, ByteArray.data_extract, Array.toList_extract]
  simp [mkS, List.extract, List.drop_take]

/-- What holds in Cut's loop. -/
structure CI (W0 : World) (s : List UInt8) (j f : Nat) (out : List (List UInt8)) (ov : Value) (w : World) : Prop where
  sc : sc [] (s.take (j + 1)) = (out, (s.take (j + 1)).drop f)
  row : w.ownsRow W0.heap.size 9 1 ov out.length (strsV out)
  below : Below W0.heap.size W0 w
  le : f ≤ j + 1
  fl : f ≤ s.length
theorem CI.start (w : World) (s : List UInt8) : CI w s 0 0 [] (.slice none 0 0) w := by
  refine ⟨?_, ⟨rfl, .inl ⟨rfl, rfl⟩⟩, Below.refl _ _, by omega, by omega⟩
  cases s with
  | nil => simp [Ytkkpfencnjnddaa.sc]
  | cons b s => simp [Ytkkpfencnjnddaa.sc]
theorem CI.no {W0 w : World} {s : List UInt8} {j f : Nat} {out : List (List UInt8)} {ov : Value} (h : CI W0 s j f out ov w) (hlt : j + 1 < s.length) (hn : ¬ (s[j]? = some 13 ∧ s[j + 1]? = some 10 ∧ f ≤ j)) : CI W0 s (j + 1) f out ov w :=
  ⟨ci_no h.sc hlt h.le hn, h.row, h.below, by have := h.le; omega, h.fl⟩
theorem CI.yes {W0 w w1 : World} {s : List UInt8} {j f : Nat} {out : List (List UInt8)} {ov v1 : Value} (h : CI W0 s j f out ov w) (ha : s[j]? = some 13) (hb : s[j + 1]? = some 10) (hf : f ≤ j) (o : Obj) (hg : (w.alloc o).grownBy w1 ov.ownBlock)
    (ho : w1.ownsRow W0.heap.size 9 1 v1 (out.length + 1) (strsV out ++ [.string (mkS ((s.take j).drop f))])) : CI W0 s (j + 1) (j + 2) (out ++ [(s.take j).drop f]) v1 w1 := by
  have hlt := (List.getElem?_eq_some_iff.1 hb).1
  refine ⟨ci_yes h.sc ha hb hf, ?_, ?_, Nat.le_refl _, by omega⟩
  · have e1 : (out ++ [(s.take j).drop f]).length = out.length + 1 := by simp
    have e2 : strsV (out ++ [(s.take j).drop f]) = strsV out ++ [.string (mkS ((s.take j).drop f))] := by simp [strsV]
    rw [e1, e2]
    exact ho
  · exact (h.below.alloc h.below.size o).grown hg (Nat.le_trans h.below.size (by simp)) (fun k hk => (h.row.lt k hk).1)
theorem CI.len {W0 w : World} {s : List UInt8} {j f : Nat} {out : List (List UInt8)} {ov : Value} (h : CI W0 s j f out ov w) : out.length ≤ s.length := by
  have := (Ytkkpfencnjnddaa.sc_len (s.take (j + 1)) []).1
  rw [h.sc, List.length_take] at this
  simp only at this
  omega
def CutPost (s : List UInt8) (w : World) (e : Ending) (w' : World) : Prop :=
  ∃ o, e = .returned (.tuple #[o, .string (mkS (sc [] s).2)]) ∧ w'.ownsRow w.heap.size 9 1 o (sc [] s).1.length (strsV (sc [] s).1) ∧ Below w.heap.size w w'
theorem CI.done {W0 w : World} {s : List UInt8} {j f : Nat} {out : List (List UInt8)} {ov : Value} (h : CI W0 s j f out ov w) (hj : s.length ≤ j + 1) (n : Nat) : CutPost s W0 (.returned (.tuple #[ov, .string ((mkS s).extract f (mkS s).size)])) (w.drewN n) := by
  have e := h.sc
  rw [List.take_of_length_le hj] at e
  unfold CutPost
  rw [e]
  refine ⟨ov, ?_, h.row, below_drewN h.below n⟩
  rw [mkS_extract, List.take_of_length_le (by rw [mkS, size_mk]; exact Nat.le_refl _)]

set_option maxHeartbeats 1000000 in
theorem cut_x (s : List UInt8) (w : World) (hs : s.length ≤ 1000000000) : Calls Try.prog 26 #[.string (mkS s)] w (CutPost s w) := by
  obtain ⟨i0, hi, hz0, hz1, hz2⟩ := info_parts Try.info9
  have hms : (mkS s).size = s.length := size_mk s
  go_enter Try.func26, Try.ntmps26
  go_wp2_with fail
  go_loopw [4, 5, 6] (fun ov fv i wr => ∃ (j f : Nat) (out : List (List UInt8)), i = .int .i64 ((j : Int) + 1) ∧ fv = .int .i64 (f : Int) ∧ (j = 0 ∨ j + 1 ≤ s.length) ∧ CI w s j f out ov wr) (fun _ _ i _ => s.length + 1 - (intOf i).toNat)
  case atStart => exact ⟨0, 0, [], rfl, rfl, .inl rfl, CI.start w s⟩
  case round =>
    obtain ⟨j, f, out, rfl, rfl, hj, hci⟩ := hrel
    obtain ⟨A, cp, rfl⟩ := own_slice hci.row
    by_cases hlt : j + 1 < s.length
    · obtain ⟨x, hx⟩ : ∃ x : UInt8, (mkS s)[j]'(by omega) = x := ⟨_, rfl⟩
      obtain ⟨y, hy⟩ : ∃ y : UInt8, (mkS s)[j + 1]'(by omega) = y := ⟨_, rfl⟩
      have hX : s[j]? = some x := by rw [← hx]; exact Lib.data_getElem? (mkS s) j (by omega)
      have hY : s[j + 1]? = some y := by rw [← hy]; exact Lib.data_getElem? (mkS s) (j + 1) (by omega)
      have HCI := Lib.hid hci
      have HX := Lib.hid hX
      have HY := Lib.hid hY
      have hfl := hci.fl
      have hol := hci.len
      clear hci hX hY
      by_cases h1 : x = 13
      · have hb1 : ((x.toNat : Int) == 13) = true := by rw [h1]; rfl
        by_cases h2 : y = 10
        · have hb2 : ((y.toNat : Int) == 10) = true := by rw [h2]; rfl
          by_cases h3 : f ≤ j
          · have hb3 : decide ((f : Int) ≤ (j : Int)) = true := decide_eq_true (by omega)
            have H1 := Lib.hid h1
            have H2 := Lib.hid h2
            clear h1 h2
            go_wp2_with (first
              | (at_builtin
                 refine wpList_append_own_at _ rfl (.tmp 30) (.tmp 36) _ rfl w.heap.size 9 i0 (.string ⟨#[]⟩) 1 16 Try.underlying22 hi hz0 hz1 hz2 rfl (by decide) (.slice A out.length cp) out.length (strsV out) rfl
                   (HCI.out.row.alloc _) ⟨wr.heap.size, 0, none⟩ 1 1 [.string (mkS ((s.take j).drop f))] rfl rfl ?c1 ?c2 ?c3 ?c4 ?c5 ?_))
            case c1 =>
              intro j' u hu
              match j' with
              | 0 => simp at hu; subst hu; rw [mkS_extract]; exact World.cell?_alloc_at _ _ _ _ rfl
              | j' + 1 => simp at hu
            case c2 => intro u hu; simp at hu; subst hu; rfl
            case c3 => unfold maxLen; omega
            case c4 => omega
            case c5 => have := HCI.out.below.size; simp; omega
            intro v1 w2 hown2 hg2 _ _
            have HC2 := Lib.hid (HCI.out.yes (by rw [HX.out, H1.out]) (by rw [HY.out, H2.out]) h3 _ hg2 hown2)
            clear hown2 hg2
            go_wp2_with fail
            go_roundw
            case rel => exact ⟨j + 1, j + 2, _, by go_num, by go_num, .inr (by omega), HC2.out⟩
            case measure => simp [intOf]; omega
          · have hb3 : decide ((f : Int) ≤ (j : Int)) = false := decide_eq_false (by omega)
            have HC2 := Lib.hid (HCI.out.no hlt (fun e => h3 e.2.2))
            clear h1 h2
            go_wp2_with fail
            go_roundw
            case rel => exact ⟨j + 1, f, _, by go_num, rfl, .inr (by omega), HC2.out⟩
            case measure => simp [intOf]; omega
        · have hb2 : ((y.toNat : Int) == 10) = false := Bool.eq_false_iff.2 fun e => h2 ((byte_eq (n := 10) (by decide)).1 e)
          have HC2 := Lib.hid (HCI.out.no hlt (fun e => h2 (by have := HY.out.symm.trans e.2.1; injection this)))
          clear h1 h2
          go_wp2_with fail
          go_roundw
          case rel => exact ⟨j + 1, f, _, by go_num, rfl, .inr (by omega), HC2.out⟩
          case measure => simp [intOf]; omega
      · have hb1 : ((x.toNat : Int) == 13) = false := Bool.eq_false_iff.2 fun e => h1 ((byte_eq (n := 13) (by decide)).1 e)
        have HC2 := Lib.hid (HCI.out.no hlt (fun e => h1 (by have := HX.out.symm.trans e.1; injection this)))
        clear h1
        go_wp2_with fail
        go_roundw
        case rel => exact ⟨j + 1, f, _, by go_num, rfl, .inr (by omega), HC2.out⟩
        case measure => simp [intOf]; omega
    · have HCI := Lib.hid hci
      have hfl := hci.fl
      clear hci
      go_wp2_with fail
      go_quiet (fail)
      go_wp2_with fail
      go_ret2
      exact HCI.out.done (by omega) _
end Go.Proofs.Ytkkpfencnjnddaa
