/-
  EvRs · EvRn · EvRp · EvRq · LawEnvelopeStates, in one text.
-/
import Derived.Test.YtbecdncnidcmdaaGreatDoorMaEvA
import Derived.Test.YtbecdncnidcmdaaGreatDoorMaEvB
import Derived.Test.YtbecdncnidcmdaaGreatDoorPaDig
import Derived.Test.YtbecdncnidcmdaaGreatDoorMaEvC
import Derived.Deep.Cut
import Derived.Test.YtbecdncnidcmdaaGreatDoorMaEvD
/-
  Plain: the words and numbers of the reference's status.
-/
namespace Go.Proofs.YtbecdncnidcmdaaGreatDoor.E
set_option maxRecDepth 100000
open Go.RowKit
/-- What the reference takes for a number. -/
def numR (l : Txt) : Int := if l.length < 1 ∨ 15 < l.length ∨ (1 < l.length ∧ l.head? = some 48) ∨ l.all digB = false then -1 else (valX l : Int)
theorem dg_val {b : UInt8} (h : digB b = true) : dg (b.toNat - 48) = b := by
  obtain ⟨h1, h2⟩ := dig_bd h
  apply UInt8.toNat_inj.1
  rw [dg_nat (by omega)]
  omega
theorem dd_48 : ∀ (k n : Nat), n < 10 ^ (k + 1) → ∀ t, Lib.decDigits n = 48 :: t → t = []
  | 0, n, h, t, e => by
    have h' : n < 10 := by simpa using h
    rw [dec_1 h'] at e
    injection e with _ e
    exact e.symm
  | k + 1, n, h, t, e => by
    by_cases h' : n < 10
    · rw [dec_1 h'] at e
      injection e with _ e
      exact e.symm
    · exfalso
      have hk : n / 10 < 10 ^ (k + 1) := by
        rw [Nat.div_lt_iff_lt_mul (by decide)]
        rw [Nat.pow_succ] at h
        exact h
      rw [dec_s h'] at e
      obtain ⟨h1, _, _, h4⟩ := dd_all k (n / 10) hk
      cases hd : Lib.decDigits (n / 10) with
      | nil => exact h1 hd
      | cons b u =>
        rw [hd, List.cons_append] at e
        injection e with e1 e2
        rw [e1] at hd
        have hu := dd_48 k (n / 10) hk u hd
        rw [hd, hu] at h4
        have : valX [48] = 0 := rfl
        omega
theorem dd_val (l : Txt) (h0 : l ≠ []) (hd : l.all digB = true) (hh : l.length = 1 ∨ l.head? ≠ some 48) : Lib.decDigits (valX l) = l := by
  rcases List.eq_nil_or_concat l with e | ⟨p, b, e⟩
  · exact absurd e h0
  · try rw [List.concat_eq_append] at e
    have hb : digB b = true := List.all_eq_true.1 hd b (by rw [e]; simp)
    have hp : p.all digB = true := List.all_eq_true.2 fun x hx => List.all_eq_true.1 hd x (by rw [e]; simp [hx])
    obtain ⟨b1, b2⟩ := dig_bd hb
    by_cases hn : p = []
    · rw [hn, List.nil_append] at e
      rw [e]
      have : valX [b] = b.toNat - 48 := by simp [valX]
      rw [this, dec_1 (by omega), dg_val hb]
    · have hl : 1 ≤ p.length := by cases p with
        | nil => exact absurd rfl hn
        | cons a t => simp
      have hx : p.head? ≠ some 48 := by
        rcases hh with hh | hh
        · rw [e] at hh; simp at hh; exact absurd hh (by intro h; exact hn h)
        · rw [e, List.head?_append] at hh
          cases p with
          | nil => exact absurd rfl hn
          | cons a t => simpa using hh
      have ih := dd_val p hn hp (.inr hx)
      have hv : valX p ≠ 0 := fun hz => by
        rw [hz] at ih
        have : Lib.decDigits 0 = [48] := by rw [dec_1 (by decide)]; rfl
        rw [this] at ih
        rw [← ih] at hx
        exact hx rfl
      rw [e, valX_snoc, dec_s (by omega), show (valX p * 10 + (b.toNat - 48)) / 10 = valX p by omega, show (valX p * 10 + (b.toNat - 48)) % 10 = b.toNat - 48 by omega, ih, dg_val hb]
termination_by l.length
decreasing_by
  simp [*]
theorem numR_itoa {n : Nat} (hn : n < 10 ^ 14) : numR (Lib.itoa (n : Int)) = n := by
  obtain ⟨h1, h2, h3, h4⟩ := dd_list n hn
  rw [itoa_nat]
  unfold numR
  have hl : ¬ (Lib.decDigits n).length < 1 := fun h => h1 (List.eq_nil_of_length_eq_zero (by omega))
  rw [if_neg, h4]
  rintro (h | h | ⟨h, h'⟩ | h)
  · exact hl h
  · omega
  · cases hd : Lib.decDigits n with
    | nil => exact h1 hd
    | cons b u =>
      rw [hd] at h'
      have hb : b = 48 := by simpa using h'
      rw [hb] at hd
      have := dd_48 13 n hn u hd
      rw [hd, this] at h
      simp at h
  · rw [h3] at h; cases h
theorem itoa_numR {l : Txt} (h : 0 ≤ numR l) : Lib.itoa (numR l) = l := by
  unfold numR at h ⊢
  split
  · rename_i hc
    rw [if_pos hc] at h
    omega
  · rename_i hc
    rw [itoa_nat]
    refine dd_val l (fun e => hc (.inl (by rw [e]; decide))) (by cases hx : l.all digB; exact absurd (.inr (.inr (.inr hx))) hc; rfl) ?_
    by_cases h1 : l.length = 1
    · exact .inl h1
    · exact .inr fun e => hc (.inr (.inr (.inl ⟨by have : ¬ l.length < 1 := fun h => hc (.inl h); omega, e⟩)))
/-- The reference's status of words. -/
def refT (p : List Txt) : ST := ⟨numR (p.getD 1 []), p.getD 2 [], numR (p.getD 3 []), numR (p.getD 4 []), numR (p.getD 5 [])⟩
def refOk (s : Txt) : Prop := (splitC 32 s).length = 6 ∧ (splitC 32 s).getD 0 [] = [83] ∧ stE (refT (splitC 32 s)) = 0
theorem ref_yes {s : Txt} (h : refOk s) : ptE s = 0 ∧ ptV s = refT (splitC 32 s) := by
  obtain ⟨h1, h2, h3⟩ := h
  obtain ⟨a, b, c, d, e, f, hp⟩ : ∃ a b c d e f, splitC 32 s = [a, b, c, d, e, f] := by
    generalize splitC 32 s = l at h1
    match l, h1 with
    | [a, b, c, d, e, f], _ => exact ⟨a, b, c, d, e, f, rfl⟩
  have hj := joinC_split 32 s s.length (Nat.le_refl _)
  rw [hp] at hj h2 h3 ⊢
  obtain ⟨hs, q1, q2, q3, q4⟩ := st_iff.1 h3
  have e0 : a = [83] := h2
  have e1 : Lib.itoa (numR b) = b := itoa_numR q1.1
  have e3 : Lib.itoa (numR d) = d := itoa_numR q2.1
  have e4 : Lib.itoa (numR e) = e := itoa_numR q3.1
  have e5 : Lib.itoa (numR f) = f := itoa_numR q4.1
  have hb : stV (refT [a, b, c, d, e, f]) = s := by
    rw [st_yes h3, ← hj]
    show 83 :: 32 :: (Lib.itoa (numR b) ++ (32 :: (c ++ (32 :: (Lib.itoa (numR d) ++ (32 :: (Lib.itoa (numR e) ++ (32 :: Lib.itoa (numR f))))))))) = _
    rw [e1, e3, e4, e5, e0]
    rfl
  have := pt_back h3
  rw [hb] at this
  exact this
theorem ref_of {s : Txt} (h : ptE s = 0) : refOk s ∧ refT (splitC 32 s) = ptV s := by
  obtain ⟨h1, h2⟩ := pt_0 h
  generalize ptV s = t at h1 h2 ⊢
  rw [st_yes h1] at h2
  obtain ⟨hs, q1, q2, q3, q4⟩ := st_iff.1 h1
  obtain ⟨pl, st, tr, ne, told⟩ := t
  simp only at q1 q2 q3 q4 hs
  obtain ⟨a, rfl⟩ : ∃ a : Nat, pl = a := ⟨pl.toNat, by omega⟩
  obtain ⟨b, rfl⟩ : ∃ a : Nat, tr = a := ⟨tr.toNat, by omega⟩
  obtain ⟨c, rfl⟩ : ∃ a : Nat, ne = a := ⟨ne.toNat, by omega⟩
  obtain ⟨d, rfl⟩ : ∃ a : Nat, told = a := ⟨told.toNat, by omega⟩
  have d32 : digB 32 = false := by decide
  have hst : (32 : UInt8) ∉ st := by rcases state_cases hs with e | e | e | e <;> rw [e] <;> decide
  have hp : splitC 32 s = [[83], Lib.itoa a, st, Lib.itoa b, Lib.itoa c, Lib.itoa d] := by
    rw [← h2]
    refine splitC_join 32 [[83], Lib.itoa a, st, Lib.itoa b, Lib.itoa c, Lib.itoa d] (by simp) ?_
    intro x hx
    simp only [List.mem_cons, List.not_mem_nil, or_false] at hx
    rcases hx with e | e | e | e | e | e <;> rw [e]
    · decide
    · exact itoa_sg (by omega) d32
    · exact hst
    · exact itoa_sg (by omega) d32
    · exact itoa_sg (by omega) d32
    · exact itoa_sg (by omega) d32
  have hr : refT (splitC 32 s) = ⟨a, st, b, c, d⟩ := by
    rw [hp]
    show (⟨numR (Lib.itoa a), st, numR (Lib.itoa b), numR (Lib.itoa c), numR (Lib.itoa d)⟩ : ST) = _
    rw [numR_itoa (by omega), numR_itoa (by omega), numR_itoa (by omega), numR_itoa (by omega)]
  refine ⟨⟨by rw [hp]; rfl, by rw [hp]; rfl, by rw [hr]; exact h1⟩, hr⟩
theorem ref_no {s : Txt} (h : ¬ refOk s) : ptE s = 2 ∧ ptV s = zeroT := pt_2 fun e => h (ref_of e).1
/-- Where the reference's parts stands. -/
def CutS (s : Txt) (k f : Nat) (done : List Txt) : Prop := f ≤ k ∧ k ≤ s.length ∧ (32 : UInt8) ∉ (s.take k).drop f ∧ splitC 32 s = done ++ splitC 32 (s.drop f)
theorem CutS.zero (s : Txt) : CutS s 0 0 [] := ⟨Nat.le_refl _, Nat.zero_le _, by simp, by simp⟩
theorem take_dr {s : Txt} {k f : Nat} {x : UInt8} (hx : s[k]? = some x) (hf : f ≤ k) : (s.take (k + 1)).drop f = (s.take k).drop f ++ [x] := by
  obtain ⟨h1, h2⟩ := List.getElem?_eq_some_iff.1 hx
  rw [List.take_succ_eq_append_getElem h1, List.drop_append_of_le_length (by rw [List.length_take]; omega), h2]
theorem CutS.step {s : Txt} {k f : Nat} {done : List Txt} {x : UInt8} (h : CutS s k f done) (hx : s[k]? = some x) (h32 : (x == 32) = false) : CutS s (k + 1) f done := by
  obtain ⟨h1, h2, h3, h4⟩ := h
  refine ⟨by omega, (List.getElem?_eq_some_iff.1 hx).1, ?_, h4⟩
  rw [take_dr hx h1]
  intro hm
  rcases List.mem_append.1 hm with hm | hm
  · exact h3 hm
  · rw [← List.mem_singleton.1 hm] at h32
    exact absurd h32 (by decide)
theorem CutS.dot {s : Txt} {k f : Nat} {done : List Txt} (h : CutS s k f done) (hx : s[k]? = some 32) : CutS s (k + 1) (k + 1) (done ++ [(s.take k).drop f]) := by
  obtain ⟨h1, h2, h3, h4⟩ := h
  obtain ⟨q1, q2⟩ := List.getElem?_eq_some_iff.1 hx
  refine ⟨Nat.le_refl _, q1, by rw [List.drop_eq_nil_of_le (by rw [List.length_take]; omega)]; simp, ?_⟩
  have e : s.drop f = (s.take k).drop f ++ 32 :: s.drop (k + 1) := by
    rw [← q2, ← List.drop_eq_getElem_cons q1]
    have : s.drop f = (s.take k ++ s.drop k).drop f := by rw [List.take_append_drop]
    rw [this, List.drop_append_of_le_length (by rw [List.length_take]; omega)]
  rw [h4, e, splitC_cat, splitC_one h3, List.append_assoc]
theorem CutS.all {s : Txt} {f : Nat} {done : List Txt} (h : CutS s s.length f done) : splitC 32 s = done ++ [s.drop f] := by
  obtain ⟨h1, h2, h3, h4⟩ := h
  rw [List.take_length] at h3
  rw [h4, splitC_one h3]
end Go.Proofs.YtbecdncnidcmdaaGreatDoor.E
/-
  The walks of the reference's in, number, parts, Digits of larger numbers.
-/
namespace Go.Proofs.YtbecdncnidcmdaaGreatDoor.E
set_option maxRecDepth 100000
open Go.RowKit Go.Shelf
set_option maxHeartbeats 1000000 in
theorem rin_x (n a b : Int) (w : World) : Calls Tryz.prog 41 #[.int .i64 n, .int .i64 a, .int .i64 b] w fun e w' => e = .returned (.bool (inI n a b)) ∧ w = w' := by
  have HV := Lib.hid (show inI n a b = (decide (a ≤ n) && decide (n ≤ b)) from rfl)
  generalize inI n a b = q at HV ⊢
  cases h1 : decide (a ≤ n) <;> cases h2 : decide (n ≤ b) <;> rw [h1, h2] at HV
  all_goals
    go_enter Tryz.func41, Tryz.ntmps41
    go_wp2_with fail
    go_ret
    exact ⟨by rw [HV.out]; rfl, rfl⟩
theorem get_1 {l : Txt} {k : Nat} (h : k < l.length) : ∃ x, l[k]? = some x := ⟨l[k], List.getElem?_eq_getElem h⟩
theorem all_at {l : Txt} {k : Nat} {x : UInt8} (hx : l[k]? = some x) (h : (l.take k).all digB = true) (hd : digB x = true) : (l.take (k + 1)).all digB = true := by
  obtain ⟨h1, h2⟩ := List.getElem?_eq_some_iff.1 hx
  rw [List.take_succ_eq_append_getElem h1, List.all_append, h, h2]
  simp [hd]
theorem val_15 {l : Txt} {k : Nat} (h : (l.take k).all digB = true) (hk : k ≤ l.length) : valX (l.take k) < 10 ^ k := by
  have hd : ∀ x ∈ l.take k, digB x = true := fun x hx => List.all_eq_true.1 h x hx
  have key : ∀ j, j ≤ k → valX ((l.take k).take j) < 10 ^ j := by
    intro j
    induction j with
    | zero => intro _; simp [valX]
    | succ j ih =>
      intro hj
      have hjl : j < (l.take k).length := by rw [List.length_take]; omega
      have h1 := ih (by omega)
      have h2 := dig_bd (hd _ (List.getElem_mem hjl))
      rw [List.take_succ_eq_append_getElem hjl, valX_snoc, Nat.pow_succ]
      omega
  have h2 := key k (Nat.le_refl _)
  rwa [List.take_take, Nat.min_self] at h2
theorem val_at {l : Txt} {k : Nat} {x : UInt8} (hx : l[k]? = some x) (hd : digB x = true) : (valX (l.take (k + 1)) : Int) = (valX (l.take k) : Int) * 10 + ((x.toNat : Int) - 48) := by
  obtain ⟨hk, e⟩ := List.getElem?_eq_some_iff.1 hx
  have := dig_bd hd
  rw [List.take_succ_eq_append_getElem hk, valX_snoc, e]
  omega
theorem numR_no1 {l : Txt} (h : l.length < 1) : numR l = -1 := if_pos (.inl h)
theorem numR_no2 {l : Txt} (h : 15 < l.length) : numR l = -1 := if_pos (.inr (.inl h))
theorem numR_no3 {l : Txt} (h : 1 < l.length) (h2 : l[0]? = some 48) : numR l = -1 := if_pos (.inr (.inr (.inl ⟨h, by rw [List.head?_eq_getElem?]; exact h2⟩)))
theorem numR_no4 {l : Txt} {k : Nat} {x : UInt8} (hx : l[k]? = some x) (h : digB x = false) : numR l = -1 := if_pos (.inr (.inr (.inr (by
  rw [List.all_eq_false]
  exact ⟨x, List.mem_of_getElem? hx, by rw [h]; decide⟩))))
theorem numR_yes {l : Txt} (h1 : ¬ l.length < 1) (h2 : ¬ 15 < l.length) (h3 : 1 < l.length → l[0]? ≠ some 48) (h4 : l.all digB = true) : numR l = (valX l : Int) := if_neg (by
  rintro (h | h | ⟨h, h'⟩ | h)
  · exact h1 h
  · exact h2 h
  · exact h3 h (by rw [← List.head?_eq_getElem?]; exact h')
  · rw [h4] at h; cases h)
set_option maxHeartbeats 4000000 in
theorem rnum_x (l : Txt) (w : World) (hl : l.length ≤ 1000000) : Calls Tryz.prog 48 #[.string (mkS l)] w fun e w' => e = .returned (.int .i64 (numR l)) ∧ w = w' := by
  have hms := mkS_size l
  by_cases h1 : l.length < 1
  · have HV := Lib.hid (numR_no1 h1)
    have d1 : decide ((l.length : Int) < 1) = true := decide_eq_true (by omega)
    go_enter Tryz.func48, Tryz.ntmps48
    go_wp2_with fail
    go_ret
    exact ⟨ret_int HV.out.symm, rfl⟩
  have d1 : decide ((l.length : Int) < 1) = false := decide_eq_false (by omega)
  by_cases h2 : 15 < l.length
  · have HV := Lib.hid (numR_no2 h2)
    have d2 : decide ((15 : Int) < (l.length : Int)) = true := decide_eq_true (by omega)
    go_enter Tryz.func48, Tryz.ntmps48
    go_wp2_with fail
    go_ret
    exact ⟨ret_int HV.out.symm, rfl⟩
  have d2 : decide ((15 : Int) < (l.length : Int)) = false := decide_eq_false (by omega)
  obtain ⟨x0, hx0⟩ := get_1 (show 0 < l.length by omega)
  obtain ⟨x, hx, hx2⟩ := get_at (show 0 < l.length by omega)
  have hxx : x = x0 := by rw [hx0] at hx; exact (Option.some.inj hx).symm
  subst hxx
  by_cases h3 : 1 < l.length ∧ x = 48
  · obtain ⟨h3, rfl⟩ := h3
    have HV := Lib.hid (numR_no3 h3 hx0)
    have d3 : decide ((1 : Int) < (l.length : Int)) = true := decide_eq_true (by omega)
    clear hx
    go_enter Tryz.func48, Tryz.ntmps48
    go_wp2_with fail
    go_ret
    exact ⟨ret_int HV.out.symm, rfl⟩
  have H3 := Lib.hid (show 1 < l.length → l[0]? ≠ some 48 from fun h e => h3 ⟨h, by rw [hx0] at e; exact Option.some.inj e⟩)
  have hd3 : decide ((1 : Int) < (l.length : Int)) = false ∨ (decide ((1 : Int) < (l.length : Int)) = true ∧ ((x.toNat : Int) == 48) = false) := by
    by_cases h4 : 1 < l.length
    · refine .inr ⟨decide_eq_true (by omega), beq_eq_false_iff_ne.2 fun e => h3 ⟨h4, ?_⟩⟩
      apply UInt8.toNat_inj.1
      show x.toNat = 48
      omega
    · exact .inl (decide_eq_false (by omega))
  have H0 := Lib.hid h1
  have H2 := Lib.hid h2
  have HL := Lib.hid (show l.length ≤ 15 by omega)
  clear h3 hx hx0
  suffices hmain : Hid (decide ((1 : Int) < (l.length : Int)) = false ∨ (decide ((1 : Int) < (l.length : Int)) = true ∧ ((x.toNat : Int) == 48) = false)) → Calls Tryz.prog 48 #[.string (mkS l)] w fun e w' => e = .returned (.int .i64 (numR l)) ∧ w = w' from hmain (Lib.hid hd3)
  intro HH
  clear hd3
  rcases HH.out with d3 | ⟨d3, d4⟩
  all_goals
    go_enter Tryz.func48, Tryz.ntmps48
    go_wp2_with fail
    go_loop [3, 4] (fun n i => ∃ k : Nat, k ≤ l.length ∧ i = .int .i64 k ∧ n = .int .i64 (valX (l.take k) : Int) ∧ Hid ((l.take k).all digB = true)) (fun _ i => l.length - (intOf i).toNat)
    case atStart => exact ⟨0, Nat.zero_le _, rfl, by simp [valX], by show _ = true; simp⟩
    case round =>
      obtain ⟨k, hk, rfl, rfl, HA⟩ := hrel
      by_cases hlt : k < l.length
      · obtain ⟨y, hy1, hy2⟩ := get_at hlt
        by_cases b1 : y.toNat < 48
        · have e1 : decide ((y.toNat : Int) < 48) = true := decide_eq_true (by omega)
          have HV := Lib.hid (numR_no4 hy1 (by rw [digB, decide_eq_false (p := 48 ≤ y.toNat) (by omega), Bool.false_and]))
          clear hy1
          go_wp2_with fail
          go_ret
          exact ⟨ret_int HV.out.symm, rfl⟩
        · have e1 : decide ((y.toNat : Int) < 48) = false := decide_eq_false (by omega)
          by_cases b2 : 57 < y.toNat
          · have e2 : decide ((57 : Int) < (y.toNat : Int)) = true := decide_eq_true (by omega)
            have HV := Lib.hid (numR_no4 hy1 (by rw [digB, decide_eq_false (p := y.toNat ≤ 57) (by omega), Bool.and_false]))
            clear hy1
            go_wp2_with fail
            go_ret
            exact ⟨ret_int HV.out.symm, rfl⟩
          · have e2 : decide ((57 : Int) < (y.toNat : Int)) = false := decide_eq_false (by omega)
            have hdy : digB y = true := by rw [digB, decide_eq_true (p := 48 ≤ y.toNat) (by omega), decide_eq_true (p := y.toNat ≤ 57) (by omega)]; rfl
            have HA2 := Lib.hid (all_at hy1 HA.out hdy)
            have HV := Lib.hid (val_at hy1 hdy)
            have hvb := val_15 HA.out hk
            have hp : 10 ^ k ≤ 10 ^ 15 := Nat.pow_le_pow_right (by omega) (by have := HL.out; omega)
            generalize valX (l.take k) = v at HV hvb
            have hv9 : v < 1000000000000000 := by omega
            clear hy1 hvb hp hdy
            go_wp2_with fail
            go_round
            case rel => exact ⟨k + 1, by omega, by go_num, by rw [HV.out], HA2⟩
            case measure => simp [intOf]; omega
      · have HE := Lib.hid (show numR l = (valX (l.take k) : Int) by
          have e : l.take k = l := List.take_of_length_le (by omega)
          have h := HA.out
          rw [e] at h ⊢
          exact numR_yes H0.out H2.out H3.out h)
        go_wp2_with fail
        go_ret
        exact ⟨ret_int HE.out.symm, rfl⟩
/-- What parts answers. -/
def CuPost (s : Txt) (w : World) (e : Ending) (w' : World) : Prop := ∃ v, e = .returned v ∧ w'.ownsRow w.heap.size 9 1 v (splitC 32 s).length (strsV (splitC 32 s)) ∧ Below w.heap.size w w'
def CuI (W : World) (s : Txt) (i f : Nat) (v : Value) (w : World) : Prop :=
  Below W.heap.size W w ∧ ((i ≤ s.length ∧ ∃ done : List Txt, CutS s i f done ∧ w.ownsRow W.heap.size 9 1 v done.length (strsV done) ∧ done.length ≤ i) ∨ (i = s.length + 1 ∧ w.ownsRow W.heap.size 9 1 v (splitC 32 s).length (strsV (splitC 32 s))))
set_option maxHeartbeats 4000000 in
theorem rparts_x (s : Txt) (w : World) (hs : s.length ≤ 1000000) : Calls Tryz.prog 47 #[.string (mkS s)] w (CuPost s w) := by
  have hms := mkS_size s
  go_enter Tryz.func47, Tryz.ntmps47
  go_wp2_with fail
  go_loopw [3, 4, 5] (fun v fv i wr => ∃ (k f : Nat), k ≤ s.length + 1 ∧ f ≤ k ∧ i = .int .i64 k ∧ fv = .int .i64 f ∧ Hid (CuI w s k f v wr)) (fun _ _ i _ => s.length + 1 - (intOf i).toNat)
  case atStart => exact ⟨0, 0, by omega, Nat.le_refl _, rfl, rfl, Below.refl _ _, .inl ⟨Nat.zero_le _, [], CutS.zero s, strs_nil _ _, Nat.le_refl _⟩⟩
  case round =>
    obtain ⟨k, f, hk, hf, rfl, rfl, HI⟩ := hrel
    obtain ⟨hB, ⟨hks, done, hC, hR, hd⟩ | ⟨rfl, hR⟩⟩ := HI.out
    · have HB := Lib.hid hB
      have HC := Lib.hid hC
      have HR := Lib.hid hR
      obtain ⟨A, c, hv⟩ := own_slice hR
      have HX := Lib.hid (show (mkS s).extract f k = mkS ((s.take k).drop f) by rw [mkS_extract])
      have i0 : (0 : Int) ≤ (f : Int) := by omega
      have i1 : (f : Int) ≤ (k : Int) := by omega
      have i2 : (k : Int) ≤ (s.length : Int) := by omega
      clear hB hC hR HI
      subst hv
      by_cases hlt : k < s.length
      · obtain ⟨x, hx⟩ : ∃ x : UInt8, (mkS s)[k]'(by omega) = x := ⟨_, rfl⟩
        have hX : s[k]? = some x := by rw [← hx]; have := Lib.data_getElem? (mkS s) k (by omega); rwa [mkS_data] at this
        have d1 : ((x.toNat : Int) == 32) = (x == 32) := P.byte_beq x 32 (by decide) 32 rfl
        have d2 : ((k : Int) == (s.length : Int)) = false := beq_eq_false_iff_ne.2 (by omega)
        cases hq : (x == 32)
        · rw [hq] at d1
          have HN := Lib.hid (HC.out.step hX hq)
          clear hX hq
          go_wp2_with fail
          go_roundw
          case rel => exact ⟨k + 1, f, by omega, by omega, by go_num, rfl, HB.out, .inl ⟨by omega, done, HN.out, HR.out, by omega⟩⟩
          case measure => simp [intOf]; omega
        · rw [hq] at d1
          have HN := Lib.hid (HC.out.dot (by rw [hX, eq_of_beq hq]))
          clear hX hq
          go_wp2_with (at_builtin; rw [HX.out]; refine app_strs rfl (.tmp 22) (.tmp 27) rfl w.heap.size (.slice A done.length c) done rfl (World.ownsRow.alloc HR.out _) ⟨wr.heap.size, 0, none⟩ 1 1 [(s.take k).drop f] rfl rfl ?c1 ?c2 ?c3 ?_)
          case c1 => exact news_one wr _
          case c2 => omega
          case c3 => have := HB.out.size; simp; omega
          intro v1 w2 hown hg _
          have HO2 := Lib.hid (show w2.ownsRow w.heap.size 9 1 v1 (done ++ [(s.take k).drop f]).length (strsV (done ++ [(s.take k).drop f])) by rw [List.length_append]; exact hown)
          have HW2 := Lib.hid (strs_grown HB.out.size HB.out HR.out hg)
          clear hown hg
          go_wp2_with fail
          go_roundw
          case rel => exact ⟨k + 1, k + 1, by omega, by omega, by go_num, by go_num, HW2.out, .inl ⟨by omega, _, HN.out, HO2.out, by simp; omega⟩⟩
          case measure => simp [intOf]; omega
      · obtain rfl : k = s.length := by omega
        have HN := Lib.hid HC.out.all
        clear i2
        go_wp2_with (at_builtin; rw [HX.out]; refine app_strs rfl (.tmp 22) (.tmp 27) rfl w.heap.size (.slice A done.length c) done rfl (World.ownsRow.alloc HR.out _) ⟨wr.heap.size, 0, none⟩ 1 1 [(s.take s.length).drop f] rfl rfl ?c4 ?c5 ?c6 ?_)
        case c4 => exact news_one wr _
        case c5 => omega
        case c6 => have := HB.out.size; simp; omega
        intro v1 w2 hown hg _
        have HO2 := Lib.hid (show w2.ownsRow w.heap.size 9 1 v1 (splitC 32 s).length (strsV (splitC 32 s)) by rw [HN.out, List.length_append]; exact hown)
        have HW2 := Lib.hid (strs_grown HB.out.size HB.out HR.out hg)
        clear hown hg
        go_wp2_with fail
        go_roundw
        case rel => exact ⟨s.length + 1, s.length + 1, by omega, by omega, by go_num, by go_num, HW2.out, .inr ⟨rfl, HO2.out⟩⟩
        case measure => simp [intOf]
    · have HB := Lib.hid hB
      have HR := Lib.hid hR
      obtain ⟨A, c, hv⟩ := own_slice hR
      subst hv
      clear hB hR HI
      go_wp2_with fail
      go_ret
      exact ⟨_, rfl, HR.out, HB.out⟩
/- Digits of a number up to 10^15. -/
theorem cat_any2 (a b : Txt) : mkS a ++ mkS b = mkS (a ++ b) := mkS_cat a b
set_option maxHeartbeats 4000000 in
theorem dig_big : ∀ (k u : Nat), u < 10 ^ (k + 1) → u < 1000000000000000 → ∀ w : World, Calls Tryz.prog 42 #[.int .i64 (u : Int)] w fun e w' => e = .returned (.string (mkS (Lib.decDigits u))) ∧ Below w.heap.size w w' := by
  intro k
  induction k with
  | zero =>
    intro u h hu w
    have h10 : u < 10 := by simpa using h
    exact dig_nat 0 u h (by omega) w
  | succ k ih =>
    intro u h hu w
    by_cases h10 : u < 10
    · exact dig_nat 0 u (by omega) (by omega) w
    · have h10' : ¬ (u : Int) < 10 := by omega
      have h0' : (0 : Int) ≤ (u : Int) := by omega
      have HI := ih (u / 10) (by rw [Nat.div_lt_iff_lt_mul (by decide)]; rw [Nat.pow_succ] at h; exact h) (by omega)
      rw [show ((u / 10 : Nat) : Int) = (u : Int) / 10 by omega] at HI
      have HIh := Lib.hid HI
      have HV := Lib.hid (show Lib.decDigits u = Lib.decDigits (u / 10) ++ [dg (u % 10)] from dec_s h10)
      clear HI h ih
      have hm : u % 10 < 10 := Nat.mod_lt _ (by decide)
      have hx : (u : Int) % 10 = ((u % 10 : Nat) : Int) := by omega
      have HX := Lib.hid hx
      have hcv : ∀ (w : World) (c : Nat), c = w.heap.size → (convert 117 9 (.slice (some ⟨c, 0, none⟩) 1 1)).run Tryz.prog (w.alloc (.cells #[.int .u8 (48 + (u : Int) % 10)] 5)) = .ok (.string (mkS [dg (u % 10)])) (w.alloc (.cells #[.int .u8 (48 + (u : Int) % 10)] 5)) := fun w c hc => conv_any w _ _ hm hx c hc
      have hcvd : ∀ (w : World) (c : Nat), c = w.heap.size → (convert 117 9 (.slice (some ⟨c, 0, none⟩) 1 1)).run Tryz.prog (w.alloc (.cells #[.int .u8 (48 + (u : Int) % 10)] 5)).drew = .ok (.string (mkS [dg (u % 10)])) (w.alloc (.cells #[.int .u8 (48 + (u : Int) % 10)] 5)).drew := fun w c hc => by
        subst hc
        exact conv_kept (W := (w.alloc (.cells #[.int .u8 (48 + (u : Int) % 10)] 5)).drew) rfl hm hx (Below.refl _ _)
      have q1 : IntKind.u8.wrap ((48 : Int) + (u : Int) % 10) = 48 + (u : Int) % 10 := IntWalk.u8_in _ (by omega)
      have q3 : IntKind.i64.wrap ((u : Int) / 10) = (u : Int) / 10 := IntWalk.i64_in _ (by omega)
      have q4 : IntKind.i64.wrap ((48 : Int) + (u : Int) % 10) = 48 + (u : Int) % 10 := IntWalk.i64_in _ (by omega)
      have q2 : (u : Int).tmod 10 = (u : Int) % 10 := IntWalk.rem_in _ _ (by omega)
      have hlen : (Lib.decDigits (u / 10)).length ≤ 15 := (dd_all 14 (u / 10) (by omega)).2.1
      have hct := cat_any2 (Lib.decDigits (u / 10)) [dg (u % 10)]
      have hz := mkS_size (Lib.decDigits (u / 10))
      generalize Lib.decDigits (u / 10) = ds at HIh HV hlen hct hz
      have hz2 : ¬ 9223372036854775807 < (mkS ds).size + 1 := by omega
      have hz4 : ¬ 9223372036854775807 < ds.length + 1 := by omega
      have hz3 : (mkS [dg (u % 10)]).size = 1 := rfl
      clear hx
      go_enter Tryz.func42, Tryz.ntmps42
      go_wp2_with fail
      go_region_with (first
        | (go_at_call 42; (with_reducible refine (HIh.out _).mono ?_); rintro e w4 ⟨rfl, hb4⟩; (try have hcv2 := conv_kept (w := w) (by rfl) hm HX.out hb4)))
      · have HB := Lib.hid ((dig_b1 hb4).alloc (dig_b1 hb4).size (.cells #[.int .u8 (48 + (u : Int) % 10)] 5))
        clear hb4
        go_simp
        go_wp2_with fail
        go_ret
        exact ⟨by rw [HV.out]; rfl, HB.out⟩
      all_goals
        have HB := Lib.hid (dig_b2 hb4)
        clear hb4 hcv2
        go_simp
        go_wp2_with fail
        go_ret
        exact ⟨by rw [HV.out]; rfl, HB.out⟩
theorem rdig_x (n : Int) (w : World) (h1 : 0 ≤ n) (h2 : n < 1000000000000000) : Calls Tryz.prog 42 #[.int .i64 n] w fun e w' => e = .returned (.string (mkS (Lib.itoa n))) ∧ Below w.heap.size w w' := by
  obtain ⟨u, rfl⟩ : ∃ u : Nat, n = u := ⟨n.toNat, by omega⟩
  rw [itoa_nat]
  exact dig_big 14 u (by omega) (by omega) w
end Go.Proofs.YtbecdncnidcmdaaGreatDoor.E
/-
  The walks of the reference's PrintStatus and ParseStatus.
-/
namespace Go.Proofs.YtbecdncnidcmdaaGreatDoor.E
set_option maxRecDepth 100000
open Go.RowKit Go.Shelf
structure RB (W : World) (t : ST) (w : World) : Prop where
  box : w.heap[W.heap.size]? = some (.cells (TD t) 30 (0, 0))
  below : Below W.heap.size W w
theorem RB.next {W w w' : World} {t : ST} (h : RB W t w) (hb : Below w.heap.size w w') : RB W t w' := ⟨(hb.block _ (ltOf h.box)).trans h.box, below_next h.below hb⟩
theorem RB.drew {W w : World} {t : ST} (h : RB W t w) : RB W t w.drew := ⟨h.box, below_drewN h.below 1⟩
theorem RB.cells {W w : World} {t : ST} (h : RB W t w) : w.cell? ⟨W.heap.size, 0, none⟩ = some (.int .i64 t.pl) ∧ w.cell? ⟨W.heap.size, 1, none⟩ = some (.string (mkS t.st)) ∧ w.cell? ⟨W.heap.size, 2, none⟩ = some (.int .i64 t.tr) ∧ w.cell? ⟨W.heap.size, 3, none⟩ = some (.int .i64 t.ne) ∧ w.cell? ⟨W.heap.size, 4, none⟩ = some (.int .i64 t.told) :=
  ⟨cellOf h.box 0, cellOf h.box 1, cellOf h.box 2, cellOf h.box 3, cellOf h.box 4⟩
theorem RB.quiet {W : World} {t : ST} {Y : Type} {F : Y → World} {y : Y} (h : (∀ y, RB W t (F y)) ∧ (∀ w', RB W t w' → ∃ y, w' = F y)) {f : FuncId} {args : Array Value} {v : Value} (H : Calls Tryz.prog f args (F y) fun e w' => e = .returned v ∧ Below (F y).heap.size (F y) w') :
    Calls Tryz.prog f args (F y) fun e w' => e = .returned v ∧ ∃ y, w' = F y := H.mono fun _ _ ⟨he, hb⟩ => ⟨he, h.2 _ ((h.1 y).next hb)⟩
theorem cat_r (a st b c d : Txt) : ({ data := #[83, 32] } ++ mkS a ++ { data := #[32] } ++ mkS st ++ { data := #[32] } ++ mkS b ++ { data := #[32] } ++ mkS c ++ { data := #[32] } ++ mkS d : ByteArray) = mkS (83 :: 32 :: (a ++ (32 :: (st ++ (32 :: (b ++ (32 :: (c ++ (32 :: d))))))))) := by
  rw [show ({ data := #[83, 32] } : ByteArray) = mkS [83, 32] from rfl, show ({ data := #[32] } : ByteArray) = mkS [32] from rfl]
  simp only [mkS_cat]
  simp
theorem digs_len {n : Int} (h1 : 0 ≤ n) (h2 : n < 100000000000000) : (Lib.itoa n).length ≤ 14 := by
  obtain ⟨u, rfl⟩ : ∃ u : Nat, n = u := ⟨n.toNat, by omega⟩
  exact itoa_len (by omega)
theorem two_no {s a b : Txt} (h1 : (s == a) = true) (h2 : (s == b) = true) (hne : (a == b) = false) : False := by
  rw [eq_of_beq h1] at h2
  rw [h2] at hne
  cases hne
set_option maxHeartbeats 8000000 in
theorem rprint_st (t : ST) (w : World) : Calls Tryz.prog 10 #[.agg #[.int .i64 t.pl, .string (mkS t.st), .int .i64 t.tr, .int .i64 t.ne, .int .i64 t.told]] w (StPost t w) := by
  have HB := Lib.hid (show RB w t (w.alloc (.cells #[.int .i64 t.pl, .string (mkS t.st), .int .i64 t.tr, .int .i64 t.ne, .int .i64 t.told] 30)) from ⟨newOf w _, (Below.refl _ w).alloc (Nat.le_refl _) _⟩)
  have K10 := Lib.hid (fun (h : stateB t.st = false) w' (hb : Below w.heap.size w w') => st_post_10 h hb)
  have K1 := Lib.hid (fun (h : stateB t.st = true) hi w' (hb : Below w.heap.size w w') => st_post_1 h hi hb)
  have K0 := Lib.hid (fun (h : stateB t.st = true) hi s hs w' (hb : Below w.heap.size w w') => st_post_0 (s := s) h hi hs hb)
  have HW1 := Lib.hid (fun w => rin_x t.pl 0 7 w)
  have HW2 := Lib.hid (fun w => rin_x t.tr 0 1000 w)
  have HW3 := Lib.hid (fun w => rin_x t.ne 0 2199023255552 w)
  have HW4 := Lib.hid (fun w => rin_x t.told 0 7 w)
  have B1 := Lib.hid (fun h => in_bd (n := t.pl) (a := 0) (b := 7) h)
  have B2 := Lib.hid (fun h => in_bd (n := t.tr) (a := 0) (b := 1000) h)
  have B3 := Lib.hid (fun h => in_bd (n := t.ne) (a := 0) (b := 2199023255552) h)
  have B4 := Lib.hid (fun h => in_bd (n := t.told) (a := 0) (b := 7) h)
  have HSL := Lib.hid (fun (h : stateB t.st = true) => show t.st.length = 1 by rcases state_cases h with e | e | e | e <;> rw [e] <;> rfl)
  have HBY := Lib.hid (show bytesT t = 83 :: 32 :: (Lib.itoa t.pl ++ (32 :: (t.st ++ (32 :: wordsI t.tr t.ne t.told)))) from rfl)
  have HST := Lib.hid (show stateB t.st = (t.st == [82] || t.st == [68] || t.st == [71] || t.st == [70]) from rfl)
  generalize StPost t w = Q at K10 K1 K0 ⊢
  generalize inI t.pl 0 7 = q1 at HW1 K1 K0 B1
  generalize inI t.tr 0 1000 = q2 at HW2 K1 K0 B2
  generalize inI t.ne 0 2199023255552 = q3 at HW3 K1 K0 B3
  generalize inI t.told 0 7 = q4 at HW4 K1 K0 B4
  obtain ⟨c0, c1, c2, c3, c4⟩ := HB.out.cells
  have hT := mkS_toList t.st
  generalize stateB t.st = q at K10 K1 K0 HSL HST
  suffices hmain : ∀ (g : Bool × Bool × Bool × Bool), (t.st == [82]) = g.1 → (t.st == [68]) = g.2.1 → (t.st == [71]) = g.2.2.1 → (t.st == [70]) = g.2.2.2 → Hid (q = (g.1 || g.2.1 || g.2.2.1 || g.2.2.2)) → Calls Tryz.prog 10 #[.agg #[.int .i64 t.pl, .string (mkS t.st), .int .i64 t.tr, .int .i64 t.ne, .int .i64 t.told]] w Q from hmain (_, _, _, _) rfl rfl rfl rfl (Lib.hid HST.out)
  clear HST
  rintro ⟨g1, g2, g3, g4⟩ e1 e2 e3 e4 HG
  simp only at e1 e2 e3 e4 HG
  by_cases hq : q = false
  · have hg : g1 = false ∧ g2 = false ∧ g3 = false ∧ g4 = false := by
      have h := HG.out
      rw [hq] at h
      revert h
      cases g1 <;> cases g2 <;> cases g3 <;> cases g4 <;> decide
    obtain ⟨rfl, rfl, rfl, rfl⟩ := hg
    go_enter Tryz.func10, Tryz.ntmps10
    go_wp2_with fail
    exact K10.out hq _ HB.out.below
  have hq1 : q = true := by cases q; exact absurd rfl hq; rfl
  clear hq
  subst hq1
  have hsl := HSL.out rfl
  have HD0 := Lib.hid (fun (h : q1 = true) w => rdig_x t.pl w (B1.out h).1 (by have := (B1.out h).2; omega))
  have HD1 := Lib.hid (fun (h : q2 = true) w => rdig_x t.tr w (B2.out h).1 (by have := (B2.out h).2; omega))
  have HD2 := Lib.hid (fun (h : q3 = true) w => rdig_x t.ne w (B3.out h).1 (by have := (B3.out h).2; omega))
  have HD3 := Lib.hid (fun (h : q4 = true) w => rdig_x t.told w (B4.out h).1 (by have := (B4.out h).2; omega))
  have L0 := Lib.hid (fun (h : q1 = true) => digs_len (n := t.pl) (B1.out h).1 (by have := (B1.out h).2; omega))
  have L1 := Lib.hid (fun (h : q2 = true) => digs_len (n := t.tr) (B2.out h).1 (by have := (B2.out h).2; omega))
  have L2 := Lib.hid (fun (h : q3 = true) => digs_len (n := t.ne) (B3.out h).1 (by have := (B3.out h).2; omega))
  have L3 := Lib.hid (fun (h : q4 = true) => digs_len (n := t.told) (B4.out h).1 (by have := (B4.out h).2; omega))
  unfold wordsI at HBY
  generalize Lib.itoa t.pl = s0 at HD0 L0 HBY
  generalize Lib.itoa t.tr = s1 at HD1 L1 HBY
  generalize Lib.itoa t.ne = s2 at HD2 L2 HBY
  generalize Lib.itoa t.told = s3 at HD3 L3 HBY
  by_cases hin : (q1 && q2 && q3 && q4) = false
  · clear HD0 HD1 HD2 HD3 L0 L1 L2 L3 B1 B2 B3 B4
    have HIN := Lib.hid hin
    clear hin
    revert HIN
    cases q1
    · intro HIN
      all_goals (cases g1 <;> cases g2 <;> cases g3 <;> cases g4)
      all_goals first
        | exact absurd HG.out (by decide) | exact (two_no e1 e2 rfl).elim | exact (two_no e1 e3 rfl).elim | exact (two_no e1 e4 rfl).elim | exact (two_no e2 e3 rfl).elim | exact (two_no e2 e4 rfl).elim | exact (two_no e3 e4 rfl).elim
        | (go_enter Tryz.func10, Tryz.ntmps10
           go_wp2_with (first | (go_at_call 41; (with_reducible refine (HW1.out _).mono ?_); rintro e w' ⟨rfl, rfl⟩))
           exact K1.out (by simp) (by first | exact HIN.out | simp) _ HB.out.below)
    · cases q2
      · intro HIN
        all_goals (cases g1 <;> cases g2 <;> cases g3 <;> cases g4)
        all_goals first
          | exact absurd HG.out (by decide) | exact (two_no e1 e2 rfl).elim | exact (two_no e1 e3 rfl).elim | exact (two_no e1 e4 rfl).elim | exact (two_no e2 e3 rfl).elim | exact (two_no e2 e4 rfl).elim | exact (two_no e3 e4 rfl).elim
          | (go_enter Tryz.func10, Tryz.ntmps10
             go_wp2_with (first | (go_at_call 41; (with_reducible refine (HW1.out _).mono ?_); rintro e w' ⟨rfl, rfl⟩) | (go_at_call 41; (with_reducible refine (HW2.out _).mono ?_); rintro e w' ⟨rfl, rfl⟩))
             exact K1.out (by simp) (by first | exact HIN.out | simp) _ HB.out.below)
      · cases q3
        · intro HIN
          all_goals (cases g1 <;> cases g2 <;> cases g3 <;> cases g4)
          all_goals first
            | exact absurd HG.out (by decide) | exact (two_no e1 e2 rfl).elim | exact (two_no e1 e3 rfl).elim | exact (two_no e1 e4 rfl).elim | exact (two_no e2 e3 rfl).elim | exact (two_no e2 e4 rfl).elim | exact (two_no e3 e4 rfl).elim
            | (go_enter Tryz.func10, Tryz.ntmps10
               go_wp2_with (first | (go_at_call 41; (with_reducible refine (HW1.out _).mono ?_); rintro e w' ⟨rfl, rfl⟩) | (go_at_call 41; (with_reducible refine (HW2.out _).mono ?_); rintro e w' ⟨rfl, rfl⟩) | (go_at_call 41; (with_reducible refine (HW3.out _).mono ?_); rintro e w' ⟨rfl, rfl⟩))
               exact K1.out (by simp) (by first | exact HIN.out | simp) _ HB.out.below)
        · cases q4
          · intro HIN
            all_goals (cases g1 <;> cases g2 <;> cases g3 <;> cases g4)
            all_goals first
              | exact absurd HG.out (by decide) | exact (two_no e1 e2 rfl).elim | exact (two_no e1 e3 rfl).elim | exact (two_no e1 e4 rfl).elim | exact (two_no e2 e3 rfl).elim | exact (two_no e2 e4 rfl).elim | exact (two_no e3 e4 rfl).elim
              | (go_enter Tryz.func10, Tryz.ntmps10
                 go_wp2_with (first | (go_at_call 41; (with_reducible refine (HW1.out _).mono ?_); rintro e w' ⟨rfl, rfl⟩) | (go_at_call 41; (with_reducible refine (HW2.out _).mono ?_); rintro e w' ⟨rfl, rfl⟩) | (go_at_call 41; (with_reducible refine (HW3.out _).mono ?_); rintro e w' ⟨rfl, rfl⟩) | (go_at_call 41; (with_reducible refine (HW4.out _).mono ?_); rintro e w' ⟨rfl, rfl⟩))
                 exact K1.out (by simp) (by first | exact HIN.out | simp) _ HB.out.below)
          · intro HIN
            exact absurd HIN.out (by decide)
  have hq4 : q1 = true ∧ q2 = true ∧ q3 = true ∧ q4 = true := by
    revert hin
    cases q1 <;> cases q2 <;> cases q3 <;> cases q4 <;> decide
  obtain ⟨rfl, rfl, rfl, rfl⟩ := hq4
  clear hin HSL
  have l0 := L0.out rfl
  have l1 := L1.out rfl
  have l2 := L2.out rfl
  have l3 := L3.out rfl
  clear L0 L1 L2 L3 B1 B2 B3 B4
  have m0 := mkS_size s0
  have m1 := mkS_size s1
  have m2 := mkS_size s2
  have m3 := mkS_size s3
  have m4 := mkS_size t.st
  have y1 : ¬ 9223372036854775807 < 2 + s0.length := by omega
  have y2 : ¬ 9223372036854775807 < 2 + s0.length + 1 := by omega
  have y3 : ¬ 9223372036854775807 < 2 + s0.length + 1 + 1 := by omega
  have y4 : ¬ 9223372036854775807 < 2 + s0.length + 1 + 1 + 1 := by omega
  have y5 : ¬ 9223372036854775807 < 2 + s0.length + 1 + 1 + 1 + s1.length := by omega
  have y6 : ¬ 9223372036854775807 < 2 + s0.length + 1 + 1 + 1 + s1.length + 1 := by omega
  have y7 : ¬ 9223372036854775807 < 2 + s0.length + 1 + 1 + 1 + s1.length + 1 + s2.length := by omega
  have y8 : ¬ 9223372036854775807 < 2 + s0.length + 1 + 1 + 1 + s1.length + 1 + s2.length + 1 := by omega
  have y9 : ¬ 9223372036854775807 < 2 + s0.length + 1 + 1 + 1 + s1.length + 1 + s2.length + 1 + s3.length := by omega
  suffices hend : ∀ w1, Hid (RB w t w1) → ∃ (Y : Type) (F : Y → World) (y0 : Y), F y0 = w1.drew ∧ (∀ y, RB w t (F y)) ∧ (∀ w', RB w t w' → ∃ y, w' = F y) by
    have HEND := Lib.hid hend
    clear hend
    cases g1 <;> cases g2 <;> cases g3 <;> cases g4
    all_goals first
      | exact absurd HG.out (by decide) | exact (two_no e1 e2 rfl).elim | exact (two_no e1 e3 rfl).elim | exact (two_no e1 e4 rfl).elim | exact (two_no e2 e3 rfl).elim | exact (two_no e2 e4 rfl).elim | exact (two_no e3 e4 rfl).elim
      | (go_enter Tryz.func10, Tryz.ntmps10
         go_upto_region 5 with (first | (go_at_call 41; (with_reducible refine (HW1.out _).mono ?_); rintro e w' ⟨rfl, rfl⟩) | (go_at_call 41; (with_reducible refine (HW2.out _).mono ?_); rintro e w' ⟨rfl, rfl⟩) | (go_at_call 41; (with_reducible refine (HW3.out _).mono ?_); rintro e w' ⟨rfl, rfl⟩) | (go_at_call 41; (with_reducible refine (HW4.out _).mono ?_); rintro e w' ⟨rfl, rfl⟩))
         generalize w.alloc (.cells #[.int .i64 t.pl, .string (mkS t.st), .int .i64 t.tr, .int .i64 t.ne, .int .i64 t.told] 30) = w1 at HB c0 c1 c2 c3 c4 ⊢
         obtain ⟨Y, F, y0, hy0, hF, hS⟩ := HEND.out w1 HB
         have hne : Nonempty Y := ⟨y0⟩
         have hF0 : ∀ y, (F y).cell? ⟨w.heap.size, 0, none⟩ = some (.int .i64 t.pl) := fun y => (hF y).cells.1
         have hF1 : ∀ y, (F y).cell? ⟨w.heap.size, 1, none⟩ = some (.string (mkS t.st)) := fun y => (hF y).cells.2.1
         have hF2 : ∀ y, (F y).cell? ⟨w.heap.size, 2, none⟩ = some (.int .i64 t.tr) := fun y => (hF y).cells.2.2.1
         have hF3 : ∀ y, (F y).cell? ⟨w.heap.size, 3, none⟩ = some (.int .i64 t.ne) := fun y => (hF y).cells.2.2.2.1
         have hF4 : ∀ y, (F y).cell? ⟨w.heap.size, 4, none⟩ = some (.int .i64 t.told) := fun y => (hF y).cells.2.2.2.2
         have HFS := Lib.hid (And.intro hF hS)
         clear hF hS
         refine region_in (by kernel_rfl) (by kernel_rfl) F y0 hy0 ?_
         repeat (go_big_quiet_step (first
           | (go_at_call 42; with_reducible exact RB.quiet HFS.out (HD0.out (by simp) _))
           | (go_at_call 42; with_reducible exact RB.quiet HFS.out (HD1.out (by simp) _))
           | (go_at_call 42; with_reducible exact RB.quiet HFS.out (HD2.out (by simp) _))
           | (go_at_call 42; with_reducible exact RB.quiet HFS.out (HD3.out (by simp) _))))
         refine wpQuiet_nil ?_
         rintro _ ⟨y, rfl⟩
         have H2 := Lib.hid (HFS.out.1 y).below
         clear hF0 hF1 hF2 hF3 hF4 hy0 HFS
         go_wp2_with fail
         exact K0.out (by simp) (by simp) _ (by rw [HBY.out]; exact cat_r _ _ _ _ _) _ H2.out)
  exact fun w1 h => ⟨{ w' // RB w t w' }, Subtype.val, ⟨_, h.out.drew⟩, rfl, fun y => y.2, fun w' h => ⟨⟨w', h⟩, rfl⟩⟩
end Go.Proofs.YtbecdncnidcmdaaGreatDoor.E
/-
  The walk of the reference's ParseStatus.
-/
namespace Go.Proofs.YtbecdncnidcmdaaGreatDoor.E
set_option maxRecDepth 100000
open Go.RowKit Go.Shelf
theorem size_rst : (Tryz.prog.info? 30).map (·.size) = some 5 := by kernel_rfl
theorem rt_no {s : Txt} {w w' : World} (h : ¬ refOk s) (hb : Below w.heap.size w w') : PtPost s w (.returned (.tuple #[.agg (TD zeroT), .int .i64 2])) w' := by
  obtain ⟨e, v⟩ := ref_no h
  unfold PtPost
  rw [e, v]
  exact ⟨rfl, hb⟩
theorem rt_yes {s : Txt} {w w' : World} (h : refOk s) (hb : Below w.heap.size w w') : PtPost s w (.returned (.tuple #[.agg (TD (refT (splitC 32 s))), .int .i64 0])) w' := by
  obtain ⟨e, v⟩ := ref_yes h
  unfold PtPost
  rw [e, v]
  exact ⟨rfl, hb⟩
/-- The result's box; the box of what was read. -/
structure QX (W : World) (g : Nat) (t : ST) (w : World) : Prop where
  res : w.heap[W.heap.size]? = some (.cells (TD zeroT) 30 (0, 0))
  box : w.heap[g]? = some (.cells (TD t) 30 (0, 0))
  below : Below W.heap.size W w
theorem QX.next {W w w' : World} {g : Nat} {t : ST} (h : QX W g t w) (hb : Below w.heap.size w w') : QX W g t w' :=
  ⟨(hb.block _ (ltOf h.res)).trans h.res, (hb.block _ (ltOf h.box)).trans h.box, below_next h.below hb⟩
structure RS (W : World) (w : World) : Prop where
  res : w.heap[W.heap.size]? = some (.cells (TD zeroT) 30 (0, 0))
  below : Below W.heap.size W w
theorem RS.next {W w w' : World} (h : RS W w) (hb : Below w.heap.size w w') : RS W w' := ⟨(hb.block _ (ltOf h.res)).trans h.res, below_next h.below hb⟩
theorem QX.new {W w : World} (h : RS W w) (t : ST) : QX W w.heap.size t (w.alloc (.cells (TD t) 30)).drew :=
  ⟨(Below.heap_alloc _ _ _ (ltOf h.res)).trans h.res, newOf w _, (h.below.alloc h.below.size _).drew⟩
theorem QX.new2 {W w : World} (h : RS W w) (t : ST) : QX W w.heap.size t (w.drew.alloc (.cells (TD t) 30)) :=
  ⟨(Below.heap_alloc _ _ _ (ltOf h.res)).trans h.res, newOf w.drew _, h.below.drew.alloc h.below.size _⟩
theorem row_at {w : World} {B : Nat} {v : Value} {l : List Txt} (h : w.ownsRow B 9 1 v l.length (strsV l)) (hne : l.length ≠ 0) : ∃ g cap, v = .slice (some ⟨g, 0, none⟩) l.length cap ∧ g < w.heap.size ∧ B ≤ g ∧ ∀ i x, l[i]? = some x → w.cell? ⟨g, i, none⟩ = some (.string (mkS x)) := by
  rcases h.2 with ⟨_, h0⟩ | ⟨g, cap, cur, e, hB, hg, _⟩
  · exact absurd h0 hne
  · refine ⟨g, cap, e, ltOf hg, hB, fun i x hi => ?_⟩
    have := World.ownsRow.cells h (by rw [e]; rfl) i (.string (mkS x)) (by rw [strsV, List.getElem?_map, hi]; rfl)
    rwa [show (⟨g, 0, none⟩ : Addr).add i = ⟨g, i, none⟩ by unfold Addr.add; split <;> simp_all] at this
def Five (w : World) (g : Nat) (b c d e f : Txt) : Prop := w.cell? ⟨g, 1, none⟩ = some (.string (mkS b)) ∧ w.cell? ⟨g, 2, none⟩ = some (.string (mkS c)) ∧ w.cell? ⟨g, 3, none⟩ = some (.string (mkS d)) ∧ w.cell? ⟨g, 4, none⟩ = some (.string (mkS e)) ∧ w.cell? ⟨g, 5, none⟩ = some (.string (mkS f))
theorem Five.drew {w : World} {g : Nat} {b c d e f : Txt} (h : Five w g b c d e f) : Five w.drew g b c d e f := h
theorem Five.alloc {w : World} {g : Nat} {b c d e f : Txt} (h : Five w g b c d e f) (o : Obj) : Five (w.alloc o) g b c d e f := by
  have hb := below_box w o
  exact ⟨cell_keep h.1 hb, cell_keep h.2.1 hb, cell_keep h.2.2.1 hb, cell_keep h.2.2.2.1 hb, cell_keep h.2.2.2.2 hb⟩
set_option maxHeartbeats 8000000 in
theorem rparse_st (s : Txt) (w : World) (hs : s.length ≤ 100000) : Calls Tryz.prog 12 #[.string (mkS s)] w (PtPost s w) := by
  have HS := Lib.hid (show RS w (w.alloc (.cells (TD zeroT) 30)) from ⟨newOf w _, (Below.refl _ w).alloc (Nat.le_refl _) _⟩)
  have HP := Lib.hid (rparts_x s (w.alloc (.cells (TD zeroT) 30)) (by omega))
  unfold CuPost at HP
  have HNO := Lib.hid (fun w' h (hb : Below w.heap.size w w') => rt_no (s := s) (w := w) (w' := w') h hb)
  have HYE := Lib.hid (fun w' h (hb : Below w.heap.size w w') => rt_yes (s := s) (w := w) (w' := w') h hb)
  have HOK := Lib.hid (show refOk s ↔ (splitC 32 s).length = 6 ∧ (splitC 32 s).getD 0 [] = [83] ∧ stE (refT (splitC 32 s)) = 0 from Iff.rfl)
  have HLE := Lib.hid (fun x (h : x ∈ splitC 32 s) => Nat.le_trans (splitC_le 32 s x h) hs)
  have hlen := splitC_len 32 s
  have hne := splitC_ne 32 s
  generalize refOk s = OK at HNO HYE HOK
  generalize splitC 32 s = l at HP HYE HOK HLE hlen hne
  generalize PtPost s w = Q at HNO HYE ⊢
  have hl0 : l.length ≠ 0 := fun h => hne (List.eq_nil_of_length_eq_zero h)
  clear hne
  go_enter Tryz.func12, Tryz.ntmps12
  go_wp2_with fail
  refine HP.out.mono ?_
  rintro e w1 ⟨v, rfl, hrow, hb⟩
  have HS1 := Lib.hid (HS.out.next hb)
  obtain ⟨g, cap, rfl, hgl, -, hcells⟩ := row_at hrow hl0
  have HC := Lib.hid hcells
  have HG := Lib.hid hgl
  clear hrow hb hcells hgl HS HP
  by_cases h6 : l.length = 6
  · obtain ⟨a, b, c, d, e, f, rfl⟩ : ∃ a b c d e f, l = [a, b, c, d, e, f] := by
      match l, h6 with
      | [a, b, c, d, e, f], _ => exact ⟨a, b, c, d, e, f, rfl⟩
    have k0 : w1.cell? ⟨g, 0, none⟩ = some (.string (mkS a)) := HC.out 0 a rfl
    have HF := Lib.hid (show Five w1 g b c d e f from ⟨HC.out 1 b rfl, HC.out 2 c rfl, HC.out 3 d rfl, HC.out 4 e rfl, HC.out 5 f rfl⟩)
    have hTa := mkS_toList a
    by_cases ha : a = [83]
    · subst ha
      have HOK2 := Lib.hid (show OK ↔ stE ⟨numR b, c, numR d, numR e, numR f⟩ = 0 from ⟨fun h => (HOK.out.1 h).2.2, fun h => HOK.out.2 ⟨rfl, rfl, h⟩⟩)
      have HN1 := Lib.hid (fun w => rnum_x b w (by have := HLE.out b (by simp); omega))
      have HN2 := Lib.hid (fun w => rnum_x d w (by have := HLE.out d (by simp); omega))
      have HN3 := Lib.hid (fun w => rnum_x e w (by have := HLE.out e (by simp); omega))
      have HN4 := Lib.hid (fun w => rnum_x f w (by have := HLE.out f (by simp); omega))
      have HYE2 := Lib.hid (show ∀ w', OK → Below w.heap.size w w' → Q (.returned (.tuple #[.agg (TD ⟨numR b, c, numR d, numR e, numR f⟩), .int .i64 0])) w' from HYE.out)
      clear HYE HOK HLE HC
      generalize numR b = n1 at HN1 HOK2 HYE2
      generalize numR d = n2 at HN2 HOK2 HYE2
      generalize numR e = n3 at HN3 HOK2 HYE2
      generalize numR f = n4 at HN4 HOK2 HYE2
      go_upto_region 4 with fail
      clear k0
      go_cut [5] from 41 (fun v wc => v = .pointer (some ⟨w1.heap.size, 0, none⟩) ∧ Hid (QX w w1.heap.size ⟨n1, c, n2, n3, n4⟩ wc))
      case first =>
        have HX := Lib.hid (QX.new HS1.out ⟨n1, c, n2, n3, n4⟩)
        have HX2 := Lib.hid (QX.new2 HS1.out ⟨n1, c, n2, n3, n4⟩)
        have HF1 := Lib.hid HF.out.drew
        have HF2 := Lib.hid (fun o => HF.out.drew.alloc o)
        go_region_held3 (fun wr => wr.cell? ⟨g, 1, none⟩ = some (.string (mkS b)) ∧ wr.cell? ⟨g, 2, none⟩ = some (.string (mkS c)) ∧ wr.cell? ⟨g, 3, none⟩ = some (.string (mkS d)) ∧ wr.cell? ⟨g, 4, none⟩ = some (.string (mkS e)) ∧ wr.cell? ⟨g, 5, none⟩ = some (.string (mkS f))) (first | exact HF1.out | exact HF2.out _ | assumption) (first
          | (go_at_call 48; (with_reducible refine (HN1.out _).mono ?_); rintro e w' ⟨rfl, rfl⟩)
          | (go_at_call 48; (with_reducible refine (HN2.out _).mono ?_); rintro e w' ⟨rfl, rfl⟩)
          | (go_at_call 48; (with_reducible refine (HN3.out _).mono ?_); rintro e w' ⟨rfl, rfl⟩)
          | (go_at_call 48; (with_reducible refine (HN4.out _).mono ?_); rintro e w' ⟨rfl, rfl⟩))
        all_goals
          go_wp2_with fail
          go_meet
          case rel => first | exact ⟨rfl, HX⟩ | exact ⟨rfl, HX2⟩
      case rest =>
        obtain ⟨rfl, HQ⟩ := hcut
        generalize w1.heap.size = g1 at HQ ⊢
        clear HF HN1 HN2 HN3 HN4 HG HS1
        have HPR := Lib.hid (fun w => rprint_st ⟨n1, c, n2, n3, n4⟩ w)
        unfold StPost at HPR
        go_wp2_with (first | (refine wpList_load_blk rfl 30 (.tmp 5) rfl g1 0 30 (TD ⟨n1, c, n2, n3, n4⟩) (TD ⟨n1, c, n2, n3, n4⟩) _ rfl HQ.out.box Tryz.underlying30 rfl size_rst (fun j _ => by rw [Nat.zero_add]) ?_))
        refine (HPR.out _).mono ?_
        rintro e w2 ⟨rfl, hb⟩
        have HQ1 := Lib.hid (HQ.out.next hb)
        clear hb HQ HPR
        generalize stV ⟨n1, c, n2, n3, n4⟩ = sv
        by_cases he : stE ⟨n1, c, n2, n3, n4⟩ = 0
        · have HO := Lib.hid (HOK2.out.2 he)
          rw [he]
          clear he HOK2 HNO
          go_wp2_with (first | (refine wpList_load_blk rfl 30 (.tmp 5) rfl g1 0 30 (TD ⟨n1, c, n2, n3, n4⟩) (TD ⟨n1, c, n2, n3, n4⟩) _ rfl HQ1.out.box Tryz.underlying30 rfl size_rst (fun j _ => by rw [Nat.zero_add]) ?_) | (refine wpList_store_blk rfl 30 (.tmp 2) (.tmp 48) rfl w.heap.size 0 30 (TD zeroT) (TD ⟨n1, c, n2, n3, n4⟩) (TD ⟨n1, c, n2, n3, n4⟩) rfl rfl HQ1.out.res size_rst (one_TD _) (Nat.le_of_eq rfl) (whole_TD _ _) ?_; intro w9 hB9 hA9))
          refine bodyPost_ret (v := .tuple #[.agg (TD ⟨n1, c, n2, n3, n4⟩), .int .i64 0]) (answer_g rfl rfl rfl hB9 Tryz.underlying30 rfl size_rst) rfl (HYE2.out _ HO.out (HQ1.out.below.trans (hA9.below HQ1.out.below.size (Nat.le_refl _))))
        · have hne : (stE ⟨n1, c, n2, n3, n4⟩ != 0) = true := by rw [bne_iff_ne]; exact he
          have HO := Lib.hid (fun h => he (HOK2.out.1 h))
          clear he HOK2 HYE2
          generalize stE ⟨n1, c, n2, n3, n4⟩ = se at hne ⊢
          go_wp2_with (first | (refine wpList_store_blk rfl 30 (.tmp 2) (.tmp 47) rfl w.heap.size 0 30 (TD zeroT) (TD zeroT) (TD zeroT) rfl rfl HQ1.out.res size_rst (one_TD _) (Nat.le_of_eq rfl) (whole_TD _ _) ?_; intro w9 hB9 hA9))
          refine bodyPost_ret (v := .tuple #[.agg (TD zeroT), .int .i64 2]) (answer_g rfl rfl rfl hB9 Tryz.underlying30 rfl size_rst) rfl (HNO.out _ HO.out (HQ1.out.below.trans (hA9.below HQ1.out.below.size (Nat.le_refl _))))
    · have hq : (a == [83]) = false := beq_eq_false_iff_ne.2 ha
      have HO := Lib.hid (fun h => ha (HOK.out.1 h).2.1)
      clear ha HOK HYE HF HC
      go_wp2_with (first | (refine wpList_store_blk rfl 30 (.tmp 2) (.tmp 19) rfl w.heap.size 0 30 (TD zeroT) (TD zeroT) (TD zeroT) rfl rfl HS1.out.res size_rst (one_TD _) (Nat.le_of_eq rfl) (whole_TD _ _) ?_; intro w9 hB9 hA9))
      refine bodyPost_ret (v := .tuple #[.agg (TD zeroT), .int .i64 2]) (answer_g rfl rfl rfl hB9 Tryz.underlying30 rfl size_rst) rfl (HNO.out _ HO.out (HS1.out.below.trans (hA9.below HS1.out.below.size (Nat.le_refl _))))
  · have d1 : ((l.length : Int) != 6) = true := by rw [bne_iff_ne]; omega
    have HO := Lib.hid (fun h => h6 (HOK.out.1 h).1)
    clear h6 HOK HYE HC
    go_wp2_with (first | (refine wpList_store_blk rfl 30 (.tmp 2) (.tmp 19) rfl w.heap.size 0 30 (TD zeroT) (TD zeroT) (TD zeroT) rfl rfl HS1.out.res size_rst (one_TD _) (Nat.le_of_eq rfl) (whole_TD _ _) ?_; intro w9 hB9 hA9))
    refine bodyPost_ret (v := .tuple #[.agg (TD zeroT), .int .i64 2]) (answer_g rfl rfl rfl hB9 Tryz.underlying30 rfl size_rst) rfl (HNO.out _ HO.out (HS1.out.below.trans (hA9.below HS1.out.below.size (Nat.le_refl _))))
end Go.Proofs.YtbecdncnidcmdaaGreatDoor.E
/-
  The walk of the law EnvelopeStates.
-/
namespace Go.Proofs.YtbecdncnidcmdaaGreatDoor.E
set_option maxRecDepth 100000
open Go.RowKit Go.Shelf
set_option maxHeartbeats 4000000 in
theorem eqRst (a : ST) (w : World) : (Op.equalIn 10000 30 (.agg (TD a)) (.agg (TD a))).run Tryz.prog w = .ok true w := by
  show (Op.equalIn 10000 30 (.agg #[.int .i64 a.pl, .string (mkS a.st), .int .i64 a.tr, .int .i64 a.ne, .int .i64 a.told]) (.agg #[.int .i64 a.pl, .string (mkS a.st), .int .i64 a.tr, .int .i64 a.ne, .int .i64 a.told])).run Tryz.prog w = _
  have u9 := Tryz.underlying9
  have a9 := Tryz.isAgg9
  have z9 := Tryz.sizeOf9
  have u3 := Tryz.underlying3
  have a3 := Tryz.isAgg3
  have z3 := Tryz.sizeOf3
  have hS : Tryz.prog.underlying 30 = some (.struct (Tryz.prog.fieldsOf 30)) := by kernel_rfl
  have hp : Tryz.prog.stoodInHeld 30 = false := by kernel_rfl
  rw [show (10000 : Nat) = 9999 + 1 from rfl, run_equalIn_agg w 9999 30 _ _ hS hp]
  have hI : ∀ (x y : Int), (Op.equalIn 9999 3 (.int .i64 x) (.int .i64 y)).run Tryz.prog w = .ok (x == y) w := fun x y => by go_simp
  have hT : ∀ (x y : Txt), (Op.equalIn 9999 9 (.string (mkS x)) (.string (mkS y))).run Tryz.prog w = .ok (x == y) w := fun x y => by
    have e := mkS_eqb x y
    go_simp
  have p3 : ∀ (cs : Array Value) (k : Nat) (v : Value), cs[k]? = some v → (part 3 cs k).run Tryz.prog w = .ok v w := fun cs k v h => by unfold part; go_simp
  have p9 : ∀ (cs : Array Value) (k : Nat) (v : Value), cs[k]? = some v → (part 9 cs k).run Tryz.prog w = .ok v w := fun cs k v h => by unfold part; go_simp
  have key := eqF_cons (P := Tryz.prog) (w := w) (d := 9999) (f := (Tryz.prog.fieldsOf 30)[0]!) (by decide) (p3 #[.int .i64 a.pl, .string (mkS a.st), .int .i64 a.tr, .int .i64 a.ne, .int .i64 a.told] 0 _ rfl) (p3 #[.int .i64 a.pl, .string (mkS a.st), .int .i64 a.tr, .int .i64 a.ne, .int .i64 a.told] 0 _ rfl) (hI a.pl a.pl)
    (eqF_cons (f := (Tryz.prog.fieldsOf 30)[1]!) (by decide) (p9 #[.int .i64 a.pl, .string (mkS a.st), .int .i64 a.tr, .int .i64 a.ne, .int .i64 a.told] 1 _ rfl) (p9 #[.int .i64 a.pl, .string (mkS a.st), .int .i64 a.tr, .int .i64 a.ne, .int .i64 a.told] 1 _ rfl) (hT a.st a.st)
    (eqF_cons (f := (Tryz.prog.fieldsOf 30)[2]!) (by decide) (p3 #[.int .i64 a.pl, .string (mkS a.st), .int .i64 a.tr, .int .i64 a.ne, .int .i64 a.told] 2 _ rfl) (p3 #[.int .i64 a.pl, .string (mkS a.st), .int .i64 a.tr, .int .i64 a.ne, .int .i64 a.told] 2 _ rfl) (hI a.tr a.tr)
    (eqF_cons (f := (Tryz.prog.fieldsOf 30)[3]!) (by decide) (p3 #[.int .i64 a.pl, .string (mkS a.st), .int .i64 a.tr, .int .i64 a.ne, .int .i64 a.told] 3 _ rfl) (p3 #[.int .i64 a.pl, .string (mkS a.st), .int .i64 a.tr, .int .i64 a.ne, .int .i64 a.told] 3 _ rfl) (hI a.ne a.ne)
    (eqF_cons (f := (Tryz.prog.fieldsOf 30)[4]!) (by decide) (p3 #[.int .i64 a.pl, .string (mkS a.st), .int .i64 a.tr, .int .i64 a.ne, .int .i64 a.told] 4 _ rfl) (p3 #[.int .i64 a.pl, .string (mkS a.st), .int .i64 a.tr, .int .i64 a.ne, .int .i64 a.told] 4 _ rfl) (hI a.told a.told)
    (show (Op.eqFields 9999 #[.int .i64 a.pl, .string (mkS a.st), .int .i64 a.tr, .int .i64 a.ne, .int .i64 a.told] #[.int .i64 a.pl, .string (mkS a.st), .int .i64 a.tr, .int .i64 a.ne, .int .i64 a.told] []).run Tryz.prog w = .ok true w from rfl)))))
  refine key.trans ?_
  simp
/-- The boxes of the law. -/
structure SBX (W : World) (t : ST) (w : World) : Prop where
  box : w.heap[W.heap.size]? = some (.cells (TD t) 23 (0, 0))
  below : Below W.heap.size W w
theorem SBX.next {W w w' : World} {t : ST} (h : SBX W t w) (hb : Below w.heap.size w w') : SBX W t w' := ⟨(hb.block _ (ltOf h.box)).trans h.box, below_next h.below hb⟩
set_option maxHeartbeats 8000000 in
theorem envelopeStates_x (t : ST) (s : Txt) (w : World) (hR : Rdy w) (z0 : t.st.length ≤ 281474976710656) (z1 : s.length ≤ 281474976710656) : Calls Tryz.prog 3 #[.agg (TD t), .string (mkS s)] w fun e w' => e = .returned (.bool true) ∧ Below w.heap.size w w' := by
  have HM := Lib.hid (show SBX w t (w.alloc (.cells (TD t) 23)) from ⟨newOf w _, (Below.refl _ w).alloc (Nat.le_refl _) _⟩)
  have HR := Lib.hid (fun w' (h : Below w.heap.size w w') => hR.below h)
  have m1 := mkS_size t.st
  have m2 := mkS_size s
  clear hR
  go_enter Tryz.func3, Tryz.ntmps3
  go_wp2_with fail
  refine (awake_x _ (HR.out _ HM.out.below)).mono ?_
  rintro e w1 ⟨rfl, hb⟩
  have HM1 := Lib.hid (HM.out.next hb)
  clear hb HM
  have k1 : w1.cell? ⟨w.heap.size, 1, none⟩ = some (.string (mkS t.st)) := cellOf HM1.out.box 1
  by_cases h1 : 100 < t.st.length
  · have d1 : decide ((100 : Int) < (t.st.length : Int)) = true := decide_eq_true (by omega)
    go_wp2_with fail
    go_ret
    exact ⟨rfl, HM1.out.below⟩
  have d1 : decide ((100 : Int) < (t.st.length : Int)) = false := decide_eq_false (by omega)
  by_cases h2 : 500 < s.length
  · have d2 : decide ((500 : Int) < (s.length : Int)) = true := decide_eq_true (by omega)
    go_wp2_with fail
    go_ret
    exact ⟨rfl, HM1.out.below⟩
  have d2 : decide ((500 : Int) < (s.length : Int)) = false := decide_eq_false (by omega)
  have HP := Lib.hid (print_st t w1 (HR.out _ HM1.out.below))
  unfold StPost at HP
  go_upto_region 5 with fail
  clear k1 d1 d2
  go_wp2_with (first | ((with_reducible refine is_load (ty := 23) (x := .tmp 2) rfl ?_); refine wpList_load_blk rfl 23 (.tmp 2) rfl w.heap.size 0 23 (TD t) (TD t) _ rfl HM1.out.box Tryz.underlying23 rfl size_st (fun j _ => by rw [Nat.zero_add]) ?_))
  refine HP.out.mono ?_
  rintro e w2 ⟨rfl, hb⟩
  have HM2 := Lib.hid (HM1.out.next hb)
  clear hb HM1 HP
  have HP2 := Lib.hid (rprint_st t w2)
  unfold StPost at HP2
  go_wp2_with (first | ((with_reducible refine is_load (ty := 23) (x := .tmp 2) rfl ?_); refine wpList_load_blk rfl 23 (.tmp 2) rfl w.heap.size 0 23 (TD t) (TD t) _ rfl HM2.out.box Tryz.underlying23 rfl size_st (fun j _ => by rw [Nat.zero_add]) ?_))
  refine HP2.out.mono ?_
  rintro e w3 ⟨rfl, hb⟩
  have HM3 := Lib.hid (HM2.out.next hb)
  clear hb HM2 HP2
  have hTV := mkS_toList (stV t)
  generalize stV t = sv at hTV ⊢
  generalize stE t = se
  have HQ := Lib.hid (parse_st s w3 (by omega) (HR.out _ HM3.out.below))
  unfold PtPost at HQ
  go_wp2_with fail
  refine HQ.out.mono ?_
  rintro e w4 ⟨rfl, hb⟩
  have HM4 := Lib.hid (HM3.out.next hb)
  clear hb HM3 HQ
  go_upto_region 8 with (first | ((with_reducible refine is_store (ty := 23) (x := .tmp 9) (y := .tmp 37) rfl ?_); refine wpList_store_blk rfl 23 (.tmp 9) (.tmp 37) rfl w4.heap.size 0 23 (TD zeroT) (TD (ptV s)) (TD (ptV s)) rfl rfl (newOf w4 _) size_st (one_TD _) (Nat.le_of_eq rfl) (whole_TD _ _) ?_; intro w5 hB5 hA5))
  have HM5 := Lib.hid (HM4.out.next (far_apart hA5))
  have HB5 := Lib.hid hB5
  clear hB5 hA5 HM4
  generalize w4.heap.size = b9 at HB5 ⊢
  have HQ2 := Lib.hid (rparse_st s w5 (by omega))
  unfold PtPost at HQ2
  go_wp2_with fail
  refine HQ2.out.mono ?_
  rintro e w6 ⟨rfl, hb⟩
  have HM6 := Lib.hid (HM5.out.next hb)
  have HB6 := Lib.hid ((hb.block _ (ltOf HB5.out)).trans HB5.out)
  clear hb HM5 HQ2 HB5
  generalize ptE s = pe
  generalize ptV s = pv at HB6 ⊢
  go_upto_region 9 with (first | ((with_reducible refine is_store (ty := 30) (x := .tmp 11) (y := .tmp 42) rfl ?_); refine wpList_store_blk rfl 30 (.tmp 11) (.tmp 42) rfl w6.heap.size 0 30 (TD zeroT) (TD pv) (TD pv) rfl rfl (newOf w6 _) size_rst (one_TD _) (Nat.le_of_eq rfl) (whole_TD _ _) ?_; intro w7 hB7 hA7))
  have HM7 := Lib.hid (HM6.out.next (far_apart hA7))
  have HB7 := Lib.hid (((far_apart hA7).block _ (ltOf HB6.out)).trans HB6.out)
  have HC7 := Lib.hid hB7
  clear hB7 hA7 HM6 HB6
  generalize w6.heap.size = b11 at HC7 ⊢
  have q1 := fun w => eqRst pv w
  have q2 : (sv == sv) = true := beq_self_eq_true sv
  have q3 : (se == se) = true := beq_self_eq_true se
  have q4 : (pe == pe) = true := beq_self_eq_true pe
  go_wp2_with (first | ((with_reducible refine is_load (ty := 23) (x := .tmp 9) rfl ?_); refine wpList_load_want ?_ 23 (.tmp 9) rfl b9 0 23 (TD pv) (TD pv) _ rfl HB7.out Tryz.underlying23 rfl size_st (fun j _ => by rw [Nat.zero_add]) ?_; (focus (first | rfl | (go_simp; done)))) | ((with_reducible refine is_load (ty := 30) (x := .tmp 11) rfl ?_); refine wpList_load_want ?_ 30 (.tmp 11) rfl b11 0 30 (TD pv) (TD pv) _ rfl HC7.out Tryz.underlying30 rfl size_rst (fun j _ => by rw [Nat.zero_add]) ?_; (focus (first | rfl | (go_simp; done)))))
  go_ret
  exact ⟨rfl, HM7.out.below⟩
end Go.Proofs.YtbecdncnidcmdaaGreatDoor.E
