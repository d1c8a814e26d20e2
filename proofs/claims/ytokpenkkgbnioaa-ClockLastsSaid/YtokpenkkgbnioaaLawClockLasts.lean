/-
  The walk of ClockLasts.
-/
import Derived.Test.YtokpenkkgbnioaaCkAwake
import Derived.Test.YtokpenkkgbnioaaCkTurn
import Derived.Test.YtokpenkkgbnioaaCkArg
namespace Go.Proofs.Ytokpenkkgbnioaa
set_option maxRecDepth 100000
open Go.RowKit
/-- A clock that is marked when it is due. -/
def duK (S : Ck) (r : Int) : Ck := if S.step ≤ (rdK S r).tick - S.mark then mkK (rdK S r) else rdK S r
def duL (S : Ck) (l : List Int) : Ck := l.foldl duK S
theorem duL_snoc (S : Ck) (l : List Int) (r : Int) : duL S (l ++ [r]) = duK (duL S l) r := by simp [duL]
theorem duK_tick (S : Ck) (r : Int) : (duK S r).tick = max S.tick (min r 1099511627776) := by rw [duK]; split <;> rfl
theorem duL_tick (S : Ck) (l : List Int) : (duL S l).tick = tickK S.tick l := by
  induction l generalizing S with
  | nil => rfl
  | cons a l ih =>
    show (duL (duK S a) l).tick = tickK (max S.tick (min a 1099511627776)) l
    rw [ih, duK_tick]
theorem duK_all (S : Ck) (r : Int) : (duK S r).all = S.all + 1 ∧ (duK S r).step = S.step := by rw [duK]; split <;> exact ⟨rfl, rfl⟩
theorem duL_all (S : Ck) (l : List Int) : (duL S l).all = S.all + l.length ∧ (duL S l).step = S.step := by
  induction l generalizing S with
  | nil => exact ⟨by simp [duL], rfl⟩
  | cons a l ih =>
    have := ih (duK S a)
    have h2 := duK_all S a
    rw [h2.1, h2.2] at this
    refine ⟨?_, this.2⟩
    show (duL (duK S a) l).all = _
    rw [this.1, List.length_cons]
    push_cast
    omega
theorem Inv.du {S : Ck} (h : Inv S) (r : Int) (ha : S.all < 1000000) : Inv (duK S r) := by
  rw [duK]
  split
  · exact (h.read r ha).marked
  · exact h.read r ha
theorem Inv.duL {S : Ck} (h : Inv S) (l : List Int) (hl : S.all + l.length ≤ 1000000) : Inv (Go.Proofs.Ytokpenkkgbnioaa.duL S l) := by
  induction l generalizing S with
  | nil => exact h
  | cons a l ih =>
    rw [List.length_cons] at hl
    push_cast at hl
    exact ih (h.du a (by omega)) (by rw [(duK_all S a).1]; omega)
/-- What is marked is no more than a step behind. -/
theorem du_near {S : Ck} (h : Inv S) (hn : S.tick - S.mark < S.step) (r : Int) : (duK S r).tick - (duK S r).mark < (duK S r).step := by
  obtain ⟨_, _, _, _, s0, _, _, _, _, _⟩ := h
  rw [duK]
  split
  · show (rdK S r).tick - (rdK S r).tick < S.step; omega
  · rename_i g
    have : (rdK S r).tick - S.mark < S.step := by omega
    exact this
theorem duL_near {S : Ck} (h : Inv S) (hn : S.tick - S.mark < S.step) (l : List Int) (hl : S.all + l.length ≤ 1000000) : (duL S l).tick - (duL S l).mark < (duL S l).step := by
  induction l generalizing S with
  | nil => exact hn
  | cons a l ih =>
    rw [List.length_cons] at hl
    push_cast at hl
    exact ih (h.du a (by omega)) (du_near h hn a) (by rw [(duK_all S a).1]; omega)
/-- With the same readings again. -/
theorem tick_again (m : Int) (l : List Int) (x : Int) (h1 : m ≤ x) (h2 : x ≤ tickK m l) : tickK x l = tickK m l := by
  apply Int.le_antisymm
  · rw [tick_le_iff]
    exact ⟨h2, ((tick_le_iff l m _).1 (Int.le_refl _)).2⟩
  · rw [tick_le_iff]
    have := (tick_le_iff l x _).1 (Int.le_refl (tickK x l))
    exact ⟨Int.le_trans h1 this.1, this.2⟩
set_option maxHeartbeats 4000000 in
theorem clockLasts_x (s : Int) (v : Value) (l : List Int) (W : World) (_ : IntKind.i64.min ≤ s) (_ : s ≤ IntKind.i64.max) (y1 : RowAt W v (intsV l)) (_ : ∀ n ∈ l, -9223372036854775808 ≤ n ∧ n ≤ 9223372036854775807) :
    Calls Try.prog 5 #[.int .i64 s, v] W fun e w' => e = .returned (.bool true) ∧ Below W.heap.size W w' := by
  obtain ⟨A, c, hv, hcap, hc⟩ := y1.ints
  have HR := Lib.hid hc
  subst hv
  clear hc y1
  have HAw := Lib.hid (awake_x W)
  by_cases h3 : 200 < l.length
  · have d3 : decide ((200 : Int) < (l.length : Int)) = true := decide_eq_true (by omega)
    go_enter Try.func5, Try.ntmps5
    go_wp2_with fail
    refine HAw.out.mono ?_
    rintro e w1 ⟨rfl, hb⟩
    go_wp2_with fail
    go_ret
    exact ⟨rfl, hb⟩
  have d3 : decide ((200 : Int) < (l.length : Int)) = false := decide_eq_false (by omega)
  by_cases h1 : s < 1
  · have d1 : decide (s < 1) = true := decide_eq_true h1
    go_enter Try.func5, Try.ntmps5
    go_wp2_with fail
    refine HAw.out.mono ?_
    rintro e w1 ⟨rfl, hb⟩
    go_wp2_with fail
    go_ret
    exact ⟨rfl, hb⟩
  have d1 : decide (s < 1) = false := decide_eq_false h1
  by_cases h2 : 1048576 < s
  · have d2 : decide ((1048576 : Int) < s) = true := decide_eq_true h2
    go_enter Try.func5, Try.ntmps5
    go_wp2_with fail
    refine HAw.out.mono ?_
    rintro e w1 ⟨rfl, hb⟩
    go_wp2_with fail
    go_ret
    exact ⟨rfl, hb⟩
  have d2 : decide ((1048576 : Int) < s) = false := decide_eq_false h2
  have HN := Lib.hid (show 0 ≤ (0 : Int) ∧ (0 : Int) ≤ 1099511627776 ∧ (1 : Int) ≤ s ∧ s ≤ 1048576 by omega)
  have HL := Lib.hid (show l.length ≤ 200 by omega)
  have HIk := Lib.hid (fun (x : List Int) (hx : x.length ≤ 200) => (inv_new HN.out).duL x (by show (0 : Int) + _ ≤ _; omega))
  have HIn := Lib.hid (fun (x : List Int) (hx : x.length ≤ 200) => duL_near (inv_new HN.out) (by show (0 : Int) - 0 < s; have := HN.out; omega) x (by show (0 : Int) + _ ≤ _; omega))
  have hs0 : 1 ≤ s := by omega
  have hs1 : s ≤ 1048576 := by omega
  clear h1 h2 h3
  go_enter Try.func5, Try.ntmps5
  go_wp2_with fail
  refine HAw.out.mono ?_
  rintro e w1 ⟨rfl, hb⟩
  have HB := Lib.hid hb
  clear hb
  go_wp2_with fail
  refine (new_x 0 s w1 HN.out).mono ?_
  rintro e w2 ⟨rfl, rfl⟩
  have HA := Lib.hid (SA.made HB.out (newK 0 s))
  generalize (w1.alloc (.cells (ckC (newK 0 s)) 38)) = w2 at HA
  generalize w1.heap.size = b at HA
  go_wp2_with fail
  go_loopw [7] (fun i wr => ∃ k : Nat, k ≤ l.length ∧ i = .int .i64 k ∧ Hid (SA W wr b (duL (newK 0 s) (l.take k)))) (fun i _ => l.length - (intOf i).toNat)
  case atStart => exact ⟨0, Nat.zero_le _, rfl, HA⟩
  case round =>
    obtain ⟨k, hk, rfl, HS⟩ := hrel
    have hl := HL.out
    by_cases hlt : k < l.length
    · obtain ⟨n, hn⟩ : ∃ n, l[k]? = some n := ⟨_, List.getElem?_eq_getElem hlt⟩
      obtain ⟨ad, rfl, hab, c00⟩ := HR.out k n hn
      have c0 : wr.cell? (ad.add k) = some (.int .i64 n) := (HS.out.below.cell (by rw [add_block]; exact hab)).trans c00
      have HE := Lib.hid (show duL (newK 0 s) (l.take (k + 1)) = duK (duL (newK 0 s) (l.take k)) n by rw [take_snoc hn, duL_snoc])
      have hx : (l.take k).length ≤ 200 := by rw [List.length_take]; omega
      have hx1 : (l.take (k + 1)).length ≤ 200 := by rw [List.length_take]; omega
      have HI1 := Lib.hid (HIk.out _ hx)
      have HA1 : Hid ((duL (newK 0 s) (l.take k)).all < 1000000) := Lib.hid (by rw [(duL_all _ _).1]; show (0 : Int) + _ < _; omega)
      have HP1 : Hid ((duL (newK 0 s) (l.take k)).step = s) := Lib.hid (duL_all _ _).2
      have HD : Hid (Inv (duL (newK 0 s) (l.take (k + 1)))) := Lib.hid (HIk.out _ hx1)
      have HDn : Hid ((duL (newK 0 s) (l.take (k + 1))).tick - (duL (newK 0 s) (l.take (k + 1))).mark < s) := Lib.hid (by have := HIn.out _ hx1; rw [(duL_all _ _).2] at this; exact this)
      have HDt : Hid ((duL (newK 0 s) (l.take (k + 1))).tick = tickK 0 (l.take (k + 1))) := Lib.hid (duL_tick _ _)
      obtain ⟨D, eD⟩ : ∃ D, D = duL (newK 0 s) (l.take (k + 1)) := ⟨_, rfl⟩
      rw [← eD] at HD HDn HDt HE
      have ED := Lib.hid eD
      clear hab c00 hn hx hx1 eD
      generalize duL (newK 0 s) (l.take k) = S at *
      go_wp2_with fail
      refine (read_x HS.out.ck HI1.out HA1.out n).mono ?_
      rintro e w3 ⟨rfl, hc, ha⟩
      have HS2 := Lib.hid (HS.out.turn hc ha)
      have HI2 := Lib.hid (HI1.out.read n HA1.out)
      clear hc ha
      go_wp2_with fail
      by_cases g : s ≤ (rdK S n).tick - S.mark
      · refine (due_to (d := true) HS2.out.ck HI2.out (decide_eq_true (by show S.step ≤ (rdK S n).tick - S.mark; rw [HP1.out]; exact g))).mono ?_
        rintro e w4 ⟨rfl, hk4⟩
        have HS3 := Lib.hid (HS2.out.keep hk4)
        clear hk4
        go_wp2_with fail
        refine (marked_x HS3.out.ck).mono ?_
        rintro e w5 ⟨rfl, hc, ha⟩
        have HT : Hid (SA W w5 b D) := Lib.hid (by rw [HE.out, duK, if_pos (by rw [HP1.out]; exact g)]; exact HS3.out.turn hc ha)
        clear hc ha
        have HS3 := Lib.hid (SA.made HT.out.below (newK D.mark s))
        have HT3 := Lib.hid (HT.out.past (.cells (ckC (newK D.mark s)) 38))
        have HNE := Lib.hid HT.out.ne
        go_wp2_with fail
        refine (mark_x HT.out.ck).mono ?_
        rintro e w6 ⟨rfl, rfl⟩
        go_wp2_with fail
        refine (new_x D.mark s w6 ⟨HD.out.m0, Int.le_trans HD.out.m1 HD.out.t1, hs0, hs1⟩).mono ?_
        rintro e w7 ⟨rfl, rfl⟩
        generalize (w6.alloc (.cells (ckC (newK D.mark s)) 38)) = w7 at HS3 HT3
        generalize w6.heap.size = d at HS3 HNE
        have HIN := Lib.hid (inv_new (m := D.mark) (s := s) ⟨HD.out.m0, Int.le_trans HD.out.m1 HD.out.t1, hs0, hs1⟩)
        obtain ⟨t0, t1, m0, m1, -, -, -, -, -, -⟩ := HD.out
        have hnear := HDn.out
        have e1 : decide (s ≤ D.tick - D.mark) = false := decide_eq_false (by omega)
        have e2 : decide (D.tick < D.mark) = false := decide_eq_false (by omega)
        go_wp2_with fail
        refine (tick_x HT3.out.ck).mono ?_
        rintro e w8 ⟨rfl, rfl⟩
        go_wp2_with fail
        refine (tick_to (x := D.mark) HS3.out.ck rfl).mono ?_
        rintro e w8 ⟨rfl, rfl⟩
        go_wp2_with fail
        refine (tick_to (x := D.mark) HS3.out.ck rfl).mono ?_
        rintro e w8 ⟨rfl, rfl⟩
        go_wp2_with fail
        refine (tick_x HT3.out.ck).mono ?_
        rintro e w8 ⟨rfl, rfl⟩
        go_wp2_with fail
        refine (due_to (d := false) HS3.out.ck HIN.out (decide_eq_false (by show ¬ s ≤ D.mark - D.mark; omega))).mono ?_
        rintro e w8 ⟨rfl, hk8⟩
        have HS4 := Lib.hid (HS3.out.keep hk8)
        have HT4 := Lib.hid (HT3.out.keep hk8)
        clear hk8 HS3 HT3 t0 t1 m0 m1 hnear e1 e2
        have rm : Int.tmod (k : Int) 10 = ((k % 10 : Nat) : Int) := by rw [show (10 : Int) = ((10 : Nat) : Int) from rfl, Int.ofNat_tmod]
        by_cases hz : k % 10 = 0
        · rw [hz] at rm
          go_wp2_with fail
          go_loopw [10] (fun i wx => ∃ j : Nat, j ≤ k + 1 ∧ i = .int .i64 j ∧ Hid (SA W wx b D) ∧ Hid (SA W wx d (rdL (newK D.mark s) (l.take j)))) (fun i _ => k + 1 - (intOf i).toNat)
          case atStart => exact ⟨0, Nat.zero_le _, rfl, HT4, HS4⟩
          case round =>
            obtain ⟨j, hj, rfl, HX, HXd⟩ := hrel
            by_cases hjk : j ≤ k
            · obtain ⟨n', hn'⟩ : ∃ n', l[j]? = some n' := ⟨_, List.getElem?_eq_getElem (by omega)⟩
              obtain ⟨ad', had, hab, c00⟩ := HR.out j n' hn'
              injection had with had
              subst had
              have hjl : j < l.length := by omega
              have c1 := (HX.out.below.cell (p := ad.add j) (by rw [add_block]; exact hab)).trans c00
              have HEj := Lib.hid (show rdL (newK D.mark s) (l.take (j + 1)) = rdK (rdL (newK D.mark s) (l.take j)) n' by rw [take_snoc hn', rdL_snoc])
              have HIj := Lib.hid (HIN.out.rdL (l.take j) (by show (0 : Int) + _ ≤ _; rw [List.length_take]; omega))
              have HAj : Hid ((rdL (newK D.mark s) (l.take j)).all < 1000000) := Lib.hid (by rw [rdL_e]; show (0 : Int) + _ < _; rw [List.length_take]; omega)
              clear hab c00 hn'
              go_wp2_with fail
              refine (read_x HXd.out.ck HIj.out HAj.out n').mono ?_
              rintro e w9 ⟨rfl, hc, ha⟩
              have HX2 := Lib.hid (HX.out.other ha HNE.out HXd.out.new)
              have HXd2 := Lib.hid (HXd.out.turn hc ha)
              clear hc ha
              go_wp2_with fail
              go_roundw
              case rel => exact ⟨j + 1, by omega, by go_num, HX2, by rw [HEj.out]; exact HXd2⟩
              case measure => simp [intOf]; omega
            · have ej : j = k + 1 := by omega
              have HXc := HXd.out
              rw [ej] at HXc
              have HXe := Lib.hid HXc
              have HTe : Hid ((rdL (newK D.mark s) (l.take (k + 1))).tick = D.tick) := Lib.hid (by
                rw [rdL_e, HDt.out]
                exact tick_again 0 _ D.mark HD.out.m0 (by rw [← HDt.out]; exact HD.out.m1))
              have hbe : ((D.tick : Int) != D.tick) = false := bne_self_eq_false D.tick
              clear HXc HXd ej
              go_wp2_with fail
              refine (tick_to HXe.out.ck HTe.out).mono ?_
              rintro e w9 ⟨rfl, rfl⟩
              go_wp2_with fail
              refine (tick_x HX.out.ck).mono ?_
              rintro e w9 ⟨rfl, rfl⟩
              go_wp2_with fail
              go_roundw
              case rel => exact ⟨k + 1, by omega, by go_num, by rw [← ED.out]; exact HX⟩
              case measure => simp [intOf]; omega
        · have hz2 : ¬ ((k % 10 : Nat) : Int) = 0 := by omega
          go_wp2_with fail
          go_roundw
          case rel => exact ⟨k + 1, by omega, by go_num, by rw [← ED.out]; exact HT4⟩
          case measure => simp [intOf]; omega
      · refine (due_to (d := false) HS2.out.ck HI2.out (decide_eq_false (by show ¬ S.step ≤ (rdK S n).tick - S.mark; rw [HP1.out]; exact g))).mono ?_
        rintro e w5 ⟨rfl, hk4⟩
        have HT : Hid (SA W w5 b D) := Lib.hid (by rw [HE.out, duK, if_neg (by rw [HP1.out]; exact g)]; exact HS2.out.keep hk4)
        clear hk4
        have HS3 := Lib.hid (SA.made HT.out.below (newK D.mark s))
        have HT3 := Lib.hid (HT.out.past (.cells (ckC (newK D.mark s)) 38))
        have HNE := Lib.hid HT.out.ne
        go_wp2_with fail
        refine (mark_x HT.out.ck).mono ?_
        rintro e w6 ⟨rfl, rfl⟩
        go_wp2_with fail
        refine (new_x D.mark s w6 ⟨HD.out.m0, Int.le_trans HD.out.m1 HD.out.t1, hs0, hs1⟩).mono ?_
        rintro e w7 ⟨rfl, rfl⟩
        generalize (w6.alloc (.cells (ckC (newK D.mark s)) 38)) = w7 at HS3 HT3
        generalize w6.heap.size = d at HS3 HNE
        have HIN := Lib.hid (inv_new (m := D.mark) (s := s) ⟨HD.out.m0, Int.le_trans HD.out.m1 HD.out.t1, hs0, hs1⟩)
        obtain ⟨t0, t1, m0, m1, -, -, -, -, -, -⟩ := HD.out
        have hnear := HDn.out
        have e1 : decide (s ≤ D.tick - D.mark) = false := decide_eq_false (by omega)
        have e2 : decide (D.tick < D.mark) = false := decide_eq_false (by omega)
        go_wp2_with fail
        refine (tick_x HT3.out.ck).mono ?_
        rintro e w8 ⟨rfl, rfl⟩
        go_wp2_with fail
        refine (tick_to (x := D.mark) HS3.out.ck rfl).mono ?_
        rintro e w8 ⟨rfl, rfl⟩
        go_wp2_with fail
        refine (tick_to (x := D.mark) HS3.out.ck rfl).mono ?_
        rintro e w8 ⟨rfl, rfl⟩
        go_wp2_with fail
        refine (tick_x HT3.out.ck).mono ?_
        rintro e w8 ⟨rfl, rfl⟩
        go_wp2_with fail
        refine (due_to (d := false) HS3.out.ck HIN.out (decide_eq_false (by show ¬ s ≤ D.mark - D.mark; omega))).mono ?_
        rintro e w8 ⟨rfl, hk8⟩
        have HS4 := Lib.hid (HS3.out.keep hk8)
        have HT4 := Lib.hid (HT3.out.keep hk8)
        clear hk8 HS3 HT3 t0 t1 m0 m1 hnear e1 e2
        have rm : Int.tmod (k : Int) 10 = ((k % 10 : Nat) : Int) := by rw [show (10 : Int) = ((10 : Nat) : Int) from rfl, Int.ofNat_tmod]
        by_cases hz : k % 10 = 0
        · rw [hz] at rm
          go_wp2_with fail
          go_loopw [10] (fun i wx => ∃ j : Nat, j ≤ k + 1 ∧ i = .int .i64 j ∧ Hid (SA W wx b D) ∧ Hid (SA W wx d (rdL (newK D.mark s) (l.take j)))) (fun i _ => k + 1 - (intOf i).toNat)
          case atStart => exact ⟨0, Nat.zero_le _, rfl, HT4, HS4⟩
          case round =>
            obtain ⟨j, hj, rfl, HX, HXd⟩ := hrel
            by_cases hjk : j ≤ k
            · obtain ⟨n', hn'⟩ : ∃ n', l[j]? = some n' := ⟨_, List.getElem?_eq_getElem (by omega)⟩
              obtain ⟨ad', had, hab, c00⟩ := HR.out j n' hn'
              injection had with had
              subst had
              have hjl : j < l.length := by omega
              have c1 := (HX.out.below.cell (p := ad.add j) (by rw [add_block]; exact hab)).trans c00
              have HEj := Lib.hid (show rdL (newK D.mark s) (l.take (j + 1)) = rdK (rdL (newK D.mark s) (l.take j)) n' by rw [take_snoc hn', rdL_snoc])
              have HIj := Lib.hid (HIN.out.rdL (l.take j) (by show (0 : Int) + _ ≤ _; rw [List.length_take]; omega))
              have HAj : Hid ((rdL (newK D.mark s) (l.take j)).all < 1000000) := Lib.hid (by rw [rdL_e]; show (0 : Int) + _ < _; rw [List.length_take]; omega)
              clear hab c00 hn'
              go_wp2_with fail
              refine (read_x HXd.out.ck HIj.out HAj.out n').mono ?_
              rintro e w9 ⟨rfl, hc, ha⟩
              have HX2 := Lib.hid (HX.out.other ha HNE.out HXd.out.new)
              have HXd2 := Lib.hid (HXd.out.turn hc ha)
              clear hc ha
              go_wp2_with fail
              go_roundw
              case rel => exact ⟨j + 1, by omega, by go_num, HX2, by rw [HEj.out]; exact HXd2⟩
              case measure => simp [intOf]; omega
            · have ej : j = k + 1 := by omega
              have HXc := HXd.out
              rw [ej] at HXc
              have HXe := Lib.hid HXc
              have HTe : Hid ((rdL (newK D.mark s) (l.take (k + 1))).tick = D.tick) := Lib.hid (by
                rw [rdL_e, HDt.out]
                exact tick_again 0 _ D.mark HD.out.m0 (by rw [← HDt.out]; exact HD.out.m1))
              have hbe : ((D.tick : Int) != D.tick) = false := bne_self_eq_false D.tick
              clear HXc HXd ej
              go_wp2_with fail
              refine (tick_to HXe.out.ck HTe.out).mono ?_
              rintro e w9 ⟨rfl, rfl⟩
              go_wp2_with fail
              refine (tick_x HX.out.ck).mono ?_
              rintro e w9 ⟨rfl, rfl⟩
              go_wp2_with fail
              go_roundw
              case rel => exact ⟨k + 1, by omega, by go_num, by rw [← ED.out]; exact HX⟩
              case measure => simp [intOf]; omega
        · have hz2 : ¬ ((k % 10 : Nat) : Int) = 0 := by omega
          go_wp2_with fail
          go_roundw
          case rel => exact ⟨k + 1, by omega, by go_num, by rw [← ED.out]; exact HT4⟩
          case measure => simp [intOf]; omega
    · have e : l.take k = l := List.take_of_length_le (by omega)
      go_wp2_with fail
      go_ret
      exact ⟨rfl, HS.out.below⟩
end Go.Proofs.Ytokpenkkgbnioaa
