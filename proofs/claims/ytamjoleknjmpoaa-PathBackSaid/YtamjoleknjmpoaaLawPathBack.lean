/-
  The walk of the law PathBack.
-/
import Derived.Test.YtamjoleknjmpoaaPtTwo
namespace Go.Proofs.Ytamjoleknjmpoaa
open Go.RowKit
/-- Two paths in their boxes. -/
structure PQ (W : World) (p q : Pth) (w : World) : Prop where
  p : PB W W.heap.size p w
  q : PB W (W.heap.size + 1) q w
theorem PQ.next {W w w' : World} {p q : Pth} (h : PQ W p q w) (hb : Below w.heap.size w w') : PQ W p q w' := ⟨h.p.next hb, h.q.next hb⟩
theorem PQ.new (w : World) (p q : Pth) : PQ w p q ((w.alloc (.cells #[.string (mkS p.1), .string (mkS p.2)] 23)).alloc (.cells #[.string (mkS q.1), .string (mkS q.2)] 23)) := by
  refine ⟨(pb_new (Below.refl _ w) p).next (below_box _ _), ?_⟩
  have h := pb_new (pb_new (Below.refl w.heap.size w) p).below q
  rw [World.size_alloc] at h
  exact h
set_option maxRecDepth 100000 in
set_option maxHeartbeats 8000000 in
theorem pathBack_x (p q : Pth) (s behind : List UInt8) (w : World) (_ : s.length ≤ 140737488355328) (_ : behind.length ≤ 140737488355328) :
    Calls Try.prog 4 #[.agg #[.string (mkS p.1), .string (mkS p.2)], .agg #[.string (mkS q.1), .string (mkS q.2)], .string (mkS s), .string (mkS behind)] w fun e w' => e = .returned (.bool true) ∧ Below w.heap.size w w' := by
  have HA := Lib.hid awake_x
  have HPQ := Lib.hid (PQ.new w p q)
  have z1 := mkS_size p.1
  have z2 := mkS_size p.2
  have z3 := mkS_size q.1
  have z4 := mkS_size q.2
  have z5 := mkS_size s
  have z6 := mkS_size behind
  by_cases h1 : 500 < p.1.length
  · have d1 : decide ((500 : Int) < (p.1.length : Int)) = true := decide_eq_true (by omega)
    go_enter Try.func4, Try.ntmps4
    go_wp2_with fail
    refine (HA.out _).mono ?_
    rintro e w1 ⟨rfl, hb⟩
    have H1 := Lib.hid (HPQ.out.next hb)
    clear hb
    have p0 := cellOf H1.out.p.box 0
    have p1 := cellOf H1.out.p.box 1
    have q0 := cellOf H1.out.q.box 0
    have q1 := cellOf H1.out.q.box 1
    go_wp2_with fail
    go_ret
    exact ⟨rfl, H1.out.p.below⟩
  have d1 : decide ((500 : Int) < (p.1.length : Int)) = false := decide_eq_false (by omega)
  by_cases h2 : 500 < p.2.length
  · have d2 : decide ((500 : Int) < (p.2.length : Int)) = true := decide_eq_true (by omega)
    go_enter Try.func4, Try.ntmps4
    go_wp2_with fail
    refine (HA.out _).mono ?_
    rintro e w1 ⟨rfl, hb⟩
    have H1 := Lib.hid (HPQ.out.next hb)
    clear hb
    have p0 := cellOf H1.out.p.box 0
    have p1 := cellOf H1.out.p.box 1
    have q0 := cellOf H1.out.q.box 0
    have q1 := cellOf H1.out.q.box 1
    go_wp2_with fail
    go_ret
    exact ⟨rfl, H1.out.p.below⟩
  have d2 : decide ((500 : Int) < (p.2.length : Int)) = false := decide_eq_false (by omega)
  by_cases h3 : 500 < q.1.length
  · have d3 : decide ((500 : Int) < (q.1.length : Int)) = true := decide_eq_true (by omega)
    go_enter Try.func4, Try.ntmps4
    go_wp2_with fail
    refine (HA.out _).mono ?_
    rintro e w1 ⟨rfl, hb⟩
    have H1 := Lib.hid (HPQ.out.next hb)
    clear hb
    have p0 := cellOf H1.out.p.box 0
    have p1 := cellOf H1.out.p.box 1
    have q0 := cellOf H1.out.q.box 0
    have q1 := cellOf H1.out.q.box 1
    go_wp2_with fail
    go_ret
    exact ⟨rfl, H1.out.p.below⟩
  have d3 : decide ((500 : Int) < (q.1.length : Int)) = false := decide_eq_false (by omega)
  by_cases h4 : 500 < q.2.length
  · have d4 : decide ((500 : Int) < (q.2.length : Int)) = true := decide_eq_true (by omega)
    go_enter Try.func4, Try.ntmps4
    go_wp2_with fail
    refine (HA.out _).mono ?_
    rintro e w1 ⟨rfl, hb⟩
    have H1 := Lib.hid (HPQ.out.next hb)
    clear hb
    have p0 := cellOf H1.out.p.box 0
    have p1 := cellOf H1.out.p.box 1
    have q0 := cellOf H1.out.q.box 0
    have q1 := cellOf H1.out.q.box 1
    go_wp2_with fail
    go_ret
    exact ⟨rfl, H1.out.p.below⟩
  have d4 : decide ((500 : Int) < (q.2.length : Int)) = false := decide_eq_false (by omega)
  by_cases h5 : 1500 < s.length
  · have d5 : decide ((1500 : Int) < (s.length : Int)) = true := decide_eq_true (by omega)
    go_enter Try.func4, Try.ntmps4
    go_wp2_with fail
    refine (HA.out _).mono ?_
    rintro e w1 ⟨rfl, hb⟩
    have H1 := Lib.hid (HPQ.out.next hb)
    clear hb
    have p0 := cellOf H1.out.p.box 0
    have p1 := cellOf H1.out.p.box 1
    have q0 := cellOf H1.out.q.box 0
    have q1 := cellOf H1.out.q.box 1
    go_wp2_with fail
    go_ret
    exact ⟨rfl, H1.out.p.below⟩
  have d5 : decide ((1500 : Int) < (s.length : Int)) = false := decide_eq_false (by omega)
  by_cases h6 : 500 < behind.length
  · have d6 : decide ((500 : Int) < (behind.length : Int)) = true := decide_eq_true (by omega)
    go_enter Try.func4, Try.ntmps4
    go_wp2_with fail
    refine (HA.out _).mono ?_
    rintro e w1 ⟨rfl, hb⟩
    have H1 := Lib.hid (HPQ.out.next hb)
    clear hb
    have p0 := cellOf H1.out.p.box 0
    have p1 := cellOf H1.out.p.box 1
    have q0 := cellOf H1.out.q.box 0
    have q1 := cellOf H1.out.q.box 1
    go_wp2_with fail
    go_ret
    exact ⟨rfl, H1.out.p.below⟩
  have d6 : decide ((500 : Int) < (behind.length : Int)) = false := decide_eq_false (by omega)
  have HPP := Lib.hid (fun w => prG_x p w (by omega) (by omega))
  have HPQ2 := Lib.hid (fun w => prG_x q w (by omega) (by omega))
  have HPA := Lib.hid (fun w => paG_x s w (by omega))
  have HRI := Lib.hid (fun w => riG_x p w (by omega) (by omega))
  have HPB := Lib.hid (fun (h : rightE p = 0) w => paT_x h behind (by omega) w)
  have hb5 : behind.length ≤ 500 := by omega
  obtain ⟨x, hx⟩ : ∃ x, (parseV s).1 = x := ⟨_, rfl⟩
  obtain ⟨rest, hrest⟩ : ∃ r, (parseV s).2.1 = r := ⟨_, rfl⟩
  obtain ⟨c, hc⟩ : ∃ c, (parseV s).2.2 = c := ⟨_, rfl⟩
  have HPV := Lib.hid (show parseV s = (x, rest, c) by rw [← hx, ← hrest, ← hc])
  rw [hx, hrest, hc] at HPA
  clear hx hrest hc
  by_cases hc : c = 0
  · subst hc
    obtain ⟨hx0, k, hk, hsl, hsd⟩ := parse_back HPV.out
    have HPX := Lib.hid (fun w => prT_x hx0 w)
    have HNX := Lib.hid (fun w => paN_x hx0 w)
    have HRX := Lib.hid (fun w => riT_x hx0 w)
    have hex := fun w => eqT x w
    have hexs : (mkS s).extract k (k + rest.length) = mkS rest := by rw [mkS_extract, ← hsl, List.take_length, hsd]
    have zr := mkS_size rest
    have d8 : decide ((k : Int) + (rest.length : Int) ≤ (rest.length : Int)) = false := decide_eq_false (by omega)
    rw [hsl] at z5
    have hs15 : k + rest.length ≤ 1500 := by omega
    have d5' : decide ((1500 : Int) < (k : Int) + (rest.length : Int)) = false := decide_eq_false (by omega)
    generalize textL x = tx at HPX HNX
    generalize rest.length = rl at hexs zr d8 z5 hs15 d5'
    clear hx0 hsl hsd d5 h5
    go_enter Try.func4, Try.ntmps4
    go_wp2_with fail
    refine (HA.out _).mono ?_
    rintro e w1 ⟨rfl, hb⟩
    have H1 := Lib.hid (HPQ.out.next hb)
    clear hb
    have p0 := cellOf H1.out.p.box 0
    have p1 := cellOf H1.out.p.box 1
    have q0 := cellOf H1.out.q.box 0
    have q1 := cellOf H1.out.q.box 1
    go_wp2_with fail
    refine (HPA.out _).mono ?_
    rintro e w2 ⟨rfl, hb⟩
    have X2 := Lib.hid (pb_new (H1.out.next hb).p.below x)
    have H2 := Lib.hid ((H1.out.next hb).next (below_box _ (.cells #[.string (mkS x.1), .string (mkS x.2)] 23)))
    clear hb p0 p1 q0 q1
    have xa0 := cellOf X2.out.box 0
    have xa1 := cellOf X2.out.box 1
    go_wp2_with fail
    refine (HPX.out _).mono ?_
    rintro e w3 ⟨rfl, hb⟩
    have X3 := Lib.hid (X2.out.next hb)
    have H3 := Lib.hid (H2.out.next hb)
    clear hb xa0 xa1
    go_wp2_with fail
    refine (HNX.out _).mono ?_
    rintro e w4 ⟨rfl, hb⟩
    have X4 := Lib.hid (X3.out.next hb)
    have H4b := Lib.hid (H3.out.next hb)
    have H4 := Lib.hid ((H3.out.next hb).next (below_box _ (.cells #[.string (mkS x.1), .string (mkS x.2)] 23)))
    clear hb
    have xa0 := cellOf X4.out.box 0
    have xa1 := cellOf X4.out.box 1
    have ltx := ltOf X4.out.box
    go_wp2_with fail
    refine (HRX.out _).mono ?_
    rintro e w4r ⟨rfl, hb⟩
    have H4r := Lib.hid (H4.out.next hb)
    clear hb xa0 xa1 ltx
    have p0 := cellOf H4r.out.p.box 0
    have p1 := cellOf H4r.out.p.box 1
    have q0 := cellOf H4r.out.q.box 0
    have q1 := cellOf H4r.out.q.box 1
    by_cases hp0 : rightE p = 0
    · have HPT := Lib.hid (fun w => prT_x hp0 w)
      have HPB2 := Lib.hid (fun w => HPB.out hp0 w)
      have hcat : mkS (textL p) ++ mkS behind = mkS (textL p ++ behind) := mkS_cat _ _
      have hz : (mkS (textL p)).size = (textL p).length := mkS_size _
      have hl := text_len hp0
      have he := fun w => eqT p w
      have hTp := mkS_toList (textL p)
      by_cases hq0 : rightE q = 0
      · have HQT := Lib.hid (fun w => prT_x hq0 w)
        have heq : (textL p == textL q) = (p.1 == q.1 && p.2 == q.2) := text_eqb hp0 hq0
        have hpq := fun w => eqP p q w
        have hTq := mkS_toList (textL q)
        generalize (p.1 == q.1 && p.2 == q.2) = r at heq hpq
        generalize textL p ++ behind = pb at hcat HPB2
        generalize textL p = tp at HPT hcat hz hl hTp heq
        generalize textL q = tq at HQT hTq heq
        clear hp0 hq0
        go_wp2_with fail
        refine (HPT.out _).mono ?_
        rintro e w5 ⟨rfl, hb⟩
        have H5 := Lib.hid (H4r.out.next hb)
        clear hb p0 p1 q0 q1
        have p0 := cellOf H5.out.p.box 0
        have p1 := cellOf H5.out.p.box 1
        have q0 := cellOf H5.out.q.box 0
        have q1 := cellOf H5.out.q.box 1
        go_wp2_with fail
        refine (HQT.out _).mono ?_
        rintro e w6 ⟨rfl, hb⟩
        have H6 := Lib.hid (H5.out.next hb)
        clear hb p0 p1 q0 q1
        go_wp2_with fail
        refine (HPB2.out _).mono ?_
        rintro e w7 ⟨rfl, hb⟩
        have H7 := Lib.hid ((H6.out.next hb).next (below_box _ (.cells #[.string (mkS p.1), .string (mkS p.2)] 23)))
        have H7b := Lib.hid (H6.out.next hb)
        clear hb
        have k0 := cellOf H7b.out.p.box 0
        have k1 := cellOf H7b.out.p.box 1
        have k2 := cellOf H7b.out.q.box 0
        have k3 := cellOf H7b.out.q.box 1
        have lt0 := ltOf H7b.out.p.box
        have lt1 := ltOf H7b.out.q.box
        go_wp2_with fail
        go_ret
        exact ⟨rfl, H7.out.p.below⟩
      · have d7 : (rightE q != 0) = true := bne_iff_ne.2 hq0
        generalize textL p ++ behind = pb at hcat HPB2
        generalize textL p = tp at HPT hcat hz hl hTp
        generalize printV q = tq at HPQ2
        generalize rightE q = eq at HPQ2 d7
        clear hp0 hq0
        go_wp2_with fail
        refine (HPT.out _).mono ?_
        rintro e w5 ⟨rfl, hb⟩
        have H5 := Lib.hid (H4r.out.next hb)
        clear hb p0 p1 q0 q1
        have p0 := cellOf H5.out.p.box 0
        have p1 := cellOf H5.out.p.box 1
        have q0 := cellOf H5.out.q.box 0
        have q1 := cellOf H5.out.q.box 1
        go_wp2_with fail
        refine (HPQ2.out _).mono ?_
        rintro e w6 ⟨rfl, hb⟩
        have H6 := Lib.hid (H5.out.next hb)
        clear hb p0 p1 q0 q1
        go_wp2_with fail
        refine (HPB2.out _).mono ?_
        rintro e w7 ⟨rfl, hb⟩
        have H7 := Lib.hid ((H6.out.next hb).next (below_box _ (.cells #[.string (mkS p.1), .string (mkS p.2)] 23)))
        have H7b := Lib.hid (H6.out.next hb)
        clear hb
        have k0 := cellOf H7b.out.p.box 0
        have k1 := cellOf H7b.out.p.box 1
        have lt0 := ltOf H7b.out.p.box
        go_wp2_with fail
        go_ret
        exact ⟨rfl, H7.out.p.below⟩
    · have d7 : (rightE p != 0) = true := bne_iff_ne.2 hp0
      have HNP := Lib.hid (print_no hp0)
      have hT0 := mkS_toList ([] : List UInt8)
      rw [HNP.out] at HPP
      generalize rightE p = ep at HPP HRI d7
      clear hp0
      go_wp2_with fail
      refine (HPP.out _).mono ?_
      rintro e w5 ⟨rfl, hb⟩
      have H5 := Lib.hid (H4r.out.next hb)
      clear hb p0 p1 q0 q1
      have p0 := cellOf H5.out.p.box 0
      have p1 := cellOf H5.out.p.box 1
      have q0 := cellOf H5.out.q.box 0
      have q1 := cellOf H5.out.q.box 1
      go_wp2_with fail
      refine (HPQ2.out _).mono ?_
      rintro e w6 ⟨rfl, hb⟩
      have H6 := Lib.hid (H5.out.next hb)
      clear hb p0 p1 q0 q1
      have p0 := cellOf H6.out.p.box 0
      have p1 := cellOf H6.out.p.box 1
      have q0 := cellOf H6.out.q.box 0
      have q1 := cellOf H6.out.q.box 1
      go_wp2_with fail
      refine (HRI.out _).mono ?_
      rintro e w7 ⟨rfl, hb⟩
      have H7 := Lib.hid (H6.out.next hb)
      clear hb p0 p1 q0 q1
      go_wp2_with fail
      go_ret
      exact ⟨rfl, H7.out.p.below⟩
  · have d8 : (c == 0) = false := beq_eq_false_iff_ne.2 hc
    clear hc
    go_enter Try.func4, Try.ntmps4
    go_wp2_with fail
    refine (HA.out _).mono ?_
    rintro e w1 ⟨rfl, hb⟩
    have H1 := Lib.hid (HPQ.out.next hb)
    clear hb
    have p0 := cellOf H1.out.p.box 0
    have p1 := cellOf H1.out.p.box 1
    have q0 := cellOf H1.out.q.box 0
    have q1 := cellOf H1.out.q.box 1
    go_wp2_with fail
    refine (HPA.out _).mono ?_
    rintro e w2 ⟨rfl, hb⟩
    have X2 := Lib.hid (pb_new (H1.out.next hb).p.below x)
    have H2 := Lib.hid ((H1.out.next hb).next (below_box _ (.cells #[.string (mkS x.1), .string (mkS x.2)] 23)))
    clear hb p0 p1 q0 q1
    have p0 := cellOf H2.out.p.box 0
    have p1 := cellOf H2.out.p.box 1
    have q0 := cellOf H2.out.q.box 0
    have q1 := cellOf H2.out.q.box 1
    by_cases hp0 : rightE p = 0
    · have HPT := Lib.hid (fun w => prT_x hp0 w)
      have HPB2 := Lib.hid (fun w => HPB.out hp0 w)
      have hcat : mkS (textL p) ++ mkS behind = mkS (textL p ++ behind) := mkS_cat _ _
      have hz : (mkS (textL p)).size = (textL p).length := mkS_size _
      have hl := text_len hp0
      have he := fun w => eqT p w
      have hTp := mkS_toList (textL p)
      by_cases hq0 : rightE q = 0
      · have HQT := Lib.hid (fun w => prT_x hq0 w)
        have heq : (textL p == textL q) = (p.1 == q.1 && p.2 == q.2) := text_eqb hp0 hq0
        have hpq := fun w => eqP p q w
        have hTq := mkS_toList (textL q)
        generalize (p.1 == q.1 && p.2 == q.2) = r at heq hpq
        generalize textL p ++ behind = pb at hcat HPB2
        generalize textL p = tp at HPT hcat hz hl hTp heq
        generalize textL q = tq at HQT hTq heq
        clear hp0 hq0
        go_wp2_with fail
        refine (HPT.out _).mono ?_
        rintro e w5 ⟨rfl, hb⟩
        have H5 := Lib.hid (H2.out.next hb)
        clear hb p0 p1 q0 q1
        have p0 := cellOf H5.out.p.box 0
        have p1 := cellOf H5.out.p.box 1
        have q0 := cellOf H5.out.q.box 0
        have q1 := cellOf H5.out.q.box 1
        go_wp2_with fail
        refine (HQT.out _).mono ?_
        rintro e w6 ⟨rfl, hb⟩
        have H6 := Lib.hid (H5.out.next hb)
        clear hb p0 p1 q0 q1
        go_wp2_with fail
        refine (HPB2.out _).mono ?_
        rintro e w7 ⟨rfl, hb⟩
        have H7 := Lib.hid ((H6.out.next hb).next (below_box _ (.cells #[.string (mkS p.1), .string (mkS p.2)] 23)))
        have H7b := Lib.hid (H6.out.next hb)
        clear hb
        have k0 := cellOf H7b.out.p.box 0
        have k1 := cellOf H7b.out.p.box 1
        have k2 := cellOf H7b.out.q.box 0
        have k3 := cellOf H7b.out.q.box 1
        have lt0 := ltOf H7b.out.p.box
        have lt1 := ltOf H7b.out.q.box
        go_wp2_with fail
        go_ret
        exact ⟨rfl, H7.out.p.below⟩
      · have d7 : (rightE q != 0) = true := bne_iff_ne.2 hq0
        generalize textL p ++ behind = pb at hcat HPB2
        generalize textL p = tp at HPT hcat hz hl hTp
        generalize printV q = tq at HPQ2
        generalize rightE q = eq at HPQ2 d7
        clear hp0 hq0
        go_wp2_with fail
        refine (HPT.out _).mono ?_
        rintro e w5 ⟨rfl, hb⟩
        have H5 := Lib.hid (H2.out.next hb)
        clear hb p0 p1 q0 q1
        have p0 := cellOf H5.out.p.box 0
        have p1 := cellOf H5.out.p.box 1
        have q0 := cellOf H5.out.q.box 0
        have q1 := cellOf H5.out.q.box 1
        go_wp2_with fail
        refine (HPQ2.out _).mono ?_
        rintro e w6 ⟨rfl, hb⟩
        have H6 := Lib.hid (H5.out.next hb)
        clear hb p0 p1 q0 q1
        go_wp2_with fail
        refine (HPB2.out _).mono ?_
        rintro e w7 ⟨rfl, hb⟩
        have H7 := Lib.hid ((H6.out.next hb).next (below_box _ (.cells #[.string (mkS p.1), .string (mkS p.2)] 23)))
        have H7b := Lib.hid (H6.out.next hb)
        clear hb
        have k0 := cellOf H7b.out.p.box 0
        have k1 := cellOf H7b.out.p.box 1
        have lt0 := ltOf H7b.out.p.box
        go_wp2_with fail
        go_ret
        exact ⟨rfl, H7.out.p.below⟩
    · have d7 : (rightE p != 0) = true := bne_iff_ne.2 hp0
      have HNP := Lib.hid (print_no hp0)
      have hT0 := mkS_toList ([] : List UInt8)
      rw [HNP.out] at HPP
      generalize rightE p = ep at HPP HRI d7
      clear hp0
      go_wp2_with fail
      refine (HPP.out _).mono ?_
      rintro e w5 ⟨rfl, hb⟩
      have H5 := Lib.hid (H2.out.next hb)
      clear hb p0 p1 q0 q1
      have p0 := cellOf H5.out.p.box 0
      have p1 := cellOf H5.out.p.box 1
      have q0 := cellOf H5.out.q.box 0
      have q1 := cellOf H5.out.q.box 1
      go_wp2_with fail
      refine (HPQ2.out _).mono ?_
      rintro e w6 ⟨rfl, hb⟩
      have H6 := Lib.hid (H5.out.next hb)
      clear hb p0 p1 q0 q1
      have p0 := cellOf H6.out.p.box 0
      have p1 := cellOf H6.out.p.box 1
      have q0 := cellOf H6.out.q.box 0
      have q1 := cellOf H6.out.q.box 1
      go_wp2_with fail
      refine (HRI.out _).mono ?_
      rintro e w7 ⟨rfl, hb⟩
      have H7 := Lib.hid (H6.out.next hb)
      clear hb p0 p1 q0 q1
      go_wp2_with fail
      go_ret
      exact ⟨rfl, H7.out.p.below⟩
end Go.Proofs.Ytamjoleknjmpoaa
