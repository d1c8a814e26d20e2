/-
  The walk of the law PathQuotes.
-/
import Derived.Test.YtamjoleknjmpoaaPtTwo
import Derived.Test.YtamjoleknjmpoaaPtDom
import Derived.Test.YtamjoleknjmpoaaPrLab
namespace Go.Proofs.Ytamjoleknjmpoaa
open Go.RowKit
/-- Each byte behind a backslash. -/
def escL (l : List UInt8) : List UInt8 := l.flatMap (fun b => [92, b])
theorem esc_len (l : List UInt8) : (escL l).length = 2 * l.length := by
  induction l with
  | nil => rfl
  | cons b t ih => simp [escL] at ih ⊢; omega
theorem esc_take {l : List UInt8} {k : Nat} {x : UInt8} (hx : l[k]? = some x) : escL (l.take (k + 1)) = escL (l.take k) ++ [92, x] := by
  obtain ⟨hk, e⟩ := List.getElem?_eq_some_iff.1 hx
  rw [List.take_succ_eq_append_getElem hk, e]
  simp [escL]
theorem allp_take {l : List UInt8} {p : UInt8 → Bool} {k : Nat} {x : UInt8} (hx : l[k]? = some x) : (l.take (k + 1)).all p = ((l.take k).all p && p x) := by
  obtain ⟨hk, e⟩ := List.getElem?_eq_some_iff.1 hx
  rw [List.take_succ_eq_append_getElem hk, List.all_append, e]
  simp
/-- A local part at a domain is a path just if its bytes may be. -/
theorem quotes_right {l dm : List UInt8} (h1 : l ≠ []) (h2 : l.length ≤ 64) (hd : domainE dm = 0) : rightE (l, smallL dm) = if l.all printB then 0 else 2 := by
  obtain ⟨d1, d2⟩ := domE_zero.1 hd
  have hne : smallL dm ≠ [] := labels_ne (by rw [labels_small]; exact d2)
  have hlong : longB (l, smallL dm) = false := by
    simp only [longB, Bool.or_eq_false_iff, decide_eq_false_iff_not, smallL_length]
    omega
  have hn : nullB (l, smallL dm) = false := by simp [nullB, hne]
  have hh : hostB (l, smallL dm) = false := by simp [hostB, hne]
  have hf : formB (l, smallL dm) = l.all printB := by
    rw [formB, hn, hh]
    simp [h1, labels_small, d2, smallL_small]
  rw [rightE, hlong, hf]
  rfl
theorem quotes_parse {l dm : List UInt8} (h1 : l ≠ []) (h2 : l.length ≤ 64) (hd : domainE dm = 0) (hp : l.all printB = true) :
    parseV ([60, 34] ++ escL l ++ [34, 64] ++ dm ++ [62]) = ((l, smallL dm), [], 0) := by
  obtain ⟨d1, d2⟩ := domE_zero.1 hd
  have h62 := labels_frame d2
  obtain ⟨c1, c2, c3⟩ := cut_at [] h62
  have hlong : longB (l, smallL dm) = false := by
    simp only [longB, Bool.or_eq_false_iff, decide_eq_false_iff_not, smallL_length]
    omega
  have HE : endV l (dm ++ 62 :: []) true = ((l, smallL dm), [], 0) := by simp [endV, c1, c2, c3, d2, hlong]
  have e : [60, 34] ++ escL l ++ [34, 64] ++ dm ++ [62] = 60 :: 34 :: (l.flatMap (fun b => [92, b]) ++ 34 :: 64 :: (dm ++ 62 :: [])) := by simp [escL]
  have hA : aloneV (34 :: (l.flatMap (fun b => [92, b]) ++ 34 :: 64 :: (dm ++ 62 :: []))) = none := by
    have e3 : ∀ t, preC 62 (34 :: t) = 34 :: preC 62 t := fun t => by simp [preC]
    refine alone_no (by rw [e3]; simp) ?_
    rw [e3]
    intro hc
    have : (smallL (34 :: preC 62 (l.flatMap (fun b => [92, b]) ++ 34 :: 64 :: (dm ++ 62 :: [])))).head? = pmL.head? := by rw [hc]
    simp [smallL, pmL, smallB, capB] at this
  have hU : unqV (l.flatMap (fun b => [92, b]) ++ 34 :: 64 :: (dm ++ 62 :: [])) = (l, 64 :: (dm ++ 62 :: []), true) := by rw [unqV, unq_esc _ _ _ hp]; simp
  rw [e, parseV]
  simp only [List.head?_cons, List.drop_succ_cons, List.drop_zero, hA, localV, hU, cutP, beq_self_eq_true, if_true, Bool.and_self, Bool.true_and]
  rw [show (l != []) = true from bne_iff_ne.2 h1]
  exact HE
/-- Its text's second byte is a quote just if it isn't of atoms. -/
theorem quotes_second {l dm : List UInt8} (h1 : l ≠ []) (hd : domainE dm = 0) : ∃ c : UInt8, (textL (l, smallL dm))[1]? = some c ∧ (c == 34) = !atoms l := by
  obtain ⟨d1, d2⟩ := domE_zero.1 hd
  have hne : smallL dm ≠ [] := labels_ne (by rw [labels_small]; exact d2)
  have hn : nullB (l, smallL dm) = false := by simp [nullB, hne]
  have hh : hostB (l, smallL dm) = false := by simp [hostB, hne]
  have ht : textL (l, smallL dm) = [60] ++ locL l ++ [64] ++ smallL dm ++ [62] := by rw [textL, hn, hh]; rfl
  rw [ht]
  by_cases ha : atoms l = true
  · cases l with
    | nil => exact absurd rfl h1
    | cons x t =>
      refine ⟨x, by simp [locL, ha], ?_⟩
      rw [ha]
      exact beq_eq_false_iff_ne.2 fun e => (atoms_frame ha).1 (e ▸ List.mem_cons_self ..)
  · have ha' : atoms l = false := by simpa using ha
    exact ⟨34, by simp [locL, ha'], by rw [ha']; rfl⟩
theorem c6034 : ({ data := #[60, 34] } : ByteArray) = mkS [60, 34] := rfl
theorem c3464 : ({ data := #[34, 64] } : ByteArray) = mkS [34, 64] := rfl
theorem domQ_x {s : List UInt8} (h : domainE s = 0) (w : World) : Calls Try.prog 13 #[.string (mkS s)] w fun e w' => e = .returned (.tuple #[.string (mkS (smallL s)), .int .i64 0]) ∧ Below w.heap.size w w' :=
  (domain_x s w).mono fun e w' ⟨he, hb⟩ => ⟨by rw [he, domV_zero h, h], hb⟩
theorem print_two {p : Pth} (h : rightE p = 2) (w : World) (h1 : p.1.length ≤ 500) (h2 : p.2.length ≤ 500) : Calls Try.prog 9 #[.agg #[.string (mkS p.1), .string (mkS p.2)]] w fun e w' => e = .returned (.tuple #[.string { data := #[] }, .int .i64 2]) ∧ Below w.heap.size w w' :=
  (prG_x p w h1 h2).mono fun e w' ⟨he, hb⟩ => ⟨by rw [he, print_no (by rw [h]; decide), h]; rfl, hb⟩
set_option maxRecDepth 100000 in
set_option maxHeartbeats 8000000 in
theorem pathQuotes_x (l dm : List UInt8) (w : World) (_ : l.length ≤ 140737488355328) (_ : dm.length ≤ 140737488355328) :
    Calls Try.prog 7 #[.string (mkS l), .string (mkS dm)] w fun e w' => e = .returned (.bool true) ∧ Below w.heap.size w w' := by
  have HA := Lib.hid awake_x
  have hzl := mkS_size l
  have hzd := mkS_size dm
  by_cases h0 : l.length = 0
  · have d1 : ((l.length : Int) == 0) = true := beq_iff_eq.2 (by omega)
    go_enter Try.func7, Try.ntmps7
    go_wp2_with fail
    refine (HA.out _).mono ?_
    rintro e w1 ⟨rfl, hb1⟩
    go_wp2_with fail
    go_ret
    exact ⟨rfl, hb1⟩
  have d1 : ((l.length : Int) == 0) = false := beq_eq_false_iff_ne.2 (by omega)
  by_cases h64 : 64 < l.length
  · have d2 : decide ((64 : Int) < (l.length : Int)) = true := decide_eq_true (by omega)
    go_enter Try.func7, Try.ntmps7
    go_wp2_with fail
    refine (HA.out _).mono ?_
    rintro e w1 ⟨rfl, hb1⟩
    go_wp2_with fail
    go_ret
    exact ⟨rfl, hb1⟩
  have d2 : decide ((64 : Int) < (l.length : Int)) = false := decide_eq_false (by omega)
  by_cases h255 : 255 < dm.length
  · have d3 : decide ((255 : Int) < (dm.length : Int)) = true := decide_eq_true (by omega)
    go_enter Try.func7, Try.ntmps7
    go_wp2_with fail
    refine (HA.out _).mono ?_
    rintro e w1 ⟨rfl, hb1⟩
    go_wp2_with fail
    go_ret
    exact ⟨rfl, hb1⟩
  have d3 : decide ((255 : Int) < (dm.length : Int)) = false := decide_eq_false (by omega)
  by_cases hd : domainE dm = 0
  · have HD := Lib.hid (fun w => domQ_x hd w)
    have hne : l ≠ [] := by rintro rfl; simp at h0
    have hl64 : l.length ≤ 64 := by omega
    have hd255 : dm.length ≤ 255 := by omega
    have HQR := Lib.hid (quotes_right hne hl64 hd)
    have HQP := Lib.hid (fun hp => quotes_parse hne hl64 hd hp)
    have HQS := Lib.hid (quotes_second hne hd)
    have hsl : (smallL dm).length ≤ 255 := by rw [smallL_length]; omega
    have HPN := Lib.hid (fun (h : rightE (l, smallL dm) = 2) w => print_two h w (by show l.length ≤ 500; omega) (by show (smallL dm).length ≤ 500; omega))
    have HPT := Lib.hid (fun (h : rightE (l, smallL dm) = 0) w => prT_x h w)
    have HTL := Lib.hid (fun (h : rightE (l, smallL dm) = 0) => text_len h)
    have HAT := Lib.hid (fun w => ratoms_x l w (by omega))
    have heq := fun w => eqT (l, smallL dm) w
    generalize smallL dm = d at HD HQR HQP HQS HPN HPT HTL hsl heq
    generalize textL (l, d) = t at HQS HPT HTL
    generalize rightE (l, d) = re at HQR HPN HPT HTL
    generalize atoms l = qa at HQS HAT
    clear hd hne
    go_enter Try.func7, Try.ntmps7
    go_wp2_with fail
    refine (HA.out _).mono ?_
    rintro e w1 ⟨rfl, hb1⟩
    have HB1 := Lib.hid hb1
    clear hb1
    go_wp2_with fail
    refine (HD.out _).mono ?_
    rintro e w2 ⟨rfl, hb⟩
    have HB2 := Lib.hid (below_next HB1.out hb)
    clear hb
    go_wp2_with fail
    go_loopw [7, 8, 9] (fun pl v i wr => ∃ k : Nat, k ≤ l.length ∧ i = .int .i64 k ∧ pl = .bool ((l.take k).all printB) ∧ Hid (wr.ownsRow w.heap.size 5 1 v (escL (l.take k)).length (bytesV (escL (l.take k)))) ∧ Hid (Below w.heap.size w wr)) (fun _ _ i _ => l.length - (intOf i).toNat)
    case atStart => exact ⟨0, Nat.zero_le _, rfl, rfl, World.ownsRow_nil _ _ _ _, HB2.out⟩
    case round =>
      obtain ⟨k, hk, rfl, rfl, HO, HW⟩ := hrel
      obtain ⟨A, c, hv⟩ := own_slice HO.out
      by_cases hlt : k < l.length
      · obtain ⟨x, hx⟩ : ∃ x : UInt8, (mkS l)[k]'(by omega) = x := ⟨_, rfl⟩
        have hX : l[k]? = some x := by rw [← hx]; have := Lib.data_getElem? (mkS l) k (by omega); rwa [mkS_data] at this
        have HT := Lib.hid (esc_take hX)
        have HP := Lib.hid (allp_take (p := printB) hX)
        have hel : (escL (l.take k)).length ≤ 1000 := by rw [esc_len, List.length_take]; omega
        generalize escL (l.take k) = ek at HO HT hel hv
        generalize (l.take k).all printB = pk at HP ⊢
        subst hv
        clear hX
        have hx256 := x.toNat_lt
        have HPX := Lib.hid (show printB x = (decide (32 ≤ x.toNat) && decide (x.toNat ≤ 126)) from rfl)
        by_cases h1 : x.toNat < 32
        · have e1 : decide ((x.toNat : Int) < 32) = true := decide_eq_true (by omega)
          have HN := Lib.hid (show (l.take (k + 1)).all printB = false by rw [HP.out, HPX.out, decide_eq_false (by omega)]; simp)
          go_wp2_with (at_builtin; refine app_bytes rfl (.tmp 54) (.tmp 58) rfl w.heap.size (.slice A ek.length c) ek rfl (HO.out.alloc _) ⟨wr.heap.size, 0, none⟩ 2 2 [92, x] rfl rfl ?a1 ?a2 ?a3 ?_)
          case a1 => exact cells_new wr [92, x] _ rfl _ rfl
          case a2 => omega
          case a3 => have := HW.out.size; simp; omega
          intro v1 w3 hown hg
          have HO3 := Lib.hid hown
          have HW3 := Lib.hid (bytes_grown HW.out HO.out hg)
          clear hown hg
          go_wp2_with fail
          go_roundw
          case rel => exact ⟨k + 1, by omega, by go_num, by rw [HN.out], by rw [HT.out, List.length_append]; exact HO3.out, HW3⟩
          case measure => simp [intOf]; omega
        · have e1 : decide ((x.toNat : Int) < 32) = false := decide_eq_false (by omega)
          by_cases h2 : 126 < x.toNat
          · have e2 : decide ((126 : Int) < (x.toNat : Int)) = true := decide_eq_true (by omega)
            have HN := Lib.hid (show (l.take (k + 1)).all printB = false by rw [HP.out, HPX.out, decide_eq_false (show ¬ x.toNat ≤ 126 by omega)]; simp)
            go_wp2_with (at_builtin; refine app_bytes rfl (.tmp 54) (.tmp 58) rfl w.heap.size (.slice A ek.length c) ek rfl (HO.out.alloc _) ⟨wr.heap.size, 0, none⟩ 2 2 [92, x] rfl rfl ?b1 ?b2 ?b3 ?_)
            case b1 => exact cells_new wr [92, x] _ rfl _ rfl
            case b2 => omega
            case b3 => have := HW.out.size; simp; omega
            intro v1 w3 hown hg
            have HO3 := Lib.hid hown
            have HW3 := Lib.hid (bytes_grown HW.out HO.out hg)
            clear hown hg
            go_wp2_with fail
            go_roundw
            case rel => exact ⟨k + 1, by omega, by go_num, by rw [HN.out], by rw [HT.out, List.length_append]; exact HO3.out, HW3⟩
            case measure => simp [intOf]; omega
          · have e2 : decide ((126 : Int) < (x.toNat : Int)) = false := decide_eq_false (by omega)
            have HN := Lib.hid (show (l.take (k + 1)).all printB = pk by rw [HP.out, HPX.out, decide_eq_true (by omega), decide_eq_true (by omega)]; simp)
            go_wp2_with (at_builtin; refine app_bytes rfl (.tmp 54) (.tmp 58) rfl w.heap.size (.slice A ek.length c) ek rfl (HO.out.alloc _) ⟨wr.heap.size, 0, none⟩ 2 2 [92, x] rfl rfl ?d1 ?d2 ?d3 ?_)
            case d1 => exact cells_new wr [92, x] _ rfl _ rfl
            case d2 => omega
            case d3 => have := HW.out.size; simp; omega
            intro v1 w3 hown hg
            have HO3 := Lib.hid hown
            have HW3 := Lib.hid (bytes_grown HW.out HO.out hg)
            clear hown hg
            go_wp2_with fail
            go_roundw
            case rel => exact ⟨k + 1, by omega, by go_num, by rw [HN.out], by rw [HT.out, List.length_append]; exact HO3.out, HW3⟩
            case measure => simp [intOf]; omega
      · have ho := HO.out
        rw [List.take_of_length_le (by omega)] at ho hv ⊢
        have X3 := Lib.hid (pb_new HW.out (l, d))
        have x0 := cellOf X3.out.box 0
        have x1 := cellOf X3.out.box 1
        subst hv
        have HOE := Lib.hid ho
        have hze : (mkS (escL l)).size = 2 * l.length := by rw [mkS_size, esc_len]
        have hcat : { data := #[60, 34] } ++ mkS (escL l) ++ { data := #[34, 64] } ++ mkS dm ++ { data := #[62] } = mkS ([60, 34] ++ escL l ++ [34, 64] ++ dm ++ [62]) := by
          rw [c6034, c3464, c62, mkS_cat, mkS_cat, mkS_cat, mkS_cat]
        have HLEN := Lib.hid (show ([60, 34] ++ escL l ++ [34, 64] ++ dm ++ [62]).length ≤ 100000 by simp [esc_len]; omega)
        generalize [60, 34] ++ escL l ++ [34, 64] ++ dm ++ [62] = big at hcat HQP HLEN
        generalize hpl : l.all printB = pl at HQR HQP ⊢
        clear ho
        cases pl
        · have HPN2 := Lib.hid (HPN.out HQR.out)
          go_wp2_with fail
          refine (HPN2.out _).mono ?_
          rintro e w4 ⟨rfl, hb⟩
          have X4 := Lib.hid (X3.out.next hb)
          clear hb
          go_wp2_with fail
          go_ret
          exact ⟨rfl, X4.out.below⟩
        · have HPT2 := Lib.hid (HPT.out HQR.out)
          have htl := HTL.out HQR.out
          have HPA := Lib.hid (fun w => (paG_x big w HLEN.out).mono fun e w' h => show e = Ending.returned (.tuple #[.agg #[.string (mkS l), .string (mkS d)], .string { data := #[] }, .int .i64 0]) ∧ Below w.heap.size w w' from ⟨by rw [h.1, HQP.out rfl]; rfl, h.2⟩)
          obtain ⟨c2, hc2, hc34⟩ := HQS.out
          have ht2 : 1 < t.length := (List.getElem?_eq_some_iff.1 hc2).1
          have hzt : (mkS t).size = t.length := mkS_size t
          have ht1 : (mkS t)[1]'(by omega) = c2 := mkS_get (by omega) hc2
          have dq : ((c2.toNat : Int) == 34) = !qa := by rw [byte_beq c2 34 (by decide) 34 rfl]; exact hc34
          clear hc2 hc34
          go_wp2_with fail
          refine (HPT2.out _).mono ?_
          rintro e w4 ⟨rfl, hb⟩
          have X4 := Lib.hid (X3.out.next hb)
          have hcv := conv_own ((own_below (HOE.out.alloc (.cells #[.string (mkS l), .string (mkS d)] 23)) hb))
          clear hb x0 x1
          go_wp2_with fail
          refine (HPA.out _).mono ?_
          rintro e w5 ⟨rfl, hb⟩
          have X5 := Lib.hid (X4.out.next hb)
          have Y5 := Lib.hid (X5.out.next (below_box _ (.cells #[.string (mkS l), .string (mkS d)] 23)))
          clear hb hcv hcat
          have x0 := cellOf X5.out.box 0
          have x1 := cellOf X5.out.box 1
          have ltx := ltOf X5.out.box
          go_wp2_with fail
          have i1 : (1 : Int) < (t.length : Int) := by omega
          first | (go_region_held3 (fun _ => True) (trivial) (first
            | (go_at_call 19; (with_reducible refine (HAT.out _).mono ?_); rintro e w6 ⟨rfl, hb6⟩)))
          all_goals
            have HF := Lib.hid (Y5.out.below.trans (Below.mono (show Below _ _ w6 from ⟨hb6.os, hb6.tape, hb6.output, hb6.size, hb6.block⟩) Y5.out.below.size))
            clear hb6 i1 x0 x1 ltx
            go_wp2_with fail
            go_ret
            exact ⟨ret_bool (by cases qa <;> rfl), HF.out⟩
  · have d4 : (domainE dm != 0) = true := bne_iff_ne.2 hd
    have HD := Lib.hid (fun w => domain_x dm w)
    unfold DomPost at HD
    generalize domainE dm = n at HD d4
    go_enter Try.func7, Try.ntmps7
    go_wp2_with fail
    refine (HA.out _).mono ?_
    rintro e w1 ⟨rfl, hb1⟩
    have HB1 := Lib.hid hb1
    clear hb1
    go_wp2_with fail
    refine (HD.out _).mono ?_
    rintro e w2 ⟨rfl, hb⟩
    have HB2 := Lib.hid (below_next HB1.out hb)
    clear hb
    go_wp2_with fail
    go_ret
    exact ⟨rfl, HB2.out⟩
end Go.Proofs.Ytamjoleknjmpoaa
