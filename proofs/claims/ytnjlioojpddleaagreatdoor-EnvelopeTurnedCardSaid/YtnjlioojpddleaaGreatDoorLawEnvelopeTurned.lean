import Derived.Test.YtnjlioojpddleaaGreatDoorMaEvD
import Derived.Test.YtnjlioojpddleaaGreatDoorMaBuild
namespace Go.Proofs.YtnjlioojpddleaaGreatDoor.E
set_option maxRecDepth 100000
open Go.RowKit Go.Shelf
theorem MB.fresh {W w w' : World} {o : Obj} {x : EM} {vr vl : Value} (h : MB W x vr vl w) (hA : Apart w.heap.size (w.alloc o).heap.size (w.alloc o) w') : MB W x vr vl w' := h.next (far_apart hA)
theorem parse_no (s : Txt) (w : World) (hs : s.length ≤ 100000000000) (hR : Rdy w) (h : paE s = 2) : Calls Tryz.prog 13 #[.string (mkS s)] w fun e w' => ∃ a n c b m d, e = .returned (.tuple #[.agg (EC zeroE (.slice a n c) (.slice b m d)), .int .i64 2]) ∧ Below w.heap.size w w' := by
 have hv := (pa_2 (s := s) (by rw [h]; decide)).2
 refine (parse_x s w hs hR).mono ?_
 rintro e w' ⟨vr, vl, he, h1, hb⟩
 rw [h, hv] at he
 obtain ⟨a, n, c, b, m, d, rfl, rfl⟩ := h1.slices
 exact ⟨a, n, c, b, m, d, he, hb⟩
theorem bytes_pos (x : EM) : 0 < (bytesE x).length := by
 unfold bytesE headE
 simp
set_option maxHeartbeats 16000000 in
theorem envelopeTurned_x (x : EM) (vr vl : Value) (cut : Int) (more : UInt8) (w : World) (hR : Rdy w) (hE : EAt w x vr vl) (hS : ShE x) (c0 : -9223372036854775808 ≤ cut) (c1 : cut ≤ 9223372036854775807) : Calls Tryz.prog 5 #[.agg (EC x vr vl), .int .i64 cut, .int .u8 (more.toNat : Int)] w fun e w' => e = .returned (.bool true) ∧ Below w.heap.size w w' := by
 obtain ⟨ra, rn, rc, lb, lm, ld, rfl, rfl⟩ := hE.slices
 have HM := Lib.hid (MB.new w x (.slice ra rn rc) (.slice lb lm ld))
 have HR := Lib.hid (fun w' (h : Below w.heap.size w w') => hR.below h)
 have HE := Lib.hid (fun w' (h : Below w.heap.size w w') => hE.below h)
 have HSM := Lib.hid (fun w' (h : Below w.heap.size w w') => msmall_x x _ _ w' (hE.below h) hS)
 unfold SmPost at HSM
 clear hR hE hS
 have hsh : ∀ v, Tryz.prog.funcs[5]? = v → True := fun _ _ => trivial
 clear hsh
 go_enter Tryz.func5, Tryz.ntmps5
 go_wp2_with fail
 refine (awake_x _ (HR.out _ HM.out.below)).mono ?_
 rintro e w1 ⟨rfl, hb⟩
 have HM1 := Lib.hid (HM.out.next hb)
 clear hb HM
 go_wp2_with (first | ((with_reducible refine is_load (ty := 45) (x := .tmp 3) rfl ?_); refine wpList_load_blk rfl 45 (.tmp 3) rfl w.heap.size 0 45 (EC x (.slice ra rn rc) (.slice lb lm ld)) (EC x (.slice ra rn rc) (.slice lb lm ld)) _ rfl HM1.out.box Tryz.underlying45 rfl size_msg (fun j _ => by rw [Nat.zero_add]) ?_))
 refine (HSM.out _ HM1.out.below).mono ?_
 rintro e w2 ⟨q, rfl, hq, hb⟩
 have HM2 := Lib.hid (HM1.out.next hb)
 have HQ := Lib.hid hq
 clear hb HM1 hq HSM
 cases q
 ·go_wp2_with fail
  go_ret
  exact ⟨rfl, HM2.out.below⟩
 have HS := Lib.hid (HQ.out rfl)
 clear HQ
 by_cases hc : cut < 0
 ·go_wp2_with fail
  go_ret
  exact ⟨rfl, HM2.out.below⟩
 obtain ⟨n, rfl⟩ := int_nat (show 0 ≤ cut by omega)
 have HP := Lib.hid (print_x x _ _ w2 (HE.out _ HM2.out.below) HS.out.fit (HR.out _ HM2.out.below))
 unfold EnPost at HP
 go_wp2_with (first | ((with_reducible refine is_load (ty := 45) (x := .tmp 3) rfl ?_); refine wpList_load_blk rfl 45 (.tmp 3) rfl w.heap.size 0 45 (EC x (.slice ra rn rc) (.slice lb lm ld)) (EC x (.slice ra rn rc) (.slice lb lm ld)) _ rfl HM2.out.box Tryz.underlying45 rfl size_msg (fun j _ => by rw [Nat.zero_add]) ?_))
 refine HP.out.mono ?_
 rintro e w3 ⟨rfl, hb⟩
 have HM3 := Lib.hid (HM2.out.next hb)
 clear hb HM2 HP
 by_cases he : enE x = 0
 ·have HV := Lib.hid (en_yes he)
  have H0 := Lib.hid he
  have hlen := bytes_len (en_iff.1 he)
  have hpos := bytes_pos x
  have HCU := Lib.hid (pa_cut he (s := (bytesE x).take (n % (bytesE x).length)) (t := (bytesE x).drop (n % (bytesE x).length)) (by
   have := Nat.mod_lt n hpos
   intro e
   have := congrArg List.length e
   simp at this
   omega) (by rw [List.take_append_drop, en_yes he]))
  have HMO := Lib.hid (pa_more he (t := [more]) (by simp))
  have HAH := Lib.hid (pa_ahead he more)
  rw [en_yes he] at HMO HAH
  rw [he, HV.out]
  clear he HV
  generalize bytesE x = s at hlen hpos HCU HMO HAH ⊢
  have ms := mkS_size s
  have hml := Nat.mod_lt n hpos
  have qm : ((n : Int)).tmod (s.length : Int) = ((n % s.length : Nat) : Int) := rfl
  have qe := mkS_extract s 0 (n % s.length)
  have hne : ((s.length : Int) == 0) = false := beq_eq_false_iff_ne.2 (by omega)
  rw [List.drop_zero] at qe
  generalize n % s.length = k at qm qe hml HCU
  have HN1 := Lib.hid (parse_no (s.take k) w3 (by rw [List.length_take]; omega) (HR.out _ HM3.out.below) HCU.out)
  go_wp2_with fail
  refine HN1.out.mono ?_
  rintro e w4 ⟨ra1, rn1, rc1, lb1, lm1, ld1, rfl, hb⟩
  have HM4 := Lib.hid (HM3.out.next hb)
  clear hb HM3 HN1 qm qe hne
  go_upto_region 9 with (first | ((with_reducible refine is_store (ty := 45) (x := .tmp 9) (y := .tmp 47) rfl ?_); refine wpList_store_blk rfl 45 (.tmp 9) (.tmp 47) rfl w4.heap.size 0 45 (EC zeroE nilS nilS) (EC zeroE (.slice ra1 rn1 rc1) (.slice lb1 lm1 ld1)) (EC zeroE (.slice ra1 rn1 rc1) (.slice lb1 lm1 ld1)) rfl rfl (newOf w4 _) size_msg (one_ECs _ _ _ _ _ _ _) (Nat.le_of_eq rfl) (whole_EC _ _ _ _ rfl) ?_; intro v1 hB1 hA1))
  have HM5 := Lib.hid (HM4.out.fresh hA1)
  clear hA1 hB1 HM4
  have HM5' := Lib.hid (HM5.out.next ((Below.refl _ v1).alloc (Nat.le_refl _) (.cells #[.int .u8 (more.toNat : Int)] 5)))
  have hcv := conv_new v1 more _ rfl
  have hcat := mkS_cat s [more]
  have m1 := mkS_size [more]
  have HN2 := Lib.hid (parse_no (s ++ [more]) (v1.alloc (.cells #[.int .u8 (more.toNat : Int)] 5)) (by simp; omega) (HR.out _ HM5'.out.below) HMO.out)
  go_wp2_with fail
  refine HN2.out.mono ?_
  rintro e w5 ⟨ra2, rn2, rc2, lb2, lm2, ld2, rfl, hb⟩
  have HM6 := Lib.hid (HM5'.out.next hb)
  clear hb HM5' HM5 HN2 hcv hcat
  go_upto_region 10 with (first | ((with_reducible refine is_store (ty := 45) (x := .tmp 11) (y := .tmp 56) rfl ?_); refine wpList_store_blk rfl 45 (.tmp 11) (.tmp 56) rfl w5.heap.size 0 45 (EC zeroE nilS nilS) (EC zeroE (.slice ra2 rn2 rc2) (.slice lb2 lm2 ld2)) (EC zeroE (.slice ra2 rn2 rc2) (.slice lb2 lm2 ld2)) rfl rfl (newOf w5 _) size_msg (one_ECs _ _ _ _ _ _ _) (Nat.le_of_eq rfl) (whole_EC _ _ _ _ rfl) ?_; intro v2 hB2 hA2))
  have HM7 := Lib.hid (HM6.out.fresh hA2)
  clear hA2 hB2 HM6
  have HM7' := Lib.hid (HM7.out.next ((Below.refl _ v2).alloc (Nat.le_refl _) (.cells #[.int .u8 (more.toNat : Int)] 5)))
  have hcv := conv_new v2 more _ rfl
  have hcat := mkS_cat [more] s
  have HN3 := Lib.hid (parse_no ([more] ++ s) (v2.alloc (.cells #[.int .u8 (more.toNat : Int)] 5)) (by simp; omega) (HR.out _ HM7'.out.below) HAH.out)
  go_wp2_with fail
  refine HN3.out.mono ?_
  rintro e w6 ⟨ra3, rn3, rc3, lb3, lm3, ld3, rfl, hb⟩
  have HM8 := Lib.hid (HM7'.out.next hb)
  clear hb HM7' HM7 HN3 hcv hcat
  go_upto_region 11 with (first | ((with_reducible refine is_store (ty := 45) (x := .tmp 13) (y := .tmp 65) rfl ?_); refine wpList_store_blk rfl 45 (.tmp 13) (.tmp 65) rfl w6.heap.size 0 45 (EC zeroE nilS nilS) (EC zeroE (.slice ra3 rn3 rc3) (.slice lb3 lm3 ld3)) (EC zeroE (.slice ra3 rn3 rc3) (.slice lb3 lm3 ld3)) rfl rfl (newOf w6 _) size_msg (one_ECs _ _ _ _ _ _ _) (Nat.le_of_eq rfl) (whole_EC _ _ _ _ rfl) ?_; intro v3 hB3 hA3))
  have HM9 := Lib.hid (HM8.out.fresh hA3)
  clear hA3 hB3 HM8
  go_wp2_with fail
  go_ret
  exact ⟨rfl, HM9.out.below⟩
 ·have HV := Lib.hid (en_no he)
  have HRI := Lib.hid (right_x x _ _ w3 (HE.out _ HM3.out.below) HS.out.fit (HR.out _ HM3.out.below))
  have hne : (enE x != 0) = true := by rw [bne_iff_ne]; exact he
  have hT := mkS_toList []
  rw [HV.out]
  clear he HV
  generalize enE x = n2 at hne HRI ⊢
  go_wp2_with (first | ((with_reducible refine is_load (ty := 45) (x := .tmp 3) rfl ?_); refine wpList_load_want ?_ 45 (.tmp 3) rfl w.heap.size 0 45 (EC x (.slice ra rn rc) (.slice lb lm ld)) (EC x (.slice ra rn rc) (.slice lb lm ld)) _ rfl HM3.out.box Tryz.underlying45 rfl size_msg (fun j _ => by rw [Nat.zero_add]) ?_; (focus (first | rfl | (go_simp; done)))))
  refine HRI.out.mono ?_
  rintro e w4 ⟨rfl, hb⟩
  have HM4 := Lib.hid (HM3.out.next hb)
  clear hb HM3 HRI
  go_wp2_with fail
  go_ret
  exact ⟨by simp, HM4.out.below⟩
end Go.Proofs.YtnjlioojpddleaaGreatDoor.E
