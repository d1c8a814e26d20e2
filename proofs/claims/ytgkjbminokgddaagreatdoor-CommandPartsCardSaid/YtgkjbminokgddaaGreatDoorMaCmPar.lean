/-
  CmParN · CmParE · CmParO, in one text.
-/
import Derived.Test.YtgkjbminokgddaaGreatDoorMaCmA
/-
  The walk of command's Parse: a verb that is none.
-/
namespace Go.Proofs.YtgkjbminokgddaaGreatDoor
set_option maxRecDepth 100000
open Go.RowKit Go.Shelf
attribute [local go_sem] Oper.semAt_some
set_option maxHeartbeats 16000000 in
theorem cparse_none (s : Txt) (w : World) (hs : s.length ≤ 100000) (hk : kindV (vbV (trR s)) = 0) : Calls Tryz.prog 8 #[.string (mkS s)] w (CpPost s w) := by
  have hle1 := trR_le s
  have hle2 := vb_le (trR s)
  have HTR := Lib.hid (fun w => ctrim_x s w (by omega))
  have HVB := Lib.hid (fun w => verb_x (trR s) w (by omega))
  have HRD := Lib.hid (fun (W w : World) (B : Nat) (c : CL) (h : CW W B c w) => readers_c h (vbV (trR s)) (by omega))
  have HR := Lib.hid (RW.new w)
  have HE := Lib.hid (show cpE s = 10 from if_pos hk)
  have HV := Lib.hid (show cpV s = zeroC from if_neg (by rw [HE.out]; decide))
  have HMF := Lib.hid (show mapF rdN (vbV (trR s)) = none from if_pos hk)
  generalize vbV (trR s) = v at HVB HRD HMF hle2 hk
  generalize trR s = l at HTR HVB hle1 hle2
  clear hk
  go_enter Tryz.func8, Tryz.ntmps8
  go_wp2_with fail
  generalize w.alloc (.cells #[.string { data := #[] }, .string { data := #[] }, .string { data := #[] }, .string { data := #[] }, .bool false, .bool false, .bool false, .bool false, .bool false, .int .i64 0, .int .i64 0, .int .i64 0, .int .i64 0, .int .i64 0, .string { data := #[] }, .string { data := #[] }, .string { data := #[] }, .string { data := #[] }, .string { data := #[] }, .string { data := #[] }, .string { data := #[] }] 31) = w0 at HR ⊢
  refine (HTR.out _).mono ?_
  rintro e w1 ⟨rfl, rfl⟩
  go_wp2_with fail
  refine (HVB.out _).mono ?_
  rintro e w1 ⟨rfl, hb⟩
  have HN1 := Lib.hid (HR.out.next hb)
  clear hb HR HTR HVB
  go_wp2_with (refine wpList_store_blk rfl 31 _ _ rfl w1.heap.size 0 31 (CC zeroC) (CC (headC v)) (CC (headC v)) rfl rfl (newOf w1 _) size_cmd (one_CC _) (Nat.le_of_eq rfl) (whole_CC zeroC _) ?_; intro w2 hB2 hA2)
  have H1 := Lib.hid (CW.new HN1.out hB2 hA2)
  clear hB2 hA2 HN1
  generalize w1.heap.size = B at H1 ⊢
  have c0 : w2.cell? ⟨B, 0, none⟩ = some (.string (mkS v)) := cellOf H1.out.box 0
  go_region_held3 (fun wr => wr.cell? ⟨B, 0, none⟩ = some (.string (mkS v)))
    (first | exact cellOf H1.out.drew.box 0 | assumption)
    (first | (go_at_call 19; (with_reducible refine (HRD.out w _ B _ H1.out.drew).mono ?_); rintro e w3 ⟨M, rfl, g0, g1, g2⟩; rw [HMF.out] at g2; simp only [Option.getD_none, Option.isSome_none] at g2))
  have H3 := g0
  clear g0 g1 g2 c0 H1
  go_wp2_with (refine wpList_store_blk rfl 31 _ _ rfl w.heap.size 0 31 (CC zeroC) (CC zeroC) (CC zeroC) rfl rfl H3.out.rw.res size_cmd (one_CC _) (Nat.le_of_eq rfl) (whole_CC zeroC _) ?_; intro w9 hB9 hA9)
  refine bodyPost_ret (v := .tuple #[.agg (CC zeroC), .int .i64 10]) (answer_x rfl rfl rfl hB9) rfl ⟨by rw [HE.out, HV.out], CW.res H3.out.rw hA9⟩
end Go.Proofs.YtgkjbminokgddaaGreatDoor
/-
  The walk of command's Parse: a line whose verb's function tells an error.
-/
namespace Go.Proofs.YtgkjbminokgddaaGreatDoor
set_option maxRecDepth 100000
open Go.RowKit Go.Shelf
attribute [local go_sem] Oper.semAt_some
set_option maxHeartbeats 16000000 in
theorem cparse_err (s : Txt) (w : World) (hs : s.length ≤ 100000) (hR : Ready w) (hN : NotR w) (hk : kindV (vbV (trR s)) ≠ 0) (hE : cpE s ≠ 0) : Calls Tryz.prog 8 #[.string (mkS s)] w (CpPost s w) := by
  have hle1 := trR_le s
  have hle2 := vb_le (trR s)
  have HTR := Lib.hid (fun w => ctrim_x s w (by omega))
  have HVB := Lib.hid (fun w => verb_x (trR s) w (by omega))
  have HRD := Lib.hid (fun (W w : World) (B : Nat) (c : CL) (h : CW W B c w) => readers_c h (vbV (trR s)) (by omega))
  have HR := Lib.hid (RW.new w)
  have HRN := Lib.hid (fun (w' : World) (h : Below w.heap.size w w') => And.intro (hR.below h) (hN.below h))
  have HE := Lib.hid (show cpE s = rE (kindV (vbV (trR s))) ((trR s).drop (vbV (trR s)).length) from if_neg hk)
  have HV := Lib.hid (show cpV s = zeroC from if_neg hE)
  have HMF := Lib.hid (show mapF rdN (vbV (trR s)) = some (.func (.func (rdN (kindV (vbV (trR s))))) #[] #[]) from if_neg hk)
  have HD := Lib.hid (does_C _ hk (kind_le _))
  have ek := enters_C _ hk (kind_le _)
  rw [HE.out] at hE
  generalize kindV (vbV (trR s)) = k at HE HMF HD ek hk hE
  generalize vbV (trR s) = v at HVB HRD HMF HE hle2 hE
  have hx : (mkS (trR s)).extract v.length (trR s).length = mkS ((trR s).drop v.length) := by rw [mkS_extract, List.take_length]
  have hbl : ((trR s).drop v.length).length ≤ 100000 := by rw [List.length_drop]; omega
  have HDD := Lib.hid (fun w B c h1 h2 => HD.out w B c ((trR s).drop v.length) hbl h1 h2)
  have zl := mkS_size (trR s)
  have zv := mkS_size v
  generalize (trR s).drop v.length = b at HE HDD hx hE
  generalize trR s = l at HTR HVB hle1 hle2 hx zl
  generalize rdN k = fn at HMF HDD ek
  generalize rE k b = E at HE HDD hE
  have d9 : (E != 0) = true := bne_iff_ne.2 hE
  clear hE
  have q1 : (0 : Int) ≤ (v.length : Int) := by omega
  clear hk hbl HD hR hN
  go_enter Tryz.func8, Tryz.ntmps8
  go_wp2_with fail
  generalize w.alloc (.cells #[.string { data := #[] }, .string { data := #[] }, .string { data := #[] }, .string { data := #[] }, .bool false, .bool false, .bool false, .bool false, .bool false, .int .i64 0, .int .i64 0, .int .i64 0, .int .i64 0, .int .i64 0, .string { data := #[] }, .string { data := #[] }, .string { data := #[] }, .string { data := #[] }, .string { data := #[] }, .string { data := #[] }, .string { data := #[] }] 31) = w0 at HR ⊢
  refine (HTR.out _).mono ?_
  rintro e w1 ⟨rfl, rfl⟩
  go_wp2_with fail
  refine (HVB.out _).mono ?_
  rintro e w1 ⟨rfl, hb⟩
  have HN1 := Lib.hid (HR.out.next hb)
  clear hb HR HTR HVB
  go_wp2_with (refine wpList_store_blk rfl 31 _ _ rfl w1.heap.size 0 31 (CC zeroC) (CC (headC v)) (CC (headC v)) rfl rfl (newOf w1 _) size_cmd (one_CC _) (Nat.le_of_eq rfl) (whole_CC zeroC _) ?_; intro w2 hB2 hA2)
  have H1 := Lib.hid (CW.new HN1.out hB2 hA2)
  clear hB2 hA2 HN1
  generalize w1.heap.size = B at H1 ⊢
  have c0 : w2.cell? ⟨B, 0, none⟩ = some (.string (mkS v)) := cellOf H1.out.box 0
  go_region_held3 (fun wr => wr.cell? ⟨B, 0, none⟩ = some (.string (mkS v)))
    (first | exact cellOf H1.out.drew.box 0 | assumption)
    (first | (go_at_call 19; (with_reducible refine (HRD.out w _ B _ H1.out.drew).mono ?_); rintro e w3 ⟨M, rfl, g0, g1, g2⟩; rw [HMF.out] at g2; simp only [Option.getD_some, Option.isSome_some] at g2))
  have H3 := g0
  clear g0 g1 g2 c0 H1
  have c0 : w3.cell? ⟨B, 0, none⟩ = some (.string (mkS v)) := cellOf H3.out.box 0
  go_wp2_with fail
  clear c0
  refine (HDD.out _ B _ (fun w' h => HRN.out w' (H3.out.apart h).below) H3.out.box).mono ?_
  rintro e w4 ⟨rfl, hap, hok⟩
  have H4 := Lib.hid (H3.out.apart hap)
  clear hap hok H3
  go_wp2_with (refine wpList_store_blk rfl 31 _ _ rfl w.heap.size 0 31 (CC zeroC) (CC zeroC) (CC zeroC) rfl rfl H4.out.res size_cmd (one_CC _) (Nat.le_of_eq rfl) (whole_CC zeroC _) ?_; intro w9 hB9 hA9)
  refine bodyPost_ret (v := .tuple #[.agg (CC zeroC), .int .i64 E]) (answer_x rfl rfl rfl hB9) rfl ⟨by rw [HE.out, HV.out], CW.res H4.out hA9⟩
end Go.Proofs.YtgkjbminokgddaaGreatDoor
/-
  The walk of command's Parse: a line that tells a command.
-/
namespace Go.Proofs.YtgkjbminokgddaaGreatDoor
set_option maxRecDepth 100000
open Go.RowKit Go.Shelf
attribute [local go_sem] Oper.semAt_some
set_option maxHeartbeats 16000000 in
theorem cparse_ok (s : Txt) (w : World) (hs : s.length ≤ 100000) (hR : Ready w) (hN : NotR w) (hk : kindV (vbV (trR s)) ≠ 0) (hE : cpE s = 0) : Calls Tryz.prog 8 #[.string (mkS s)] w (CpPost s w) := by
  have hle1 := trR_le s
  have hle2 := vb_le (trR s)
  have HTR := Lib.hid (fun w => ctrim_x s w (by omega))
  have HVB := Lib.hid (fun w => verb_x (trR s) w (by omega))
  have HRD := Lib.hid (fun (W w : World) (B : Nat) (c : CL) (h : CW W B c w) => readers_c h (vbV (trR s)) (by omega))
  have HR := Lib.hid (RW.new w)
  have HRN := Lib.hid (fun (w' : World) (h : Below w.heap.size w w') => And.intro (hR.below h) (hN.below h))
  have HE := Lib.hid (show cpE s = rE (kindV (vbV (trR s))) ((trR s).drop (vbV (trR s)).length) from if_neg hk)
  have HV := Lib.hid (show cpV s = rS (kindV (vbV (trR s))) ((trR s).drop (vbV (trR s)).length) (headC (vbV (trR s))) from if_pos hE)
  have HMF := Lib.hid (show mapF rdN (vbV (trR s)) = some (.func (.func (rdN (kindV (vbV (trR s))))) #[] #[]) from if_neg hk)
  have HD := Lib.hid (does_C _ hk (kind_le _))
  have ek := enters_C _ hk (kind_le _)
  rw [HE.out] at hE
  generalize kindV (vbV (trR s)) = k at HE HMF HD ek hk hE HV
  generalize vbV (trR s) = v at HVB HRD HMF HE hle2 hE HV
  have hx : (mkS (trR s)).extract v.length (trR s).length = mkS ((trR s).drop v.length) := by rw [mkS_extract, List.take_length]
  have hbl : ((trR s).drop v.length).length ≤ 100000 := by rw [List.length_drop]; omega
  have HDD := Lib.hid (fun w B h1 h2 => HD.out w B (headC v) ((trR s).drop v.length) hbl h1 h2)
  have zl := mkS_size (trR s)
  have zv := mkS_size v
  generalize (trR s).drop v.length = b at HE HDD hx hE HV
  generalize trR s = l at HTR HVB hle1 hle2 hx zl
  generalize rdN k = fn at HMF HDD ek
  generalize rE k b = E at HE HDD hE
  generalize rS k b (headC v) = X at HV HDD
  subst hE
  have q1 : (0 : Int) ≤ (v.length : Int) := by omega
  clear hk hbl HD hR hN
  go_enter Tryz.func8, Tryz.ntmps8
  go_wp2_with fail
  generalize w.alloc (.cells #[.string { data := #[] }, .string { data := #[] }, .string { data := #[] }, .string { data := #[] }, .bool false, .bool false, .bool false, .bool false, .bool false, .int .i64 0, .int .i64 0, .int .i64 0, .int .i64 0, .int .i64 0, .string { data := #[] }, .string { data := #[] }, .string { data := #[] }, .string { data := #[] }, .string { data := #[] }, .string { data := #[] }, .string { data := #[] }] 31) = w0 at HR ⊢
  refine (HTR.out _).mono ?_
  rintro e w1 ⟨rfl, rfl⟩
  go_wp2_with fail
  refine (HVB.out _).mono ?_
  rintro e w1 ⟨rfl, hb⟩
  have HN1 := Lib.hid (HR.out.next hb)
  clear hb HR HTR HVB
  go_wp2_with (refine wpList_store_blk rfl 31 _ _ rfl w1.heap.size 0 31 (CC zeroC) (CC (headC v)) (CC (headC v)) rfl rfl (newOf w1 _) size_cmd (one_CC _) (Nat.le_of_eq rfl) (whole_CC zeroC _) ?_; intro w2 hB2 hA2)
  have H1 := Lib.hid (CW.new HN1.out hB2 hA2)
  clear hB2 hA2 HN1
  generalize w1.heap.size = B at H1 ⊢
  have c0 : w2.cell? ⟨B, 0, none⟩ = some (.string (mkS v)) := cellOf H1.out.box 0
  go_region_held3 (fun wr => wr.cell? ⟨B, 0, none⟩ = some (.string (mkS v)))
    (first | exact cellOf H1.out.drew.box 0 | assumption)
    (first | (go_at_call 19; (with_reducible refine (HRD.out w _ B _ H1.out.drew).mono ?_); rintro e w3 ⟨M, rfl, g0, g1, g2⟩; rw [HMF.out] at g2; simp only [Option.getD_some, Option.isSome_some] at g2))
  have H3 := g0
  clear g0 g1 g2 c0 H1
  have c0 : w3.cell? ⟨B, 0, none⟩ = some (.string (mkS v)) := cellOf H3.out.box 0
  go_wp2_with fail
  clear c0
  refine (HDD.out _ B (fun w' h => HRN.out w' (H3.out.apart h).below) H3.out.box).mono ?_
  rintro e w4 ⟨rfl, hap, hok⟩
  have H4 := Lib.hid (H3.out.told hap (hok trivial))
  clear hap hok H3
  go_wp2_with (first | (refine wpList_load_blk rfl 31 _ rfl B 0 31 (CC X) (CC X) _ rfl H4.out.box Tryz.underlying31 rfl size_cmd (fun j _ => by rw [Nat.zero_add]) ?_) | (refine wpList_store_blk rfl 31 _ _ rfl w.heap.size 0 31 (CC zeroC) (CC X) (CC X) rfl rfl H4.out.rw.res size_cmd (one_CC _) (Nat.le_of_eq rfl) (whole_CC zeroC _) ?_; intro w9 hB9 hA9))
  refine bodyPost_ret (v := .tuple #[.agg (CC X), .int .i64 0]) (answer_x rfl rfl rfl hB9) rfl ⟨by rw [HE.out, HV.out], CW.res H4.out.rw hA9⟩
end Go.Proofs.YtgkjbminokgddaaGreatDoor
