/-
  The walk of the reference's PrintMail.
-/
import Derived.Test.YtpdehgkkpgjpnaaGreatDoorPaRrM
import Derived.Test.YtpdehgkkpgjpnaaGreatDoorPaRR
import Derived.Test.YtpdehgkkpgjpnaaGreatDoorPaDig
import Derived.Test.YtpdehgkkpgjpnaaGreatDoorXtRefE
import Derived.Test.YtpdehgkkpgjpnaaGreatDoorPaPrM
import Derived.Test.YtpdehgkkpgjpnaaGreatDoorPaOrd
namespace Go.Proofs.YtpdehgkkpgjpnaaGreatDoor
set_option maxRecDepth 100000
open Go.RowKit
theorem join_ne : ∀ (l : List Txt), (∀ x ∈ l, x ≠ []) → l ≠ [] → joinC 32 l ≠ []
  | [], _, h => absurd rfl h
  | [a], h, _ => h a (by simp)
  | a :: b :: r, _, _ => by rw [joinC]; simp
theorem fold_more : ∀ (ws : List Wd) (acc : List Txt), (∀ t ∈ ws, t.2.1 ≠ []) → (∀ x ∈ acc, x ≠ []) → ws.foldl (fun s t => moreV s t.1 (t.2.1 ++ [61] ++ t.2.2)) (joinC 32 acc) = joinC 32 (acc ++ wordsL ws)
  | [], acc, _, _ => by simp [wordsL]
  | (b, k, v) :: r, acc, hk, ha => by
    rw [List.foldl_cons]
    cases b
    · show r.foldl _ (joinC 32 acc) = joinC 32 (acc ++ wordsL r)
      exact fold_more r acc (fun t ht => hk t (List.mem_cons_of_mem _ ht)) ha
    · have e : moreV (joinC 32 acc) true (k ++ [61] ++ v) = joinC 32 (acc ++ [k ++ [61] ++ v]) := by
        rw [moreV, if_pos rfl]
        by_cases h0 : acc = []
        · subst h0; rfl
        · rw [if_neg (join_ne acc ha h0), join_snoc acc _ h0]; simp
      show r.foldl _ (moreV (joinC 32 acc) true (k ++ [61] ++ v)) = joinC 32 (acc ++ (k ++ [61] ++ v) :: wordsL r)
      rw [e, fold_more r _ (fun t ht => hk t (List.mem_cons_of_mem _ ht)) (fun x hx => by
        rcases List.mem_append.1 hx with hx | hx
        · exact ha x hx
        · simp at hx; rw [hx]; simp)]
      simp
theorem more_len (s : Txt) (h : Bool) (t : Txt) : (moreV s h t).length ≤ s.length + 1 + t.length := by
  unfold moreV
  split
  · split <;> simp; omega
  · omega
theorem MX.cls {W w : World} {g : Nat} {m : ML} (h : MX W g m w) : ∃ (Y : Type) (F : Y → World) (y0 : Y), F y0 = w.drew ∧ (∀ y, MX W g m (F y)) ∧ (∀ w', MX W g m w' → ∃ y, w' = F y) :=
  ⟨{ w' // MX W g m w' }, Subtype.val, ⟨_, h.drew⟩, rfl, fun y => y.2, fun w' h => ⟨⟨w', h⟩, rfl⟩⟩
theorem MX.quiet {W : World} {g : Nat} {m : ML} {Y : Type} {F : Y → World} {y : Y} (h : (∀ y, MX W g m (F y)) ∧ (∀ w', MX W g m w' → ∃ y, w' = F y)) {f : FuncId} {args : Array Value} {v : Value} (H : Calls Tryz.prog f args (F y) fun e w' => e = .returned v ∧ Below (F y).heap.size (F y) w') :
    Calls Tryz.prog f args (F y) fun e w' => e = .returned v ∧ ∃ y, w' = F y := H.mono fun _ _ ⟨he, hb⟩ => ⟨he, h.2 _ ((h.1 y).next hb)⟩
theorem MX.qsame {W : World} {g : Nat} {m : ML} {Y : Type} {F : Y → World} {y : Y} (h : (∀ y, MX W g m (F y)) ∧ (∀ w', MX W g m w' → ∃ y, w' = F y)) {f : FuncId} {args : Array Value} {v : Value} (H : Calls Tryz.prog f args (F y) fun e w' => e = .returned v ∧ w' = F y) :
    Calls Tryz.prog f args (F y) fun e w' => e = .returned v ∧ ∃ y, w' = F y := H.mono fun _ _ ⟨he, hb⟩ => ⟨he, h.2 _ (by rw [hb]; exact h.1 y)⟩
set_option maxHeartbeats 16000000 in
theorem rprintM_x (m : ML) (w : World) : Calls Tryz.prog 10 #[.agg #[.bool m.hs, .bool m.hf, .bool m.hu, .bool m.hb, .bool m.hp, .int .i64 m.sz, .int .i64 m.fo, .int .i64 m.un, .int .i64 m.by_, .int .i64 m.pr, .string (mkS m.body), .string (mkS m.ret), .string (mkS m.env), .string (mkS m.mode)]] w fun e w' => e = .returned (.tuple #[.string (mkS (printM m)), .int .i64 (rightM m)]) ∧ Below w.heap.size w w' := by
  have H0 := Lib.hid (MX.new w m)
  have HR := Lib.hid (fun w' => rrightM_x m w')
  have HP0 := Lib.hid (show rightM m ≠ 0 → printM m = [] from fun h => if_neg h)
  have HP1 := Lib.hid (show rightM m = 0 → printM m = (wdM m).foldl (fun s t => moreV s t.1 (t.2.1 ++ [61] ++ t.2.2)) [] from fun h => by
    rw [printM, if_pos h]
    exact (fold_more (wdM m) [] (by unfold wdM; simp [kSIZE, kBODY, kRET, kENV, kHF, kHU, kBY, kPR]) (by simp)).symm)
  have HFt := Lib.hid (fun h => fits (m := m) h)
  generalize rightM m = E at HR HP0 HP1 HFt ⊢
  go_enter Tryz.func10, Tryz.ntmps10
  have c0 := H0.out.c0
  have c1 := H0.out.c1
  have c2 := H0.out.c2
  have c3 := H0.out.c3
  have c4 := H0.out.c4
  have c5 := H0.out.c5
  have c6 := H0.out.c6
  have c7 := H0.out.c7
  have c8 := H0.out.c8
  have c9 := H0.out.c9
  have c10 := H0.out.c10
  have c11 := H0.out.c11
  have c12 := H0.out.c12
  have c13 := H0.out.c13
  go_wp2_with fail
  clear c0 c1 c2 c3 c4 c5 c6 c7 c8 c9 c10 c11 c12 c13
  generalize w.alloc (.cells #[.bool m.hs, .bool m.hf, .bool m.hu, .bool m.hb, .bool m.hp, .int .i64 m.sz, .int .i64 m.fo, .int .i64 m.un, .int .i64 m.by_, .int .i64 m.pr, .string (mkS m.body), .string (mkS m.ret), .string (mkS m.env), .string (mkS m.mode)] 37) = W0 at H0 ⊢
  refine (HR.out _).mono ?_
  rintro e w1 ⟨rfl, hb⟩
  have T := Lib.hid (H0.out.next hb)
  clear hb H0 HR
  by_cases hE : E ≠ 0
  · have hEb : (E == 0) = false := beq_eq_false_iff_ne.2 hE
    have HV := Lib.hid (HP0.out hE)
    clear HP1 HFt
    go_wp2_with fail
    refine bodyPost_ret (v := .tuple #[.string { data := #[] }, .int .i64 E]) (by simp [results, Tryz.results10, go_sem]) rfl ?_
    exact ⟨by rw [HV.out]; rfl, T.out.below⟩
  obtain rfl := Decidable.not_not.1 hE
  clear hE
  have hF := HFt.out rfl
  have hPV := HP1.out rfl
  clear HP0 HP1 HFt
  have l1 := itoa_len hF.sz.1 hF.sz.2
  have l2 := hF.body
  have l3 := hF.ret
  have l4 : (X.encX m.env).length ≤ 300 := by have := (X.encX_len m.env).2; have := hF.env; omega
  have l4' := hF.env
  have l5 := itoa_len hF.fo.1 hF.fo.2
  have l6 := printS_le m.un
  have l7 := itoa_len hF.by_.1 hF.by_.2
  have l7' := hF.mode
  have l8 := itoa_len hF.pr.1 hF.pr.2
  have HD1 := Lib.hid (fun w => digits_x m.sz w hF.sz.1 hF.sz.2)
  have HD5 := Lib.hid (fun w => digits_x m.fo w hF.fo.1 hF.fo.2)
  have HD7 := Lib.hid (fun w => digits_x m.by_ w hF.by_.1 hF.by_.2)
  have HD8 := Lib.hid (fun w => digits_x m.pr w hF.pr.1 hF.pr.2)
  have HD4 := Lib.hid (fun w => X.rencode_x m.env w (by omega))
  have HD6 := Lib.hid (fun w => rprint_x m.un w)
  unfold RPrintPost at HD6
  have z2 := mkS_size m.body
  have z3 := mkS_size m.ret
  have z7' := mkS_size m.mode
  have hT2 := mkS_toList m.body
  have hT3 := mkS_toList m.ret
  have hT4 := mkS_toList m.env
  have hk2 : m.body.isEmpty = (m.body == []) := by cases m.body <;> rfl
  have hj2 : decide (m.body = []) = (m.body == []) := by cases m.body <;> rfl
  have hk3 : m.ret.isEmpty = (m.ret == []) := by cases m.ret <;> rfl
  have hj3 : decide (m.ret = []) = (m.ret == []) := by cases m.ret <;> rfl
  have hk4 : m.env.isEmpty = (m.env == []) := by cases m.env <;> rfl
  have hj4 : decide (m.env = []) = (m.env == []) := by cases m.env <;> rfl
  replace hPV : printM m = moreV (moreV (moreV (moreV (moreV (moreV (moreV (moreV ([]) m.hs (kSIZE ++ [61] ++ Lib.itoa m.sz)) (!(m.body == [])) (kBODY ++ [61] ++ m.body)) (!(m.ret == [])) (kRET ++ [61] ++ m.ret)) (!(m.env == [])) (kENV ++ [61] ++ X.encX m.env)) m.hf (kHF ++ [61] ++ Lib.itoa m.fo)) m.hu (kHU ++ [61] ++ printS m.un)) m.hb (kBY ++ [61] ++ (Lib.itoa m.by_ ++ [59] ++ m.mode))) m.hp (kPR ++ [61] ++ Lib.itoa m.pr) := hPV
  generalize (m.body == []) = qb at hk2 hj2 hPV
  generalize (m.ret == []) = qr at hk3 hj3 hPV
  generalize (m.env == []) = qe at hk4 hj4 hPV
  clear hF
  have e1 : ({ data := #[83, 73, 90, 69, 61] } : ByteArray) ++ mkS (Lib.itoa m.sz) = mkS (kSIZE ++ [61] ++ Lib.itoa m.sz) := by rw [show ({ data := #[83, 73, 90, 69, 61] } : ByteArray) = mkS (kSIZE ++ [61]) from rfl, mkS_cat]
  have x1 : (kSIZE ++ [61] ++ Lib.itoa m.sz).length ≤ 500 := by simp [kSIZE]; omega
  have y1 := mkS_size (Lib.itoa m.sz)
  have e2 : ({ data := #[66, 79, 68, 89, 61] } : ByteArray) ++ mkS (m.body) = mkS (kBODY ++ [61] ++ m.body) := by rw [show ({ data := #[66, 79, 68, 89, 61] } : ByteArray) = mkS (kBODY ++ [61]) from rfl, mkS_cat]
  have x2 : (kBODY ++ [61] ++ m.body).length ≤ 500 := by simp [kBODY]; omega
  have e3 : ({ data := #[82, 69, 84, 61] } : ByteArray) ++ mkS (m.ret) = mkS (kRET ++ [61] ++ m.ret) := by rw [show ({ data := #[82, 69, 84, 61] } : ByteArray) = mkS (kRET ++ [61]) from rfl, mkS_cat]
  have x3 : (kRET ++ [61] ++ m.ret).length ≤ 500 := by simp [kRET]; omega
  have e4 : ({ data := #[69, 78, 86, 73, 68, 61] } : ByteArray) ++ mkS (X.encX m.env) = mkS (kENV ++ [61] ++ X.encX m.env) := by rw [show ({ data := #[69, 78, 86, 73, 68, 61] } : ByteArray) = mkS (kENV ++ [61]) from rfl, mkS_cat]
  have x4 : (kENV ++ [61] ++ X.encX m.env).length ≤ 500 := by simp [kENV]; omega
  have y4 := mkS_size (X.encX m.env)
  have e5 : ({ data := #[72, 79, 76, 68, 70, 79, 82, 61] } : ByteArray) ++ mkS (Lib.itoa m.fo) = mkS (kHF ++ [61] ++ Lib.itoa m.fo) := by rw [show ({ data := #[72, 79, 76, 68, 70, 79, 82, 61] } : ByteArray) = mkS (kHF ++ [61]) from rfl, mkS_cat]
  have x5 : (kHF ++ [61] ++ Lib.itoa m.fo).length ≤ 500 := by simp [kHF]; omega
  have y5 := mkS_size (Lib.itoa m.fo)
  have e6 : ({ data := #[72, 79, 76, 68, 85, 78, 84, 73, 76, 61] } : ByteArray) ++ mkS (printS m.un) = mkS (kHU ++ [61] ++ printS m.un) := by rw [show ({ data := #[72, 79, 76, 68, 85, 78, 84, 73, 76, 61] } : ByteArray) = mkS (kHU ++ [61]) from rfl, mkS_cat]
  have x6 : (kHU ++ [61] ++ printS m.un).length ≤ 500 := by simp [kHU]; omega
  have y6 := mkS_size (printS m.un)
  have e7 : ({ data := #[66, 89, 61] } : ByteArray) ++ mkS (Lib.itoa m.by_) ++ { data := #[59] } ++ mkS m.mode = mkS (kBY ++ [61] ++ (Lib.itoa m.by_ ++ [59] ++ m.mode)) := by
    rw [show ({ data := #[66, 89, 61] } : ByteArray) = mkS (kBY ++ [61]) from rfl, show ({ data := #[59] } : ByteArray) = mkS [59] from rfl, mkS_cat, mkS_cat, mkS_cat]; simp
  have y7 := mkS_size (Lib.itoa m.by_)
  have x7 : (kBY ++ [61] ++ (Lib.itoa m.by_ ++ [59] ++ m.mode)).length ≤ 500 := by simp [kBY]; omega
  have e8 : ({ data := #[77, 84, 45, 80, 82, 73, 79, 82, 73, 84, 89, 61] } : ByteArray) ++ mkS (Lib.itoa m.pr) = mkS (kPR ++ [61] ++ Lib.itoa m.pr) := by rw [show ({ data := #[77, 84, 45, 80, 82, 73, 79, 82, 73, 84, 89, 61] } : ByteArray) = mkS (kPR ++ [61]) from rfl, mkS_cat]
  have x8 : (kPR ++ [61] ++ Lib.itoa m.pr).length ≤ 500 := by simp [kPR]; omega
  have y8 := mkS_size (Lib.itoa m.pr)
  generalize hX1 : kSIZE ++ [61] ++ Lib.itoa m.sz = X1 at e1 x1 hPV
  have b1 := more_len ([]) m.hs X1
  have HM1 : Hid (∀ w', Calls Tryz.prog 26 #[.string { data := #[] }, .bool m.hs, .string (mkS X1)] w' fun e w'' => e = .returned (.string (mkS (moreV ([]) m.hs X1))) ∧ w'' = w') := Lib.hid (fun w' => more_x ([]) m.hs X1 w' (by simp only [List.length_nil] at *; omega) (by omega))
  generalize moreV ([]) m.hs X1 = S1 at b1 HM1 hPV
  clear hX1
  generalize hX2 : kBODY ++ [61] ++ m.body = X2 at e2 x2 hPV
  have b2 := more_len (S1) (!qb) X2
  have HM2 : Hid (∀ w', Calls Tryz.prog 26 #[.string (mkS S1), .bool (!qb), .string (mkS X2)] w' fun e w'' => e = .returned (.string (mkS (moreV (S1) (!qb) X2))) ∧ w'' = w') := Lib.hid (fun w' => more_x (S1) (!qb) X2 w' (by simp only [List.length_nil] at *; omega) (by omega))
  generalize moreV (S1) (!qb) X2 = S2 at b2 HM2 hPV
  clear hX2
  generalize hX3 : kRET ++ [61] ++ m.ret = X3 at e3 x3 hPV
  have b3 := more_len (S2) (!qr) X3
  have HM3 : Hid (∀ w', Calls Tryz.prog 26 #[.string (mkS S2), .bool (!qr), .string (mkS X3)] w' fun e w'' => e = .returned (.string (mkS (moreV (S2) (!qr) X3))) ∧ w'' = w') := Lib.hid (fun w' => more_x (S2) (!qr) X3 w' (by simp only [List.length_nil] at *; omega) (by omega))
  generalize moreV (S2) (!qr) X3 = S3 at b3 HM3 hPV
  clear hX3
  generalize hX4 : kENV ++ [61] ++ X.encX m.env = X4 at e4 x4 hPV
  have b4 := more_len (S3) (!qe) X4
  have HM4 : Hid (∀ w', Calls Tryz.prog 26 #[.string (mkS S3), .bool (!qe), .string (mkS X4)] w' fun e w'' => e = .returned (.string (mkS (moreV (S3) (!qe) X4))) ∧ w'' = w') := Lib.hid (fun w' => more_x (S3) (!qe) X4 w' (by simp only [List.length_nil] at *; omega) (by omega))
  generalize moreV (S3) (!qe) X4 = S4 at b4 HM4 hPV
  clear hX4
  generalize hX5 : kHF ++ [61] ++ Lib.itoa m.fo = X5 at e5 x5 hPV
  have b5 := more_len (S4) m.hf X5
  have HM5 : Hid (∀ w', Calls Tryz.prog 26 #[.string (mkS S4), .bool m.hf, .string (mkS X5)] w' fun e w'' => e = .returned (.string (mkS (moreV (S4) m.hf X5))) ∧ w'' = w') := Lib.hid (fun w' => more_x (S4) m.hf X5 w' (by simp only [List.length_nil] at *; omega) (by omega))
  generalize moreV (S4) m.hf X5 = S5 at b5 HM5 hPV
  clear hX5
  generalize hX6 : kHU ++ [61] ++ printS m.un = X6 at e6 x6 hPV
  have b6 := more_len (S5) m.hu X6
  have HM6 : Hid (∀ w', Calls Tryz.prog 26 #[.string (mkS S5), .bool true, .string (mkS X6)] w' fun e w'' => e = .returned (.string (mkS (moreV (S5) true X6))) ∧ w'' = w') := Lib.hid (fun w' => more_x (S5) true X6 w' (by simp only [List.length_nil] at *; omega) (by omega))
  have HS6 := Lib.hid (show m.hu = true → moreV S5 true X6 = moreV S5 m.hu X6 from fun h => by rw [h])
  have HS6' := Lib.hid (show m.hu = false → S5 = moreV S5 m.hu X6 from fun h => by rw [h]; rfl)
  generalize moreV S5 true X6 = S6t at HM6 HS6
  generalize moreV S5 m.hu X6 = S6 at b6 hPV HS6 HS6'
  clear hX6
  generalize hX7 : kBY ++ [61] ++ (Lib.itoa m.by_ ++ [59] ++ m.mode) = X7 at e7 x7 hPV
  have b7 := more_len (S6) m.hb X7
  have HM7 : Hid (∀ w', Calls Tryz.prog 26 #[.string (mkS S6), .bool m.hb, .string (mkS X7)] w' fun e w'' => e = .returned (.string (mkS (moreV (S6) m.hb X7))) ∧ w'' = w') := Lib.hid (fun w' => more_x (S6) m.hb X7 w' (by simp only [List.length_nil] at *; omega) (by omega))
  generalize moreV (S6) m.hb X7 = S7 at b7 HM7 hPV
  clear hX7
  generalize hX8 : kPR ++ [61] ++ Lib.itoa m.pr = X8 at e8 x8 hPV
  have b8 := more_len (S7) m.hp X8
  have HM8 : Hid (∀ w', Calls Tryz.prog 26 #[.string (mkS S7), .bool m.hp, .string (mkS X8)] w' fun e w'' => e = .returned (.string (mkS (moreV (S7) m.hp X8))) ∧ w'' = w') := Lib.hid (fun w' => more_x (S7) m.hp X8 w' (by simp only [List.length_nil] at *; omega) (by omega))
  generalize moreV (S7) m.hp X8 = S8 at b8 HM8 hPV
  clear hX8
  have HPV := Lib.hid hPV
  clear hPV
  generalize Lib.itoa m.sz = D1 at e1 y1 HD1 l1
  generalize X.encX m.env = D4 at e4 y4 HD4 l4
  generalize Lib.itoa m.fo = D5 at e5 y5 HD5 l5
  generalize printS m.un = D6 at e6 y6 HD6 l6
  generalize Lib.itoa m.by_ = D7 at e7 y7 HD7 l7
  generalize Lib.itoa m.pr = D8 at e8 y8 HD8 l8
  have u1 : ¬ 9223372036854775807 < 5 + D1.length := by omega
  have u2 : ¬ 9223372036854775807 < 5 + m.body.length := by omega
  have u3 : ¬ 9223372036854775807 < 4 + m.ret.length := by omega
  have u4 : ¬ 9223372036854775807 < 6 + D4.length := by omega
  have u5 : ¬ 9223372036854775807 < 8 + D5.length := by omega
  have u6 : ¬ 9223372036854775807 < 10 + D6.length := by omega
  have u7 : ¬ 9223372036854775807 < 3 + D7.length := by omega
  have u8 : ¬ 9223372036854775807 < 12 + D8.length := by omega
  have u7b : ¬ 9223372036854775807 < 3 + D7.length + 1 := by omega
  have u7c : ¬ 9223372036854775807 < 3 + D7.length + 1 + m.mode.length := by omega
  clear l1 l2 l3 l4 l4' l5 l6 l7 l7' l8 x1 x2 x3 x4 x5 x6 x7 x8 b1 b2 b3 b4 b5 b6 b7 b8
  go_wp2_with fail
  obtain ⟨Y, F, y0, hy0, hF, hS⟩ := T.out.cls
  have hne : Nonempty Y := ⟨y0⟩
  have hF0 := fun y => cellOf (hF y).box 0
  have hF5 := fun y => cellOf (hF y).box 5
  have HFS := Lib.hid (And.intro hF hS)
  clear hF hS T
  refine region_in (by kernel_rfl) (by kernel_rfl) F y0 hy0 ?_
  repeat (go_big_quiet_step (first
    | (go_at_call 19; exact MX.quiet HFS.out (HD1.out _))
    | (go_at_call 26; exact MX.qsame HFS.out (HM1.out _))))
  refine wpQuiet_nil ?_
  rintro _ ⟨y, rfl⟩
  have T := Lib.hid (HFS.out.1 y)
  clear hF0 hF5 hy0
  generalize F y = w2 at T ⊢
  clear HFS hne y y0 F Y
  have c10 := T.out.c10
  go_wp2_with fail
  refine (HM2.out _).mono ?_
  rintro e w' ⟨rfl, rfl⟩
  clear c10
  have c11 := T.out.c11
  go_wp2_with fail
  refine (HM3.out _).mono ?_
  rintro e w' ⟨rfl, rfl⟩
  clear c11
  go_wp2_with fail
  obtain ⟨Y, F, y0, hy0, hF, hS⟩ := T.out.cls
  have hne : Nonempty Y := ⟨y0⟩
  have hF12 := fun y => cellOf (hF y).box 12
  have HFS := Lib.hid (And.intro hF hS)
  clear hF hS T
  refine region_in (by kernel_rfl) (by kernel_rfl) F y0 hy0 ?_
  repeat (go_big_quiet_step (first
    | (go_at_call 27; exact MX.quiet HFS.out (HD4.out _))
    | (go_at_call 26; exact MX.qsame HFS.out (HM4.out _))))
  refine wpQuiet_nil ?_
  rintro _ ⟨y, rfl⟩
  have T := Lib.hid (HFS.out.1 y)
  clear hF12 hy0
  generalize F y = w3 at T ⊢
  clear HFS hne y y0 F Y
  go_wp2_with fail
  obtain ⟨Y, F, y0, hy0, hF, hS⟩ := T.out.cls
  have hne : Nonempty Y := ⟨y0⟩
  have hF1 := fun y => cellOf (hF y).box 1
  have hF6 := fun y => cellOf (hF y).box 6
  have HFS := Lib.hid (And.intro hF hS)
  clear hF hS T
  refine region_in (by kernel_rfl) (by kernel_rfl) F y0 hy0 ?_
  repeat (go_big_quiet_step (first
    | (go_at_call 19; exact MX.quiet HFS.out (HD5.out _))
    | (go_at_call 26; exact MX.qsame HFS.out (HM5.out _))))
  refine wpQuiet_nil ?_
  rintro _ ⟨y, rfl⟩
  have T := Lib.hid (HFS.out.1 y)
  clear hF1 hF6 hy0
  generalize F y = w4 at T ⊢
  clear HFS hne y y0 F Y
  have c2 := T.out.c2
  have c7 := T.out.c7
  generalize m.hu = bu at c2 HS6 HS6'
  cases bu
  · obtain rfl := HS6'.out rfl
    clear HS6 HM6 HD6
    go_wp2_with fail
    clear c2 c7
    go_wp2_with fail
    obtain ⟨Y, F, y0, hy0, hF, hS⟩ := T.out.cls
    have hne : Nonempty Y := ⟨y0⟩
    have hF3 := fun y => cellOf (hF y).box 3
    have hF8 := fun y => cellOf (hF y).box 8
    have hF13 := fun y => cellOf (hF y).box 13
    have HFS := Lib.hid (And.intro hF hS)
    clear hF hS T
    refine region_in (by kernel_rfl) (by kernel_rfl) F y0 hy0 ?_
    repeat (go_big_quiet_step (first
      | (go_at_call 19; exact MX.quiet HFS.out (HD7.out _))
      | (go_at_call 26; exact MX.qsame HFS.out (HM7.out _))))
    refine wpQuiet_nil ?_
    rintro _ ⟨y, rfl⟩
    have T := Lib.hid (HFS.out.1 y)
    clear hF3 hF8 hF13 hy0
    generalize F y = w6 at T ⊢
    clear HFS hne y y0 F Y
    go_wp2_with fail
    obtain ⟨Y, F, y0, hy0, hF, hS⟩ := T.out.cls
    have hne : Nonempty Y := ⟨y0⟩
    have hF4 := fun y => cellOf (hF y).box 4
    have hF9 := fun y => cellOf (hF y).box 9
    have HFS := Lib.hid (And.intro hF hS)
    clear hF hS T
    refine region_in (by kernel_rfl) (by kernel_rfl) F y0 hy0 ?_
    repeat (go_big_quiet_step (first
      | (go_at_call 19; exact MX.quiet HFS.out (HD8.out _))
      | (go_at_call 26; exact MX.qsame HFS.out (HM8.out _))))
    refine wpQuiet_nil ?_
    rintro _ ⟨y, rfl⟩
    have T := Lib.hid (HFS.out.1 y)
    clear hF4 hF9 hy0
    generalize F y = w7 at T ⊢
    clear HFS hne y y0 F Y
    go_wp2_with fail
    refine bodyPost_ret (v := .tuple #[.string (mkS S8), .int .i64 0]) (by simp [results, Tryz.results10, go_sem]) rfl ?_
    exact ⟨by rw [HPV.out], T.out.below⟩
  · obtain rfl := HS6.out rfl
    clear HS6'
    go_wp2_with fail
    refine (HD6.out _).mono ?_
    rintro e w5 ⟨rfl, hb⟩
    have T := Lib.hid (T.out.next hb)
    clear hb c2 c7
    go_wp2_with fail
    refine (HM6.out _).mono ?_
    rintro e w' ⟨rfl, rfl⟩
    go_wp2_with fail
    obtain ⟨Y, F, y0, hy0, hF, hS⟩ := T.out.cls
    have hne : Nonempty Y := ⟨y0⟩
    have hF3 := fun y => cellOf (hF y).box 3
    have hF8 := fun y => cellOf (hF y).box 8
    have hF13 := fun y => cellOf (hF y).box 13
    have HFS := Lib.hid (And.intro hF hS)
    clear hF hS T
    refine region_in (by kernel_rfl) (by kernel_rfl) F y0 hy0 ?_
    repeat (go_big_quiet_step (first
      | (go_at_call 19; exact MX.quiet HFS.out (HD7.out _))
      | (go_at_call 26; exact MX.qsame HFS.out (HM7.out _))))
    refine wpQuiet_nil ?_
    rintro _ ⟨y, rfl⟩
    have T := Lib.hid (HFS.out.1 y)
    clear hF3 hF8 hF13 hy0
    generalize F y = w6 at T ⊢
    clear HFS hne y y0 F Y
    go_wp2_with fail
    obtain ⟨Y, F, y0, hy0, hF, hS⟩ := T.out.cls
    have hne : Nonempty Y := ⟨y0⟩
    have hF4 := fun y => cellOf (hF y).box 4
    have hF9 := fun y => cellOf (hF y).box 9
    have HFS := Lib.hid (And.intro hF hS)
    clear hF hS T
    refine region_in (by kernel_rfl) (by kernel_rfl) F y0 hy0 ?_
    repeat (go_big_quiet_step (first
      | (go_at_call 19; exact MX.quiet HFS.out (HD8.out _))
      | (go_at_call 26; exact MX.qsame HFS.out (HM8.out _))))
    refine wpQuiet_nil ?_
    rintro _ ⟨y, rfl⟩
    have T := Lib.hid (HFS.out.1 y)
    clear hF4 hF9 hy0
    generalize F y = w7 at T ⊢
    clear HFS hne y y0 F Y
    go_wp2_with fail
    refine bodyPost_ret (v := .tuple #[.string (mkS S8), .int .i64 0]) (by simp [results, Tryz.results10, go_sem]) rfl ?_
    exact ⟨by rw [HPV.out], T.out.below⟩
end Go.Proofs.YtpdehgkkpgjpnaaGreatDoor
