/-
  The walk of the law ParamRanges.
-/
import Derived.Test.YtpdehgkkpgjpnaaGreatDoorPaRg
import Derived.Test.YtpdehgkkpgjpnaaGreatDoorPaDig
import Derived.Test.YtpdehgkkpgjpnaaGreatDoorPaAwake
namespace Go.Proofs.YtpdehgkkpgjpnaaGreatDoor
set_option maxRecDepth 100000
open Go.RowKit Go.Shelf
theorem kcat (x k : Txt) (s y z : Txt) (hk : x = k ++ [61]) (hz : z = k ++ [61] ++ (s ++ y)) : mkS x ++ mkS s ++ mkS y = mkS z := by rw [mkS_cat, mkS_cat, hk, hz]; simp
set_option maxHeartbeats 16000000 in
theorem paramRanges_x (n : Int) (w : World) (hR : Ready w) (hN : NotR w) : Calls Tryz.prog 6 #[.int .i64 n] w fun e w' => e = .returned (.bool true) ∧ Below w.heap.size w w' := by
  have HA := Lib.hid (awake_x w hR hN)
  have HRb := Lib.hid (fun w' (h : Below w.heap.size w w') => hR.below h)
  clear hR hN
  by_cases hb1 : n < -999999999
  · go_enter Tryz.func6, Tryz.ntmps6
    go_wp2_with fail
    refine HA.out.mono ?_
    rintro e w1 ⟨rfl, hb⟩
    have HB := Lib.hid hb
    clear hb
    go_wp2_with fail
    go_ret
    exact ⟨rfl, HB.out⟩
  by_cases hb2 : 999999999 < n
  · go_enter Tryz.func6, Tryz.ntmps6
    go_wp2_with fail
    refine HA.out.mono ?_
    rintro e w1 ⟨rfl, hb⟩
    have HB := Lib.hid hb
    clear hb
    go_wp2_with fail
    go_ret
    exact ⟨rfl, HB.out⟩
  have h1 : -999999999 ≤ n := by omega
  have h2 : n ≤ 999999999 := by omega
  have HD := Lib.hid (fun w => digits_x n w h1 h2)
  have FA := rg_hf h1 h2
  have FB := rg_pr h1 h2
  have FC := rg_r h1 h2
  have FD := rg_n h1 h2
  have FX := rg_sz h1 h2
  have hlen := itoa_len h1 h2
  generalize Lib.itoa n = s at HD FA FB FC FD FX hlen
  have hcA : { data := #[72, 79, 76, 68, 70, 79, 82, 61] } ++ mkS s = mkS (kHF ++ [61] ++ s) := mkS_cat [72, 79, 76, 68, 70, 79, 82, 61] s
  have hlA : (kHF ++ [61] ++ s).length ≤ 1000000 := by simp [kHF]; omega
  have HPA := Lib.hid (fun w h => parseM_x (kHF ++ [61] ++ s) w hlA h)
  unfold MailPost mCells at HPA
  generalize peM (kHF ++ [61] ++ s) = EA at HPA FA
  generalize pvM (kHF ++ [61] ++ s) = MA at HPA FA
  generalize kHF ++ [61] ++ s = tA at hcA HPA hlA
  clear hlA
  have hcB : { data := #[77, 84, 45, 80, 82, 73, 79, 82, 73, 84, 89, 61] } ++ mkS s = mkS (kPR ++ [61] ++ s) := mkS_cat [77, 84, 45, 80, 82, 73, 79, 82, 73, 84, 89, 61] s
  have hlB : (kPR ++ [61] ++ s).length ≤ 1000000 := by simp [kPR]; omega
  have HPB := Lib.hid (fun w h => parseM_x (kPR ++ [61] ++ s) w hlB h)
  unfold MailPost mCells at HPB
  generalize peM (kPR ++ [61] ++ s) = EB at HPB FB
  generalize pvM (kPR ++ [61] ++ s) = MB at HPB FB
  generalize kPR ++ [61] ++ s = tB at hcB HPB hlB
  clear hlB
  have hcC : { data := #[66, 89, 61] } ++ mkS s ++ { data := #[59, 82] } = mkS (kBY ++ [61] ++ (s ++ 59 :: [82])) := kcat [66, 89, 61] kBY s [59, 82] _ (by decide) rfl
  have hlC : (kBY ++ [61] ++ (s ++ 59 :: [82])).length ≤ 1000000 := by simp [kBY]; omega
  have HPC := Lib.hid (fun w h => parseM_x (kBY ++ [61] ++ (s ++ 59 :: [82])) w hlC h)
  unfold MailPost mCells at HPC
  generalize peM (kBY ++ [61] ++ (s ++ 59 :: [82])) = EC at HPC FC
  generalize pvM (kBY ++ [61] ++ (s ++ 59 :: [82])) = MC at HPC FC
  generalize kBY ++ [61] ++ (s ++ 59 :: [82]) = tC at hcC HPC hlC
  clear hlC
  have hcD : { data := #[66, 89, 61] } ++ mkS s ++ { data := #[59, 78] } = mkS (kBY ++ [61] ++ (s ++ 59 :: [78])) := kcat [66, 89, 61] kBY s [59, 78] _ (by decide) rfl
  have hlD : (kBY ++ [61] ++ (s ++ 59 :: [78])).length ≤ 1000000 := by simp [kBY]; omega
  have HPD := Lib.hid (fun w h => parseM_x (kBY ++ [61] ++ (s ++ 59 :: [78])) w hlD h)
  unfold MailPost mCells at HPD
  generalize peM (kBY ++ [61] ++ (s ++ 59 :: [78])) = ED at HPD FD
  generalize pvM (kBY ++ [61] ++ (s ++ 59 :: [78])) = MD at HPD FD
  generalize kBY ++ [61] ++ (s ++ 59 :: [78]) = tD at hcD HPD hlD
  clear hlD
  have hcX : { data := #[83, 73, 90, 69, 61] } ++ mkS s = mkS (kSIZE ++ [61] ++ s) := mkS_cat [83, 73, 90, 69, 61] s
  have hlX : (kSIZE ++ [61] ++ s).length ≤ 1000000 := by simp [kSIZE]; omega
  have HPX := Lib.hid (fun w h => parseM_x (kSIZE ++ [61] ++ s) w hlX h)
  unfold MailPost mCells at HPX
  generalize peM (kSIZE ++ [61] ++ s) = EX at HPX FX
  generalize pvM (kSIZE ++ [61] ++ s) = MX at HPX FX
  generalize kSIZE ++ [61] ++ s = tX at hcX HPX hlX
  clear hlX
  have hsz : (mkS s).size ≤ 100 := by rw [mkS_size]; omega
  have y1 : ¬ 9223372036854775807 < 8 + (mkS s).size := by omega
  have y2 : ¬ 9223372036854775807 < 12 + (mkS s).size := by omega
  have y3 : ¬ 9223372036854775807 < 3 + (mkS s).size := by omega
  have y4 : ¬ 9223372036854775807 < 3 + (mkS s).size + 2 := by omega
  have y5 : ¬ 9223372036854775807 < 5 + (mkS s).size := by omega
  have F := Lib.hid (And.intro FA (And.intro FB (And.intro FC (And.intro FD FX))))
  clear FA FB FC FD FX hlen
  go_enter Tryz.func6, Tryz.ntmps6
  go_wp2_with fail
  refine HA.out.mono ?_
  rintro e w1 ⟨rfl, hb⟩
  have HB := Lib.hid hb
  clear hb HA
  go_wp2_with fail
  refine (HD.out _).mono ?_
  rintro e w2 ⟨rfl, hb⟩
  have HB0 := Lib.hid (below_next HB.out hb)
  clear hb HB HD
  go_wp2_with fail
  refine (HPA.out _ (HRb.out _ HB0.out)).mono ?_
  rintro e w3 ⟨rfl, hb⟩
  have BA' := Lib.hid (show MBox w w3.heap.size MA (w3.alloc (.cells #[.bool MA.hs, .bool MA.hf, .bool MA.hu, .bool MA.hb, .bool MA.hp, .int .i64 MA.sz, .int .i64 MA.fo, .int .i64 MA.un, .int .i64 MA.by_, .int .i64 MA.pr, .string (mkS MA.body), .string (mkS MA.ret), .string (mkS MA.env), .string (mkS MA.mode)] 25)) from ⟨newOf w3 _, (below_next HB0.out hb).alloc (below_next HB0.out hb).size _⟩)
  clear hb HPA HB0
  have BA := BA'
  clear BA'
  go_wp2_with fail
  generalize w3.alloc (.cells #[.bool MA.hs, .bool MA.hf, .bool MA.hu, .bool MA.hb, .bool MA.hp, .int .i64 MA.sz, .int .i64 MA.fo, .int .i64 MA.un, .int .i64 MA.by_, .int .i64 MA.pr, .string (mkS MA.body), .string (mkS MA.ret), .string (mkS MA.env), .string (mkS MA.mode)] 25) = v0 at BA ⊢
  generalize w3.heap.size = gA at BA ⊢
  refine (HPB.out _ (HRb.out _ BA.out.below)).mono ?_
  rintro e w4 ⟨rfl, hb⟩
  have BB' := Lib.hid (show MBox w w4.heap.size MB (w4.alloc (.cells #[.bool MB.hs, .bool MB.hf, .bool MB.hu, .bool MB.hb, .bool MB.hp, .int .i64 MB.sz, .int .i64 MB.fo, .int .i64 MB.un, .int .i64 MB.by_, .int .i64 MB.pr, .string (mkS MB.body), .string (mkS MB.ret), .string (mkS MB.env), .string (mkS MB.mode)] 25)) from ⟨newOf w4 _, (BA.out.next hb).below.alloc (BA.out.next hb).below.size _⟩)
  have BA' := Lib.hid ((BA.out.next hb).next (below_new1 w4 (.cells #[.bool MB.hs, .bool MB.hf, .bool MB.hu, .bool MB.hb, .bool MB.hp, .int .i64 MB.sz, .int .i64 MB.fo, .int .i64 MB.un, .int .i64 MB.by_, .int .i64 MB.pr, .string (mkS MB.body), .string (mkS MB.ret), .string (mkS MB.env), .string (mkS MB.mode)] 25)))
  clear hb HPB BA
  have BA := BA'
  clear BA'
  have BB := BB'
  clear BB'
  go_wp2_with fail
  generalize w4.alloc (.cells #[.bool MB.hs, .bool MB.hf, .bool MB.hu, .bool MB.hb, .bool MB.hp, .int .i64 MB.sz, .int .i64 MB.fo, .int .i64 MB.un, .int .i64 MB.by_, .int .i64 MB.pr, .string (mkS MB.body), .string (mkS MB.ret), .string (mkS MB.env), .string (mkS MB.mode)] 25) = v1 at BA BB ⊢
  generalize w4.heap.size = gB at BB ⊢
  refine (HPC.out _ (HRb.out _ BB.out.below)).mono ?_
  rintro e w5 ⟨rfl, hb⟩
  have BC' := Lib.hid (show MBox w w5.heap.size MC (w5.alloc (.cells #[.bool MC.hs, .bool MC.hf, .bool MC.hu, .bool MC.hb, .bool MC.hp, .int .i64 MC.sz, .int .i64 MC.fo, .int .i64 MC.un, .int .i64 MC.by_, .int .i64 MC.pr, .string (mkS MC.body), .string (mkS MC.ret), .string (mkS MC.env), .string (mkS MC.mode)] 25)) from ⟨newOf w5 _, (BB.out.next hb).below.alloc (BB.out.next hb).below.size _⟩)
  have BA' := Lib.hid ((BA.out.next hb).next (below_new1 w5 (.cells #[.bool MC.hs, .bool MC.hf, .bool MC.hu, .bool MC.hb, .bool MC.hp, .int .i64 MC.sz, .int .i64 MC.fo, .int .i64 MC.un, .int .i64 MC.by_, .int .i64 MC.pr, .string (mkS MC.body), .string (mkS MC.ret), .string (mkS MC.env), .string (mkS MC.mode)] 25)))
  have BB' := Lib.hid ((BB.out.next hb).next (below_new1 w5 (.cells #[.bool MC.hs, .bool MC.hf, .bool MC.hu, .bool MC.hb, .bool MC.hp, .int .i64 MC.sz, .int .i64 MC.fo, .int .i64 MC.un, .int .i64 MC.by_, .int .i64 MC.pr, .string (mkS MC.body), .string (mkS MC.ret), .string (mkS MC.env), .string (mkS MC.mode)] 25)))
  clear hb HPC BA BB
  have BA := BA'
  clear BA'
  have BB := BB'
  clear BB'
  have BC := BC'
  clear BC'
  go_wp2_with fail
  generalize w5.alloc (.cells #[.bool MC.hs, .bool MC.hf, .bool MC.hu, .bool MC.hb, .bool MC.hp, .int .i64 MC.sz, .int .i64 MC.fo, .int .i64 MC.un, .int .i64 MC.by_, .int .i64 MC.pr, .string (mkS MC.body), .string (mkS MC.ret), .string (mkS MC.env), .string (mkS MC.mode)] 25) = v2 at BA BB BC ⊢
  generalize w5.heap.size = gC at BC ⊢
  refine (HPD.out _ (HRb.out _ BC.out.below)).mono ?_
  rintro e w6 ⟨rfl, hb⟩
  have BD' := Lib.hid (show MBox w w6.heap.size MD (w6.alloc (.cells #[.bool MD.hs, .bool MD.hf, .bool MD.hu, .bool MD.hb, .bool MD.hp, .int .i64 MD.sz, .int .i64 MD.fo, .int .i64 MD.un, .int .i64 MD.by_, .int .i64 MD.pr, .string (mkS MD.body), .string (mkS MD.ret), .string (mkS MD.env), .string (mkS MD.mode)] 25)) from ⟨newOf w6 _, (BC.out.next hb).below.alloc (BC.out.next hb).below.size _⟩)
  have BA' := Lib.hid ((BA.out.next hb).next (below_new1 w6 (.cells #[.bool MD.hs, .bool MD.hf, .bool MD.hu, .bool MD.hb, .bool MD.hp, .int .i64 MD.sz, .int .i64 MD.fo, .int .i64 MD.un, .int .i64 MD.by_, .int .i64 MD.pr, .string (mkS MD.body), .string (mkS MD.ret), .string (mkS MD.env), .string (mkS MD.mode)] 25)))
  have BB' := Lib.hid ((BB.out.next hb).next (below_new1 w6 (.cells #[.bool MD.hs, .bool MD.hf, .bool MD.hu, .bool MD.hb, .bool MD.hp, .int .i64 MD.sz, .int .i64 MD.fo, .int .i64 MD.un, .int .i64 MD.by_, .int .i64 MD.pr, .string (mkS MD.body), .string (mkS MD.ret), .string (mkS MD.env), .string (mkS MD.mode)] 25)))
  have BC' := Lib.hid ((BC.out.next hb).next (below_new1 w6 (.cells #[.bool MD.hs, .bool MD.hf, .bool MD.hu, .bool MD.hb, .bool MD.hp, .int .i64 MD.sz, .int .i64 MD.fo, .int .i64 MD.un, .int .i64 MD.by_, .int .i64 MD.pr, .string (mkS MD.body), .string (mkS MD.ret), .string (mkS MD.env), .string (mkS MD.mode)] 25)))
  clear hb HPD BA BB BC
  have BA := BA'
  clear BA'
  have BB := BB'
  clear BB'
  have BC := BC'
  clear BC'
  have BD := BD'
  clear BD'
  go_wp2_with fail
  generalize w6.alloc (.cells #[.bool MD.hs, .bool MD.hf, .bool MD.hu, .bool MD.hb, .bool MD.hp, .int .i64 MD.sz, .int .i64 MD.fo, .int .i64 MD.un, .int .i64 MD.by_, .int .i64 MD.pr, .string (mkS MD.body), .string (mkS MD.ret), .string (mkS MD.env), .string (mkS MD.mode)] 25) = v3 at BA BB BC BD ⊢
  generalize w6.heap.size = gD at BD ⊢
  refine (HPX.out _ (HRb.out _ BD.out.below)).mono ?_
  rintro e w7 ⟨rfl, hb⟩
  have BX' := Lib.hid (show MBox w w7.heap.size MX (w7.alloc (.cells #[.bool MX.hs, .bool MX.hf, .bool MX.hu, .bool MX.hb, .bool MX.hp, .int .i64 MX.sz, .int .i64 MX.fo, .int .i64 MX.un, .int .i64 MX.by_, .int .i64 MX.pr, .string (mkS MX.body), .string (mkS MX.ret), .string (mkS MX.env), .string (mkS MX.mode)] 25)) from ⟨newOf w7 _, (BD.out.next hb).below.alloc (BD.out.next hb).below.size _⟩)
  have BA' := Lib.hid ((BA.out.next hb).next (below_new1 w7 (.cells #[.bool MX.hs, .bool MX.hf, .bool MX.hu, .bool MX.hb, .bool MX.hp, .int .i64 MX.sz, .int .i64 MX.fo, .int .i64 MX.un, .int .i64 MX.by_, .int .i64 MX.pr, .string (mkS MX.body), .string (mkS MX.ret), .string (mkS MX.env), .string (mkS MX.mode)] 25)))
  have BB' := Lib.hid ((BB.out.next hb).next (below_new1 w7 (.cells #[.bool MX.hs, .bool MX.hf, .bool MX.hu, .bool MX.hb, .bool MX.hp, .int .i64 MX.sz, .int .i64 MX.fo, .int .i64 MX.un, .int .i64 MX.by_, .int .i64 MX.pr, .string (mkS MX.body), .string (mkS MX.ret), .string (mkS MX.env), .string (mkS MX.mode)] 25)))
  have BC' := Lib.hid ((BC.out.next hb).next (below_new1 w7 (.cells #[.bool MX.hs, .bool MX.hf, .bool MX.hu, .bool MX.hb, .bool MX.hp, .int .i64 MX.sz, .int .i64 MX.fo, .int .i64 MX.un, .int .i64 MX.by_, .int .i64 MX.pr, .string (mkS MX.body), .string (mkS MX.ret), .string (mkS MX.env), .string (mkS MX.mode)] 25)))
  have BD' := Lib.hid ((BD.out.next hb).next (below_new1 w7 (.cells #[.bool MX.hs, .bool MX.hf, .bool MX.hu, .bool MX.hb, .bool MX.hp, .int .i64 MX.sz, .int .i64 MX.fo, .int .i64 MX.un, .int .i64 MX.by_, .int .i64 MX.pr, .string (mkS MX.body), .string (mkS MX.ret), .string (mkS MX.env), .string (mkS MX.mode)] 25)))
  clear hb HPX BA BB BC BD
  have BA := BA'
  clear BA'
  have BB := BB'
  clear BB'
  have BC := BC'
  clear BC'
  have BD := BD'
  clear BD'
  have BX := BX'
  clear BX'
  have cA6 := BA.out.c6
  have cB9 := BB.out.c9
  have cC8 := BC.out.c8
  have cD8 := BD.out.c8
  have cD13 := BD.out.c13
  have cX5 := BX.out.c5
  have HB := Lib.hid BA.out.below
  clear BA BB BC BD BX
  obtain ⟨FA, FB, FC, FD, FX⟩ := F.out
  clear F
  obtain ⟨rfl, rfl⟩ := FD
  by_cases hn : n < 0
  · by_cases h9 : -9 ≤ n
    · obtain ⟨rfl, rfl⟩ := FA.1 hn
      obtain ⟨rfl, rfl⟩ := FB.2 h9 (by omega)
      obtain ⟨rfl, rfl⟩ := FC.1 (by omega)
      obtain ⟨rfl, rfl⟩ := FX.1 hn
      clear FA FB FC FX
      have k0 : ¬ 0 ≤ n := by omega
      have k1 : ¬ 1 ≤ n := by omega
      have k2 : n ≤ 1048576 := by omega
      have k3 : n ≤ 9 := by omega
      have k4 : ¬ 0 < n := by omega
      go_wp2_with fail
      go_ret
      exact ⟨ret_bool (by simp [mkS_toList]), HB.out⟩
    · obtain ⟨rfl, rfl⟩ := FA.1 hn
      obtain ⟨rfl, rfl⟩ := FB.1 (fun h => h9 h.1)
      obtain ⟨rfl, rfl⟩ := FC.1 (by omega)
      obtain ⟨rfl, rfl⟩ := FX.1 hn
      clear FA FB FC FX
      have k0 : ¬ 0 ≤ n := by omega
      have k1 : ¬ 1 ≤ n := by omega
      have k2 : n ≤ 1048576 := by omega
      have k3 : n ≤ 9 := by omega
      have k4 : ¬ 0 < n := by omega
      go_wp2_with fail
      go_ret
      exact ⟨ret_bool (by simp [mkS_toList]), HB.out⟩
  · by_cases h0 : n = 0
    · subst h0
      obtain ⟨rfl, rfl⟩ := FA.2.1 (by omega) (by omega)
      obtain ⟨rfl, rfl⟩ := FB.2 (by omega) (by omega)
      obtain ⟨rfl, rfl⟩ := FC.1 (by omega)
      obtain ⟨rfl, rfl⟩ := FX.2 (by omega)
      clear FA FB FC FX
      go_wp2_with fail
      go_ret
      exact ⟨ret_bool (by simp [mkS_toList]), HB.out⟩
    · by_cases h9 : n ≤ 9
      · obtain ⟨rfl, rfl⟩ := FA.2.2 (by omega) (by omega)
        obtain ⟨rfl, rfl⟩ := FB.2 (by omega) h9
        obtain ⟨rfl, rfl⟩ := FC.2 (by omega)
        obtain ⟨rfl, rfl⟩ := FX.2 (by omega)
        clear FA FB FC FX
        have k0 : 0 ≤ n := by omega
        have k1 : -9 ≤ n := by omega
        have k2 : 1 ≤ n := by omega
        have k3 : n ≤ 1048576 := by omega
        have k4 : 0 < n := by omega
        go_wp2_with fail
        go_ret
        exact ⟨ret_bool (by simp [mkS_toList]), HB.out⟩
      · by_cases hM : n ≤ 1048576
        · obtain ⟨rfl, rfl⟩ := FA.2.2 (by omega) hM
          obtain ⟨rfl, rfl⟩ := FB.1 (fun h => h9 h.2)
          obtain ⟨rfl, rfl⟩ := FC.2 (by omega)
          obtain ⟨rfl, rfl⟩ := FX.2 (by omega)
          clear FA FB FC FX
          have k0 : 0 ≤ n := by omega
          have k1 : -9 ≤ n := by omega
          have k2 : 1 ≤ n := by omega
          have k3 : 0 < n := by omega
          go_wp2_with fail
          go_ret
          exact ⟨ret_bool (by simp [mkS_toList]), HB.out⟩
        · obtain ⟨rfl, rfl⟩ := FA.2.1 (by omega) (fun h => hM h.2)
          obtain ⟨rfl, rfl⟩ := FB.1 (fun h => h9 h.2)
          obtain ⟨rfl, rfl⟩ := FC.2 (by omega)
          obtain ⟨rfl, rfl⟩ := FX.2 (by omega)
          clear FA FB FC FX
          have k0 : 0 ≤ n := by omega
          have k1 : -9 ≤ n := by omega
          have k2 : 1 ≤ n := by omega
          have k3 : 0 < n := by omega
          go_wp2_with fail
          go_ret
          exact ⟨ret_bool (by simp [mkS_toList]), HB.out⟩
end Go.Proofs.YtpdehgkkpgjpnaaGreatDoor
