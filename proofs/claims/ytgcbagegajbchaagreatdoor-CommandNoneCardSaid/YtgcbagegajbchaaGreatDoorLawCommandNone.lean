/-
  The walk of the law CommandNone.
-/
import Derived.Test.YtgcbagegajbchaaGreatDoorMaCmAw
namespace Go.Proofs.YtgcbagegajbchaaGreatDoor
set_option maxRecDepth 100000
open Go.RowKit Go.Shelf
/-- The verbs in their row, block B; nothing that lay ahead has turned. -/
structure LB (W : World) (B : Nat) (w : World) : Prop where
  row : w.heap[B]? = some (.cells verbCells 9 (0, 0))
  below : Below W.heap.size W w
theorem LB.next {W w w' : World} {B : Nat} (h : LB W B w) (hb : Below w.heap.size w w') : LB W B w' := ⟨(hb.block _ (ltOf h.row)).trans h.row, below_next h.below hb⟩
theorem LB.drew {W w : World} {B : Nat} (h : LB W B w) : LB W B w.drew := ⟨h.row, ⟨h.below.os, h.below.tape, h.below.output, h.below.size, h.below.block⟩⟩
theorem LB.sto {W w w' : World} {o : Obj} {B : Nat} (h : LB W B w) (hA : Apart w.heap.size (w.alloc o).heap.size (w.alloc o) w') : LB W B w' :=
  ⟨(hA.block B (by have := ltOf h.row; simp; omega) (by have := ltOf h.row; omega)).trans (old_alloc h.row), below_sto h.below hA⟩
theorem LB.quiet {W : World} {B : Nat} {Y : Type} {F : Y → World} {y : Y} (h : (∀ y, LB W B (F y)) ∧ (∀ w', LB W B w' → ∃ y, w' = F y)) {f : FuncId} {args : Array Value} {v : Value} (H : Calls Tryz.prog f args (F y) fun e w' => e = .returned v ∧ Below (F y).heap.size (F y) w') :
    Calls Tryz.prog f args (F y) fun e w' => e = .returned v ∧ ∃ y, w' = F y := H.mono fun _ _ ⟨he, hb⟩ => ⟨he, h.2 _ ((h.1 y).next hb)⟩
theorem verb_at (j : Nat) (hj : j < 10) : ∃ v, verbsV[j]? = some v ∧ verbCells[j]? = some (.string (mkS v)) ∧ kindV v ≠ 0 := by
  match j, hj with
  | 0, _ => exact ⟨_, rfl, rfl, by decide⟩
  | 1, _ => exact ⟨_, rfl, rfl, by decide⟩
  | 2, _ => exact ⟨_, rfl, rfl, by decide⟩
  | 3, _ => exact ⟨_, rfl, rfl, by decide⟩
  | 4, _ => exact ⟨_, rfl, rfl, by decide⟩
  | 5, _ => exact ⟨_, rfl, rfl, by decide⟩
  | 6, _ => exact ⟨_, rfl, rfl, by decide⟩
  | 7, _ => exact ⟨_, rfl, rfl, by decide⟩
  | 8, _ => exact ⟨_, rfl, rfl, by decide⟩
  | 9, _ => exact ⟨_, rfl, rfl, by decide⟩
def knownV (V : Txt) (j : Nat) : Bool := (verbsV.take j).any (· == V)
theorem known_succ {V v : Txt} {j : Nat} (h : verbsV[j]? = some v) : knownV V (j + 1) = (knownV V j || v == V) := by
  obtain ⟨hk, e⟩ := List.getElem?_eq_some_iff.1 h
  unfold knownV
  rw [List.take_succ_eq_append_getElem hk, List.any_append, e]
  simp
theorem known_all {V : Txt} (h : knownV V 10 = false) : kindV V = 0 := by
  refine Classical.byContradiction fun hk => ?_
  have hm : V ∈ verbsV := kind_cases hk
  have : knownV V 10 = true := by
    unfold knownV
    rw [List.any_eq_true]
    exact ⟨V, hm, by simp⟩
  rw [this] at h
  cases h
theorem pk_x (s : Txt) (w : World) (hs : s.length ≤ 100000) (hR : Ready w) (hN : NotR w) (hk : kindV (vbV s) = 0) : Calls Tryz.prog 9 #[.string (mkS s)] w fun e w' => e = .returned (.tuple #[.agg (CC zeroC), .int .i64 10]) ∧ Below w.heap.size w w' :=
  (cparse_x s w hs hR hN).mono fun e w' ⟨he, hb⟩ => ⟨by rw [he, (cp_none hk).1, (cp_none hk).2], hb⟩
theorem two_of {v : Txt} (h : kindV v ≠ 0) : v.length = 4 := kind_len h
set_option maxHeartbeats 16000000 in
theorem commandNone_x (verb rest : Txt) (w : World) (hR : Ready w) (hN : NotR w) (hz1 : verb.length ≤ 140737488355328) (hz2 : rest.length ≤ 140737488355328) :
    Calls Tryz.prog 6 #[.string (mkS verb), .string (mkS rest)] w fun e w' => e = .returned (.bool true) ∧ Below w.heap.size w w' := by
  have HA := Lib.hid (awake_x w hR hN)
  have HR := Lib.hid (fun w' (h : Below w.heap.size w w') => hR.below h)
  have HN := Lib.hid (fun w' (h : Below w.heap.size w w') => hN.below h)
  have z1 := mkS_size verb
  have z2 := mkS_size rest
  clear hR hN
  go_enter Tryz.func6, Tryz.ntmps6
  go_wp2_with fail
  refine HA.out.mono ?_
  rintro e w1 ⟨rfl, hb⟩
  have HB := Lib.hid hb
  clear hb HA
  by_cases hl1 : 200 < verb.length
  · have hlI : (200 : Int) < (verb.length : Int) := by omega
    go_wp2_with fail
    go_ret
    exact ⟨rfl, HB.out⟩
  have hl1I : ¬ (200 : Int) < (verb.length : Int) := by omega
  by_cases hl2 : 1000 < rest.length
  · have hlI : (1000 : Int) < (rest.length : Int) := by omega
    go_wp2_with fail
    go_ret
    exact ⟨rfl, HB.out⟩
  have hl2I : ¬ (1000 : Int) < (rest.length : Int) := by omega
  have hcA : mkS verb ++ { data := #[32] } = mkS (verb ++ [32]) := mkS_cat verb [32]
  have hcB : mkS (verb ++ [32]) ++ mkS rest = mkS (verb ++ [32] ++ rest) := mkS_cat _ _
  have zA : (mkS (verb ++ [32])).size = verb.length + 1 := by rw [mkS_size]; simp
  have yA : ¬ 9223372036854775807 < (mkS verb).size + 1 := by omega
  have yA2 : ¬ 9223372036854775807 < verb.length + 1 := by omega
  have yB : ¬ 9223372036854775807 < verb.length + 1 + (mkS rest).size := by omega
  have yB2 : ¬ 9223372036854775807 < verb.length + 1 + rest.length := by omega
  have hsl : (verb ++ [32] ++ rest).length ≤ 100000 := by simp; omega
  have HVB := Lib.hid (fun w => verb_x (verb ++ [32] ++ rest) w (by omega))
  have HPL := Lib.hid (fun w hR hN => cparse_x (verb ++ [32] ++ rest) w hsl hR hN)
  unfold CpPost at HPL
  have HKN := Lib.hid (fun h => (cp_none (s := verb ++ [32] ++ rest) h).1)
  generalize hTT : verb ++ [32] ++ rest = tt at hcB HVB HPL HKN hsl
  generalize hVV : vbV tt = V at HVB HKN
  have hTV := mkS_toList V
  clear hTT hVV hsl
  go_wp2_with fail
  refine (verbs_x _).mono ?_
  rintro e w2 ⟨rfl, hw⟩
  have HL := Lib.hid (show LB w w1.heap.size w2 by rw [hw]; exact ⟨newOf w1 _, HB.out.alloc HB.out.size _⟩)
  clear hw HB
  generalize w1.heap.size = B at HL ⊢
  go_wp2_with fail
  go_loopw [7, 5] (fun i k wr => ∃ j : Nat, j ≤ 10 ∧ i = .int .i64 j ∧ k = .bool (knownV V j) ∧ Hid (LB w B wr)) (fun i _ _ => 10 - (intOf i).toNat)
  case atStart => exact ⟨0, Nat.zero_le _, rfl, rfl, HL⟩
  case round =>
    obtain ⟨j, hj, rfl, rfl, HL3⟩ := hrel
    clear HL
    by_cases hlt : j < 10
    · obtain ⟨v, hv1, hv2, hvk⟩ := verb_at j hlt
      have hjI : (j : Int) < 10 := by omega
      have HKS := Lib.hid (known_succ (V := V) hv1)
      have hv4 := kind_len hvk
      have HM := Lib.hid (vb_more hvk rest)
      have zv := mkS_size v
      have hTv := mkS_toList v
      have heq := mkS_eqb v V
      have hc1 : mkS v ++ { data := #[88, 32] } = mkS (v ++ [88, 32]) := mkS_cat v [88, 32]
      have hc2 : mkS (v ++ [88, 32]) ++ mkS rest = mkS (v ++ 88 :: 32 :: rest) := by rw [mkS_cat]; congr 1; simp
      have hc3 : ({ data := #[32] } : ByteArray) ++ mkS v = mkS (32 :: v) := mkS_cat [32] v
      have hc4 : mkS (32 :: v) ++ mkS rest = mkS (32 :: v ++ rest) := mkS_cat _ _
      have hc5 : mkS (32 :: v ++ rest) ++ { data := #[120] } = mkS (32 :: (v ++ rest ++ [120])) := by rw [show ({ data := #[120] } : ByteArray) = mkS [120] from rfl, mkS_cat]; congr 1
      have s1 : (mkS (v ++ [88, 32])).size = 6 := by rw [mkS_size]; simp [hv4]
      have s2 : (mkS (32 :: v)).size = 5 := by rw [mkS_size]; simp [hv4]
      have s3 : (mkS (32 :: v ++ rest)).size = 5 + rest.length := by rw [mkS_size]; simp [hv4]; omega
      have g1 : ¬ 9223372036854775807 < (mkS v).size + 2 := by omega
      have g2 : ¬ 9223372036854775807 < 6 + (mkS rest).size := by omega
      have g2b : ¬ 9223372036854775807 < 6 + rest.length := by omega
      have g3 : ¬ 9223372036854775807 < 1 + (mkS v).size := by omega
      have g4 : ¬ 9223372036854775807 < 5 + (mkS rest).size := by omega
      have g4b : ¬ 9223372036854775807 < 5 + rest.length := by omega
      have g5 : ¬ 9223372036854775807 < 5 + rest.length + 1 := by omega
      have g6 : ¬ 9223372036854775807 < v.length + 2 := by omega
      have g7 : ¬ 9223372036854775807 < 1 + v.length := by omega
      have HP1 := Lib.hid (fun w hR hN => pk_x (v ++ 88 :: 32 :: rest) w (by simp [hv4]; omega) hR hN HM.out.1)
      have HP2 := Lib.hid (fun w hR hN => pk_x (32 :: (v ++ rest ++ [120])) w (by simp [hv4]; omega) hR hN rfl)
      clear hvk hv1 hv4 HM
      generalize 32 :: v ++ rest = t3 at hc4 hc5 s3
      generalize 32 :: v = t4 at hc3 hc4 s2
      generalize v ++ [88, 32] = t5 at hc1 hc2 s1
      generalize v ++ 88 :: 32 :: rest = t1 at hc2 HP1
      generalize 32 :: (v ++ rest ++ [120]) = t2 at hc5 HP2
      generalize hkj : knownV V j = kj at HKS ⊢
      clear hkj
      obtain ⟨Y, F, y0, hy0, hF, hS⟩ : ∃ (Y : Type) (F : Y → World) (y0 : Y), F y0 = wr.drew ∧ (∀ y, LB w B (F y)) ∧ (∀ w', LB w B w' → ∃ y, w' = F y) :=
        ⟨{ w' // LB w B w' }, Subtype.val, ⟨_, HL3.out.drew⟩, rfl, fun y => y.2, fun w' h => ⟨⟨w', h⟩, rfl⟩⟩
      have hne : Nonempty Y := ⟨y0⟩
      have hF1 : ∀ y, (F y).cell? ⟨B, j, none⟩ = some (.string (mkS v)) := fun y => (cellOf (hF y).row j).trans hv2
      have HFS := Lib.hid (And.intro hF hS)
      clear hF hS
      have HR4 := Lib.hid (show ∀ q : Bool, q = (kj || v == V) → q = knownV V (j + 1) from fun q hq => by rw [hq, HKS.out])
      have HV2 := Lib.hid hv2
      clear hv2
      cases kj
      all_goals
        go_wp2_with fail
        refine region_in (by kernel_rfl) (by kernel_rfl) F y0 hy0 ?_
        repeat (go_big_quiet_step (first
          | (go_at_call 11; exact LB.quiet HFS.out (HVB.out _))))
        refine wpQuiet_nil ?_
        rintro _ ⟨y, rfl⟩
        have H4 := Lib.hid (HFS.out.1 y)
        have c1 := hF1 y
        clear hF1 hy0 HL3
        generalize F y = w4 at H4 c1 ⊢
        clear HFS
        go_wp2_with fail
        refine (HP1.out _ (HR.out _ H4.out.below) (HN.out _ H4.out.below)).mono ?_
        rintro e w5 ⟨rfl, hb⟩
        have H5 := Lib.hid (H4.out.next hb)
        clear hb c1 H4
        go_wp2_with (refine wpList_store_blk rfl 31 _ _ rfl w5.heap.size 0 31 (CC zeroC) (CC zeroC) (CC zeroC) rfl rfl (newOf w5 _) size_cmd (one_CC _) (Nat.le_of_eq rfl) (whole_CC zeroC _) ?_; intro w6 hB2 hA2; have c6 : w6.cell? ⟨B, j, none⟩ = some (.string (mkS v)) := (cellOf (H5.out.sto hA2).row j).trans HV2.out; have H6 := Lib.hid (H5.out.sto hA2); clear hB2 hA2 H5)
        refine (HP2.out _ (HR.out _ H6.out.below) (HN.out _ H6.out.below)).mono ?_
        rintro e w7 ⟨rfl, hb⟩
        have H7 := Lib.hid (H6.out.next hb)
        clear hb c6 H6
        go_wp2_with (refine wpList_store_blk rfl 31 _ _ rfl w7.heap.size 0 31 (CC zeroC) (CC zeroC) (CC zeroC) rfl rfl (newOf w7 _) size_cmd (one_CC _) (Nat.le_of_eq rfl) (whole_CC zeroC _) ?_; intro w8 hB2 hA2; have H8 := Lib.hid (H7.out.sto hA2); clear hB2 hA2 H7)
        go_roundw
        case rel => exact ⟨j + 1, by omega, by go_num, congrArg Value.bool (HR4.out _ (by simp)), H8⟩
        case measure => simp [intOf]; omega
    · obtain rfl : j = 10 := by omega
      have HKA := Lib.hid (fun h => HKN.out (known_all (V := V) h))
      clear HKN
      generalize knownV V 10 = kf at HKA ⊢
      generalize cpE tt = E at HPL HKA
      generalize cpV tt = X at HPL
      go_wp2_with fail
      refine (HPL.out _ (HR.out _ HL3.out.below) (HN.out _ HL3.out.below)).mono ?_
      rintro e w9 ⟨rfl, hb⟩
      have H9 := Lib.hid (HL3.out.next hb)
      clear hb HL3
      cases kf
      · obtain rfl := HKA.out rfl
        go_wp2_with (refine wpList_store_blk rfl 31 _ _ rfl w9.heap.size 0 31 (CC zeroC) (CC X) (CC X) rfl rfl (newOf w9 _) size_cmd (one_CC _) (Nat.le_of_eq rfl) (whole_CC zeroC _) ?_; intro w10 hB2 hA2; have H10 := Lib.hid (H9.out.sto hA2).below; clear hB2 hA2 H9)
        go_ret
        exact ⟨rfl, H10.out⟩
      · go_wp2_with (refine wpList_store_blk rfl 31 _ _ rfl w9.heap.size 0 31 (CC zeroC) (CC X) (CC X) rfl rfl (newOf w9 _) size_cmd (one_CC _) (Nat.le_of_eq rfl) (whole_CC zeroC _) ?_; intro w10 hB2 hA2; have H10 := Lib.hid (H9.out.sto hA2).below; clear hB2 hA2 H9)
        go_ret
        exact ⟨rfl, H10.out⟩
end Go.Proofs.YtgcbagegajbchaaGreatDoor
