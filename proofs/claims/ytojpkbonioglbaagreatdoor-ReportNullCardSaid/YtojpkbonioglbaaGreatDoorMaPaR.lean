/-
  PaOrd · PaRightB · PaRang · PaRM · PaJoin · PaNames · PaSay · PaPrM · PaRR · PaPrR · PaBkS, in one text.
-/
import Derived.Test.YtojpkbonioglbaaGreatDoorMaPure
import Derived.Test.YtojpkbonioglbaaGreatDoorPaRight
import Derived.StillTailTactics
import Derived.Test.YtojpkbonioglbaaGreatDoorMaDate
import Derived.Test.YtojpkbonioglbaaGreatDoorMaPaO
import Derived.Test.YtojpkbonioglbaaGreatDoorMaBuild
import Derived.Maps.AppendAt
import Derived.Deep.AppendLies
import Derived.Lib.Join
import Derived.IntWalk
import Derived.Lib.SmallJoins
import Derived.Test.YtojpkbonioglbaaGreatDoorMaPaD
import Derived.Test.YtojpkbonioglbaaGreatDoorMaXt
import Derived.Lib.AppendIntMem
import Derived.Test.YtojpkbonioglbaaGreatDoorPaSmall
import Derived.Deep.QuietTactic
import Derived.BigQuiet
import Derived.Deep.RegionHeld3
import Derived.Test.YtojpkbonioglbaaGreatDoorPaEq
/-
  Plain mathematics: words in another order, a word said twice (no model).
-/
namespace Go.Proofs.YtojpkbonioglbaaGreatDoor
set_option maxRecDepth 100000
/-- A text's words in the other order. -/
def turnT (s : Txt) : Txt := joinC 32 (splitC 32 s).reverse
theorem split_turn (s : Txt) : splitC 32 (turnT s) = (splitC 32 s).reverse :=
  splitC_join 32 _ (by simp [splitC_ne]) (fun x hx => splitC_free (List.mem_reverse.1 hx))
theorem turn_ne {s : Txt} (h : ∀ w ∈ splitC 32 s, w ≠ []) : turnT s ≠ [] := by
  intro e
  have h1 := split_turn s
  rw [e, show splitC 32 [] = [[]] from rfl] at h1
  have : ([] : Txt) ∈ (splitC 32 s).reverse := by rw [← h1]; simp
  exact h [] (List.mem_reverse.1 this) rfl
theorem peM_errs {s : Txt} (hs : s ≠ []) (h : peM s = 0) : errs isKM errM [] (splitC 32 s) = 0 ∧ pvM s = fin setM (splitC 32 s) zeroM := by
  have hr : rdM s = 0 := by
    by_cases h0 : rdM s = 0
    · exact h0
    · rw [peM, if_neg h0] at h; exact absurd h h0
  exact ⟨by rw [rdM, if_neg hs] at hr; exact hr, by rw [pvM, if_pos ⟨h, hs⟩]; rfl⟩
theorem ord_m {s : Txt} (hs : s ≠ []) (h : peM s = 0) : peM (turnT s) = 0 ∧ pvM (turnT s) = pvM s := by
  obtain ⟨he, hv⟩ := peM_errs hs h
  have hg := ((errs_zero isKM errM).1 he).1
  have hn := ((errs_zero isKM errM).1 he).2
  have ht : turnT s ≠ [] := turn_ne fun w hw => (hg w hw).1.1
  have hr : rdM (turnT s) = 0 := by rw [rdM, if_neg ht, split_turn]; exact errs_rev isKM errM he
  have hf : finM (turnT s) = finM s := by
    unfold finM
    rw [split_turn]
    exact fin_rev setM setM_comm _ _ hn
  have hp : peM (turnT s) = 0 := by
    unfold peM at h ⊢
    have hr0 : rdM s = 0 := by rw [rdM, if_neg hs]; exact he
    rw [if_pos hr0] at h
    rw [if_pos hr, hf]
    by_cases hb : (finM s).hf = true ∧ (finM s).hu = true
    · rw [if_pos ⟨hs, hb⟩] at h; cases h
    · rw [if_neg (fun h' => hb h'.2)]
  exact ⟨hp, by rw [pvM, if_pos ⟨hp, ht⟩, pvM, if_pos ⟨h, hs⟩, hf]⟩
theorem twice_m {s w : Txt} (hs : s ≠ []) (h : peM s = 0) (hw : w ∈ splitC 32 s) : peM (s ++ 32 :: w) = 11 := by
  obtain ⟨he, _⟩ := peM_errs hs h
  have h2 : splitC 32 (s ++ 32 :: w) = splitC 32 s ++ [w] := by rw [splitC_cat, splitC_one (splitC_free hw)]
  have hr : rdM (s ++ 32 :: w) = 11 := by rw [rdM, if_neg (by simp), h2]; exact errs_twice isKM errM he hw
  rw [peM, hr, if_neg (by decide)]
theorem peR_errs {s : Txt} (hs : s ≠ []) (h : peR s = 0) : errs isKR errR [] (splitC 32 s) = 0 := by rw [peR, if_neg hs] at h; exact h
theorem ord_r {s : Txt} (hs : s ≠ []) (h : peR s = 0) : peR (turnT s) = 0 ∧ pvR (turnT s) = pvR s := by
  have he := peR_errs hs h
  have hg := ((errs_zero isKR errR).1 he).1
  have hn := ((errs_zero isKR errR).1 he).2
  have ht : turnT s ≠ [] := turn_ne fun w hw => (hg w hw).1.1
  have hr : peR (turnT s) = 0 := by rw [peR, if_neg ht, split_turn]; exact errs_rev isKR errR he
  have hf : finR (turnT s) = finR s := by
    unfold finR
    rw [split_turn]
    exact fin_rev setR setR_comm _ _ hn
  exact ⟨hr, by rw [pvR, if_pos ⟨hr, ht⟩, pvR, if_pos ⟨h, hs⟩, hf]⟩
theorem twice_r {s w : Txt} (hs : s ≠ []) (h : peR s = 0) (hw : w ∈ splitC 32 s) : peR (s ++ 32 :: w) = 11 := by
  have he := peR_errs hs h
  have h2 : splitC 32 (s ++ 32 :: w) = splitC 32 s ++ [w] := by rw [splitC_cat, splitC_one (splitC_free hw)]
  rw [peR, if_neg (by simp), h2]
  exact errs_twice isKR errR he hw
/-- Lengths. -/
theorem lens_le : ∀ (l : List Txt) (n : Nat), (∀ x ∈ l, x.length ≤ n) → Lib.lens l ≤ l.length * n
  | [], _, _ => by simp [Lib.lens]
  | x :: l, n, h => by
    have ih := lens_le l n fun y hy => h y (List.mem_cons_of_mem _ hy)
    have hx := h x (by simp)
    simp only [Lib.lens, List.map_cons, List.sum_cons, List.length_cons, Nat.succ_mul] at ih ⊢
    omega
theorem joinC_len (c : UInt8) (l : List Txt) : (joinC c l).length ≤ l.length + Lib.lens l := by
  rw [← joinC_intercalate]
  cases l with
  | nil => simp [Lib.join_nil]
  | cons x r =>
    rw [Lib.join_length]
    simp only [List.length_cons, List.length_nil]
    omega
theorem splitC_lens (c : UInt8) (s : Txt) : Lib.lens (splitC c s) ≤ s.length := by
  have : ∀ (l acc : Txt), Lib.lens (splitG c acc l) ≤ acc.length + l.length := by
    intro l
    induction l with
    | nil => intro acc; simp [splitG, Lib.lens]
    | cons b t ih =>
      intro acc
      rw [splitG]
      split
      · have := ih []
        simp only [Lib.lens, List.map_cons, List.sum_cons, List.length_nil, List.length_cons] at this ⊢
        omega
      · have := ih (acc ++ [b])
        simp only [List.length_append, List.length_cons, List.length_nil] at this ⊢
        omega
  have h := this s []
  rw [List.length_nil, Nat.zero_add] at h
  exact h
theorem turn_len (s : Txt) : (turnT s).length ≤ 2 * s.length + 1 := by
  have h1 := joinC_len 32 (splitC 32 s).reverse
  have h2 := splitC_lens 32 s
  have h3 := splitC_len 32 s
  have h4 : Lib.lens (splitC 32 s).reverse = Lib.lens (splitC 32 s) := by simp [Lib.lens]
  rw [h4, List.length_reverse] at h1
  show (joinC 32 (splitC 32 s).reverse).length ≤ _
  omega
/-- One step of the splitting, as a loop makes it. -/
theorem split_step {c : UInt8} {l acc rest : Txt} {b : UInt8} {L : List Txt} (h : splitC c l = L ++ splitG c acc (b :: rest)) : splitC c l = if b = c then (L ++ [acc]) ++ splitG c [] rest else L ++ splitG c (acc ++ [b]) rest := by
  rw [h, splitG]
  by_cases hb : b = c
  · rw [if_pos hb, if_pos (by simp [hb])]; simp
  · rw [if_neg hb, if_neg (by simp [hb])]
/-- A text laid from the last word to the first. -/
theorem join_snoc (l : List Txt) (x : Txt) (h : l ≠ []) : joinC 32 (l ++ [x]) = joinC 32 l ++ [32] ++ x := by
  rw [← joinC_intercalate, ← joinC_intercalate]
  cases l with
  | nil => exact absurd rfl h
  | cons y r =>
    rw [List.cons_append, Lib.join_cons, Lib.join_cons]
    simp [Lib.joinTail]
end Go.Proofs.YtojpkbonioglbaaGreatDoor
/-
  The walk of param's unsaid.
-/
namespace Go.Proofs.YtojpkbonioglbaaGreatDoor
set_option maxRecDepth 100000
open Go.RowKit
theorem below_row {B g : Nat} {w0 w : World} (hb : Below B w0 w) (hBg : B ≤ g) (cs : Array Value) : Below B w0 (w.setRow g cs) :=
  ⟨hb.os, hb.tape, hb.output, by rw [size_setRow]; exact hb.size, fun k hk => (setRow_other w g k cs (by omega)).trans (hb.block k hk)⟩
theorem left_s (b : Bool) (n : Int) (w : World) : Calls Tryz.prog 202 #[.bool b, .int .i64 n] w fun e w' => e = .returned (.int .i64 (if b then 0 else n)) ∧ w' = w := (left_x b n w).mono fun _ _ h => ⟨h.1, h.2.symm⟩
set_option maxHeartbeats 8000000 in
theorem unsaid_x (m : ML) (w : World) : Calls Tryz.prog 183 #[.agg #[.bool m.hs, .bool m.hf, .bool m.hu, .bool m.hb, .bool m.hp, .int .i64 m.sz, .int .i64 m.fo, .int .i64 m.un, .int .i64 m.by_, .int .i64 m.pr, .string (mkS m.body), .string (mkS m.ret), .string (mkS m.env), .string (mkS m.mode)]] w fun e w' => e = .returned (.agg #[.bool false, .bool false, .bool false, .bool false, .bool false, .int .i64 (if m.hs then 0 else m.sz), .int .i64 (if m.hf then 0 else m.fo), .int .i64 (if m.hu then 0 else m.un), .int .i64 (if m.hb then 0 else m.by_), .int .i64 (if m.hp then 0 else m.pr), .string { data := #[] }, .string { data := #[] }, .string { data := #[] }, .string { data := #[] }]) ∧ Below w.heap.size w w' := by
  have k0 := old_alloc (o := .cells #[.bool false, .bool false, .bool false, .bool false, .bool false, .int .i64 0, .int .i64 0, .int .i64 0, .int .i64 0, .int .i64 0, .string { data := #[] }, .string { data := #[] }, .string { data := #[] }, .string { data := #[] }] 31) (newOf w (.cells #[.bool m.hs, .bool m.hf, .bool m.hu, .bool m.hb, .bool m.hp, .int .i64 m.sz, .int .i64 m.fo, .int .i64 m.un, .int .i64 m.by_, .int .i64 m.pr, .string (mkS m.body), .string (mkS m.ret), .string (mkS m.env), .string (mkS m.mode)] 31))
  have k1 := new_alloc (w := w.alloc (.cells #[.bool m.hs, .bool m.hf, .bool m.hu, .bool m.hb, .bool m.hp, .int .i64 m.sz, .int .i64 m.fo, .int .i64 m.un, .int .i64 m.by_, .int .i64 m.pr, .string (mkS m.body), .string (mkS m.ret), .string (mkS m.env), .string (mkS m.mode)] 31)) (n := w.heap.size + 1) (.cells #[.bool false, .bool false, .bool false, .bool false, .bool false, .int .i64 0, .int .i64 0, .int .i64 0, .int .i64 0, .int .i64 0, .string { data := #[] }, .string { data := #[] }, .string { data := #[] }, .string { data := #[] }] 31) (by simp)
  have kB : Below w.heap.size w ((w.alloc (.cells #[.bool m.hs, .bool m.hf, .bool m.hu, .bool m.hb, .bool m.hp, .int .i64 m.sz, .int .i64 m.fo, .int .i64 m.un, .int .i64 m.by_, .int .i64 m.pr, .string (mkS m.body), .string (mkS m.ret), .string (mkS m.env), .string (mkS m.mode)] 31)).alloc (.cells #[.bool false, .bool false, .bool false, .bool false, .bool false, .int .i64 0, .int .i64 0, .int .i64 0, .int .i64 0, .int .i64 0, .string { data := #[] }, .string { data := #[] }, .string { data := #[] }, .string { data := #[] }] 31)) := ((Below.refl _ w).alloc (Nat.le_refl _) _).alloc (by simp) _
  have H := Lib.hid (And.intro (MBox.mk (W := w) k0 kB) k1)
  have L1 := Lib.hid (fun w => left_s m.hs m.sz w)
  have L2 := Lib.hid (fun w => left_s m.hf m.fo w)
  have L3 := Lib.hid (fun w => left_s m.hu m.un w)
  have L4 := Lib.hid (fun w => left_s m.hb m.by_ w)
  have L5 := Lib.hid (fun w => left_s m.hp m.pr w)
  generalize (if m.hs then (0 : Int) else m.sz) = u1 at L1 ⊢
  generalize (if m.hf then (0 : Int) else m.fo) = u2 at L2 ⊢
  generalize (if m.hu then (0 : Int) else m.un) = u3 at L3 ⊢
  generalize (if m.hb then (0 : Int) else m.by_) = u4 at L4 ⊢
  generalize (if m.hp then (0 : Int) else m.pr) = u5 at L5 ⊢
  go_enter Tryz.func183, Tryz.ntmps183
  go_wp2_with fail
  clear k1
  obtain ⟨hM, k1⟩ := H.out
  clear H k0 kB
  generalize (w.alloc (.cells #[.bool m.hs, .bool m.hf, .bool m.hu, .bool m.hb, .bool m.hp, .int .i64 m.sz, .int .i64 m.fo, .int .i64 m.un, .int .i64 m.by_, .int .i64 m.pr, .string (mkS m.body), .string (mkS m.ret), .string (mkS m.env), .string (mkS m.mode)] 31)).alloc (.cells #[.bool false, .bool false, .bool false, .bool false, .bool false, .int .i64 0, .int .i64 0, .int .i64 0, .int .i64 0, .int .i64 0, .string { data := #[] }, .string { data := #[] }, .string { data := #[] }, .string { data := #[] }] 31) = W0 at hM k1 ⊢
  refine wp_region_still_tail 35 (by kernel_rfl) (by kernel_rfl) ?_
  simp only [List.take_succ_cons, List.take_zero, List.drop_succ_cons, List.drop_zero]
  have hM1 : MBox w w.heap.size m { W0 with drawn := W0.drawn + 1 } := hM.drew
  have k1' : ({ W0 with drawn := W0.drawn + 1 } : World).heap[w.heap.size + 1]? = _ := k1
  clear hM k1
  generalize ({ W0 with drawn := W0.drawn + 1 } : World) = w1 at hM1 k1' ⊢
  have HK := Lib.hid k1'
  have c0 := hM1.c0
  have c5 := hM1.c5
  have c1 := hM1.c1
  have c6 := hM1.c6
  have c2 := hM1.c2
  have c7 := hM1.c7
  have c3 := hM1.c3
  have c8 := hM1.c8
  have c4 := hM1.c4
  have c9 := hM1.c9
  have hne : w.heap.size + 1 ≠ w.heap.size := by omega
  have HM := Lib.hid hM1
  clear hM1 k1'
  repeat still_step
  still_call (L1.out _)
  repeat still_step
  still_call (L2.out _)
  repeat still_step
  still_call (L3.out _)
  repeat still_step
  still_call (L4.out _)
  repeat still_step
  still_call (L5.out _)
  repeat still_step
  refine wpStill_nil ?_
  clear c0 c1 c2 c3 c4 c5 c6 c7 c8 c9
  have HT := Lib.hid (And.intro (below_row HM.out.below (show w.heap.size ≤ w.heap.size + 1 from Nat.le_succ _) #[.bool false, .bool false, .bool false, .bool false, .bool false, .int .i64 u1, .int .i64 u2, .int .i64 u3, .int .i64 u4, .int .i64 u5, .string { data := #[] }, .string { data := #[] }, .string { data := #[] }, .string { data := #[] }]) (setRow_heap w1 (w.heap.size + 1) _ #[.bool false, .bool false, .bool false, .bool false, .bool false, .int .i64 u1, .int .i64 u2, .int .i64 u3, .int .i64 u4, .int .i64 u5, .string { data := #[] }, .string { data := #[] }, .string { data := #[] }, .string { data := #[] }] _ _ HK.out))
  have k1 := HK.out
  refine wpList_plain rfl (fun K hK => ?_)
  go_simp
  refine hK _ _ ?_
  clear hK K
  refine wpList_store_row rfl 31 (.tmp 2) (.tmp 39) rfl (w.heap.size + 1) #[.bool false, .bool false, .bool false, .bool false, .bool false, .int .i64 u1, .int .i64 u2, .int .i64 u3, .int .i64 u4, .int .i64 u5, .string { data := #[] }, .string { data := #[] }, .string { data := #[] }, .string { data := #[] }] (by rfl) (by rfl) 31 _ k1 (by kernel_rfl) (by rfl) (by simp [Value.oneCell']) ?_
  clear k1 HK
  obtain ⟨hB, hK⟩ := HT.out
  clear HT
  generalize (w1.setRow (w.heap.size + 1) #[.bool false, .bool false, .bool false, .bool false, .bool false, .int .i64 u1, .int .i64 u2, .int .i64 u3, .int .i64 u4, .int .i64 u5, .string { data := #[] }, .string { data := #[] }, .string { data := #[] }, .string { data := #[] }]) = w2 at hB hK ⊢
  have HB := Lib.hid hB
  have a0 := cellOf hK 0
  have a1 := cellOf hK 1
  have a2 := cellOf hK 2
  have a3 := cellOf hK 3
  have a4 := cellOf hK 4
  have a5 := cellOf hK 5
  have a6 := cellOf hK 6
  have a7 := cellOf hK 7
  have a8 := cellOf hK 8
  have a9 := cellOf hK 9
  have a10 := cellOf hK 10
  have a11 := cellOf hK 11
  have a12 := cellOf hK 12
  have a13 := cellOf hK 13
  clear hK hB hne
  go_wp2
  refine bodyPost_ret (v := .agg #[.bool false, .bool false, .bool false, .bool false, .bool false, .int .i64 u1, .int .i64 u2, .int .i64 u3, .int .i64 u4, .int .i64 u5, .string { data := #[] }, .string { data := #[] }, .string { data := #[] }, .string { data := #[] }]) (by simp [results, Tryz.results183, go_sem, a0, a1, a2, a3, a4, a5, a6, a7, a8, a9, a10, a11, a12, a13]) rfl ⟨rfl, HB.out⟩
end Go.Proofs.YtojpkbonioglbaaGreatDoor
/-
  The walk of param's ranged.
-/
namespace Go.Proofs.YtojpkbonioglbaaGreatDoor
set_option maxRecDepth 100000
open Go.RowKit
theorem rightn_s (b : Bool) (n x y : Int) (w : World) : Calls Tryz.prog 203 #[.bool b, .int .i64 n, .int .i64 x, .int .i64 y] w fun e w' => e = .returned (.bool (inB b n x y)) ∧ w' = w := (rightn_x b n x y w).mono fun _ _ h => ⟨h.1, h.2.symm⟩
theorem leastBy_s (l : List UInt8) (w : World) : Calls Tryz.prog 205 #[.string (mkS l)] w fun e w' => e = .returned (.int .i64 (leastV l)) ∧ w' = w := (leastBy_x l w).mono fun _ _ h => ⟨h.1, h.2.symm⟩
set_option maxHeartbeats 8000000 in
theorem ranged_x (m : ML) (w : World) (hR : Ready w) : Calls Tryz.prog 184 #[.agg #[.bool m.hs, .bool m.hf, .bool m.hu, .bool m.hb, .bool m.hp, .int .i64 m.sz, .int .i64 m.fo, .int .i64 m.un, .int .i64 m.by_, .int .i64 m.pr, .string (mkS m.body), .string (mkS m.ret), .string (mkS m.env), .string (mkS m.mode)]] w fun e w' => e = .returned (.bool (rangB m)) ∧ Below w.heap.size w w' := by
  have k0 := newOf w (.cells #[.bool m.hs, .bool m.hf, .bool m.hu, .bool m.hb, .bool m.hp, .int .i64 m.sz, .int .i64 m.fo, .int .i64 m.un, .int .i64 m.by_, .int .i64 m.pr, .string (mkS m.body), .string (mkS m.ret), .string (mkS m.env), .string (mkS m.mode)] 31)
  have kB : Below w.heap.size w (w.alloc (.cells #[.bool m.hs, .bool m.hf, .bool m.hu, .bool m.hb, .bool m.hp, .int .i64 m.sz, .int .i64 m.fo, .int .i64 m.un, .int .i64 m.by_, .int .i64 m.pr, .string (mkS m.body), .string (mkS m.ret), .string (mkS m.env), .string (mkS m.mode)] 31)) := (Below.refl _ w).alloc (Nat.le_refl _) _
  have HM := Lib.hid (MBox.mk (W := w) k0 kB)
  have HP := Lib.hid (fun w' (h : Ready w') => print_x m.un w' h)
  have HR := Lib.hid (hR.below kB)
  have HV := Lib.hid (show rangB m = (inB m.hs m.sz 0 999999999 && inB m.hf m.fo 1 1048576 && (!m.hu || printE m.un == 0) && inB m.hb m.by_ (leastV m.mode) 999999999 && inB m.hp m.pr (-9) 9) from rfl)
  have R1 := Lib.hid (fun w => rightn_s m.hs m.sz 0 999999999 w)
  have R2 := Lib.hid (fun w => rightn_s m.hf m.fo 1 1048576 w)
  have R4 := Lib.hid (fun w => rightn_s m.hb m.by_ (leastV m.mode) 999999999 w)
  have R5 := Lib.hid (fun w => rightn_s m.hp m.pr (-9) 9 w)
  have RL := Lib.hid (fun w => leastBy_s m.mode w)
  generalize inB m.hs m.sz 0 999999999 = q1 at R1 HV
  generalize inB m.hf m.fo 1 1048576 = q2 at R2 HV
  generalize inB m.hb m.by_ (leastV m.mode) 999999999 = q4 at R4 HV
  generalize inB m.hp m.pr (-9) 9 = q5 at R5 HV
  generalize leastV m.mode = lv at R4 RL
  unfold PrintPost at HP
  generalize printS m.un = ps at HP
  generalize printE m.un = pe at HP HV
  clear k0 kB hR
  go_enter Tryz.func184, Tryz.ntmps184
  go_wp2_with fail
  have k3 := HM.out.c7
  go_wp2_with fail
  generalize w.alloc (.cells #[.bool m.hs, .bool m.hf, .bool m.hu, .bool m.hb, .bool m.hp, .int .i64 m.sz, .int .i64 m.fo, .int .i64 m.un, .int .i64 m.by_, .int .i64 m.pr, .string (mkS m.body), .string (mkS m.ret), .string (mkS m.env), .string (mkS m.mode)] 31) = W0 at HM HR k3 ⊢
  refine (HP.out _ HR.out).mono ?_
  rintro e w1 ⟨rfl, hb⟩
  clear k3 HP
  have H1 := Lib.hid (HM.out.next hb)
  clear hb HM HR
  go_wp2_with fail
  have c0 := H1.out.c0
  have c5 := H1.out.c5
  have c1 := H1.out.c1
  have c6 := H1.out.c6
  have c2 := H1.out.c2
  have c3 := H1.out.c3
  have c8 := H1.out.c8
  have c13 := H1.out.c13
  have c4 := H1.out.c4
  have c9 := H1.out.c9
  generalize hhu : m.hu = hu at c2 HV
  have HB := Lib.hid H1.out.below
  clear H1 hhu
  cases q1
  · go_quiet ((first
          | (go_at_call 205; exact Calls.quiet_of_same (RL.out _))
          | (go_at_call 203; first | (with_reducible exact Calls.quiet_of_same (R1.out _)) | (with_reducible exact Calls.quiet_of_same (R2.out _)) | (with_reducible exact Calls.quiet_of_same (R4.out _)) | (with_reducible exact Calls.quiet_of_same (R5.out _)))))
    go_wp2_with fail
    go_ret
    exact ⟨ret_bool (by rw [HV.out]; simp), below_drewN HB.out _⟩
  · cases q2
    · go_quiet ((first
            | (go_at_call 205; exact Calls.quiet_of_same (RL.out _))
            | (go_at_call 203; first | (with_reducible exact Calls.quiet_of_same (R1.out _)) | (with_reducible exact Calls.quiet_of_same (R2.out _)) | (with_reducible exact Calls.quiet_of_same (R4.out _)) | (with_reducible exact Calls.quiet_of_same (R5.out _)))))
      go_wp2_with fail
      go_ret
      exact ⟨ret_bool (by rw [HV.out]; simp), below_drewN HB.out _⟩
    · cases hu
      · cases q4
        · go_quiet ((first
                | (go_at_call 205; exact Calls.quiet_of_same (RL.out _))
                | (go_at_call 203; first | (with_reducible exact Calls.quiet_of_same (R1.out _)) | (with_reducible exact Calls.quiet_of_same (R2.out _)) | (with_reducible exact Calls.quiet_of_same (R4.out _)) | (with_reducible exact Calls.quiet_of_same (R5.out _)))))
          go_wp2_with fail
          go_ret
          exact ⟨ret_bool (by rw [HV.out]; simp), below_drewN HB.out _⟩
        · go_quiet ((first
                | (go_at_call 205; exact Calls.quiet_of_same (RL.out _))
                | (go_at_call 203; first | (with_reducible exact Calls.quiet_of_same (R1.out _)) | (with_reducible exact Calls.quiet_of_same (R2.out _)) | (with_reducible exact Calls.quiet_of_same (R4.out _)) | (with_reducible exact Calls.quiet_of_same (R5.out _)))))
          go_wp2_with fail
          go_ret
          exact ⟨ret_bool (by rw [HV.out]; simp), below_drewN HB.out _⟩
      · by_cases hpe : pe = 0
        · subst hpe
          cases q4
          · go_quiet ((first
                  | (go_at_call 205; exact Calls.quiet_of_same (RL.out _))
                  | (go_at_call 203; first | (with_reducible exact Calls.quiet_of_same (R1.out _)) | (with_reducible exact Calls.quiet_of_same (R2.out _)) | (with_reducible exact Calls.quiet_of_same (R4.out _)) | (with_reducible exact Calls.quiet_of_same (R5.out _)))))
            go_wp2_with fail
            go_ret
            exact ⟨ret_bool (by rw [HV.out]; simp), below_drewN HB.out _⟩
          · go_quiet ((first
                  | (go_at_call 205; exact Calls.quiet_of_same (RL.out _))
                  | (go_at_call 203; first | (with_reducible exact Calls.quiet_of_same (R1.out _)) | (with_reducible exact Calls.quiet_of_same (R2.out _)) | (with_reducible exact Calls.quiet_of_same (R4.out _)) | (with_reducible exact Calls.quiet_of_same (R5.out _)))))
            go_wp2_with fail
            go_ret
            exact ⟨ret_bool (by rw [HV.out]; simp), below_drewN HB.out _⟩
        · have hpf : (pe == 0) = false := by simp [hpe]
          have HPF := Lib.hid hpf
          go_quiet ((first
                | (go_at_call 205; exact Calls.quiet_of_same (RL.out _))
                | (go_at_call 203; first | (with_reducible exact Calls.quiet_of_same (R1.out _)) | (with_reducible exact Calls.quiet_of_same (R2.out _)) | (with_reducible exact Calls.quiet_of_same (R4.out _)) | (with_reducible exact Calls.quiet_of_same (R5.out _)))))
          go_wp2_with fail
          go_ret
          exact ⟨ret_bool (by rw [HV.out, HPF.out]; simp), below_drewN HB.out _⟩
end Go.Proofs.YtojpkbonioglbaaGreatDoor
/-
  The walk of param's RightMail.
-/
namespace Go.Proofs.YtojpkbonioglbaaGreatDoor
set_option maxRecDepth 100000
open Go.RowKit
theorem eqUn (m : ML) (w : World) : (Op.equalIn 10000 31 (.agg #[.bool false, .bool false, .bool false, .bool false, .bool false, .int .i64 (if m.hs then 0 else m.sz), .int .i64 (if m.hf then 0 else m.fo), .int .i64 (if m.hu then 0 else m.un), .int .i64 (if m.hb then 0 else m.by_), .int .i64 (if m.hp then 0 else m.pr), .string { data := #[] }, .string { data := #[] }, .string { data := #[] }, .string { data := #[] }]) (.agg #[.bool false, .bool false, .bool false, .bool false, .bool false, .int .i64 0, .int .i64 0, .int .i64 0, .int .i64 0, .int .i64 0, .string { data := #[] }, .string { data := #[] }, .string { data := #[] }, .string { data := #[] }])).run Tryz.prog w = .ok (unB m) w := by
  have h := eqMail (unV m) zeroM w
  rw [unV_zero] at h
  exact h
set_option maxHeartbeats 8000000 in
theorem rightM_x (m : ML) (w : World) (hR : Ready w) : Calls Tryz.prog 169 #[.agg #[.bool m.hs, .bool m.hf, .bool m.hu, .bool m.hb, .bool m.hp, .int .i64 m.sz, .int .i64 m.fo, .int .i64 m.un, .int .i64 m.by_, .int .i64 m.pr, .string (mkS m.body), .string (mkS m.ret), .string (mkS m.env), .string (mkS m.mode)]] w fun e w' => e = .returned (.int .i64 (rightM m)) ∧ Below w.heap.size w w' := by
  have k0 := newOf w (.cells #[.bool m.hs, .bool m.hf, .bool m.hu, .bool m.hb, .bool m.hp, .int .i64 m.sz, .int .i64 m.fo, .int .i64 m.un, .int .i64 m.by_, .int .i64 m.pr, .string (mkS m.body), .string (mkS m.ret), .string (mkS m.env), .string (mkS m.mode)] 31)
  have kB : Below w.heap.size w (w.alloc (.cells #[.bool m.hs, .bool m.hf, .bool m.hu, .bool m.hb, .bool m.hp, .int .i64 m.sz, .int .i64 m.fo, .int .i64 m.un, .int .i64 m.by_, .int .i64 m.pr, .string (mkS m.body), .string (mkS m.ret), .string (mkS m.env), .string (mkS m.mode)] 31)) := (Below.refl _ w).alloc (Nat.le_refl _) _
  have H0 := Lib.hid (MBox.mk (W := w) k0 kB)
  have HRb := Lib.hid (fun w' (h : MBox w w.heap.size m w') => hR.below h.below)
  have HV := Lib.hid (show rightM m = if (namedB m && unB m) = false then 2 else if rangB m = false then 1 else if 100 < m.env.length then 3 else if (m.hf && m.hu) = true then 9 else 0 from rfl)
  have N := Lib.hid (fun w => named_x m w)
  have U := Lib.hid (fun w => unsaid_x m w)
  have G := Lib.hid (fun w (h : Ready w) => ranged_x m w h)
  have T := Lib.hid (fun w => held_x m w)
  have he := eqUn m
  have hsz := mkS_size m.env
  generalize (if m.hs then (0 : Int) else m.sz) = u1 at U he
  generalize (if m.hf then (0 : Int) else m.fo) = u2 at U he
  generalize (if m.hu then (0 : Int) else m.un) = u3 at U he
  generalize (if m.hb then (0 : Int) else m.by_) = u4 at U he
  generalize (if m.hp then (0 : Int) else m.pr) = u5 at U he
  generalize namedB m = q1 at N HV
  generalize unB m = q2 at he HV
  generalize rangB m = q3 at G HV
  generalize (m.hf && m.hu) = q4 at T HV
  clear k0 kB hR
  go_enter Tryz.func169, Tryz.ntmps169
  go_wp2_with fail
  have c0 := H0.out.c0
  have c1 := H0.out.c1
  have c2 := H0.out.c2
  have c3 := H0.out.c3
  have c4 := H0.out.c4
  have c5 := H0.out.c5
  have c6 := H0.out.c6
  have c7 := H0.out.c7
  have c8 := H0.out.c8
  have c9 := H0.out.c9
  have c10 := H0.out.c10
  have c11 := H0.out.c11
  have c12 := H0.out.c12
  have c13 := H0.out.c13
  go_wp2_with fail
  clear c0 c1 c2 c3 c4 c5 c6 c7 c8 c9 c10 c11 c12 c13
  generalize w.alloc (.cells #[.bool m.hs, .bool m.hf, .bool m.hu, .bool m.hb, .bool m.hp, .int .i64 m.sz, .int .i64 m.fo, .int .i64 m.un, .int .i64 m.by_, .int .i64 m.pr, .string (mkS m.body), .string (mkS m.ret), .string (mkS m.env), .string (mkS m.mode)] 31) = W0 at H0 ⊢
  refine (N.out _).mono ?_
  rintro e w1 ⟨rfl, hb⟩
  have H1 := Lib.hid (H0.out.next hb)
  clear hb H0
  cases q1
  · go_wp2_with fail
    go_ret
    exact ⟨ret_int (by rw [HV.out]; simp), H1.out.below⟩
  · have _u := trivial
    have c0 := H1.out.c0
    have c1 := H1.out.c1
    have c2 := H1.out.c2
    have c3 := H1.out.c3
    have c4 := H1.out.c4
    have c5 := H1.out.c5
    have c6 := H1.out.c6
    have c7 := H1.out.c7
    have c8 := H1.out.c8
    have c9 := H1.out.c9
    have c10 := H1.out.c10
    have c11 := H1.out.c11
    have c12 := H1.out.c12
    have c13 := H1.out.c13
    go_wp2_with fail
    clear c0 c1 c2 c3 c4 c5 c6 c7 c8 c9 c10 c11 c12 c13
    refine (U.out _).mono ?_
    rintro e w2 ⟨rfl, hb⟩
    have H2 := Lib.hid (H1.out.next hb)
    clear hb H1
    cases q2
    · go_wp2_with fail
      go_ret
      exact ⟨ret_int (by rw [HV.out]; simp), H2.out.below⟩
    · have _u := trivial
      have c0 := H2.out.c0
      have c1 := H2.out.c1
      have c2 := H2.out.c2
      have c3 := H2.out.c3
      have c4 := H2.out.c4
      have c5 := H2.out.c5
      have c6 := H2.out.c6
      have c7 := H2.out.c7
      have c8 := H2.out.c8
      have c9 := H2.out.c9
      have c10 := H2.out.c10
      have c11 := H2.out.c11
      have c12 := H2.out.c12
      have c13 := H2.out.c13
      go_wp2_with fail
      clear c0 c1 c2 c3 c4 c5 c6 c7 c8 c9 c10 c11 c12 c13
      refine (G.out _ (HRb.out _ H2.out)).mono ?_
      rintro e w3 ⟨rfl, hb⟩
      have H3 := Lib.hid (H2.out.next hb)
      clear hb H2
      cases q3
      · go_wp2_with fail
        go_ret
        exact ⟨ret_int (by rw [HV.out]; simp), H3.out.below⟩
      · by_cases hl : 100 < m.env.length
        · have hlI : (100 : Int) < (m.env.length : Int) := by omega
          have c0 := H3.out.c0
          have c1 := H3.out.c1
          have c2 := H3.out.c2
          have c3 := H3.out.c3
          have c4 := H3.out.c4
          have c5 := H3.out.c5
          have c6 := H3.out.c6
          have c7 := H3.out.c7
          have c8 := H3.out.c8
          have c9 := H3.out.c9
          have c10 := H3.out.c10
          have c11 := H3.out.c11
          have c12 := H3.out.c12
          have c13 := H3.out.c13
          go_wp2_with fail
          go_ret
          exact ⟨ret_int (by rw [HV.out]; simp [hl]), H3.out.below⟩
        · have hlI : ¬ (100 : Int) < (m.env.length : Int) := by omega
          have c0 := H3.out.c0
          have c1 := H3.out.c1
          have c2 := H3.out.c2
          have c3 := H3.out.c3
          have c4 := H3.out.c4
          have c5 := H3.out.c5
          have c6 := H3.out.c6
          have c7 := H3.out.c7
          have c8 := H3.out.c8
          have c9 := H3.out.c9
          have c10 := H3.out.c10
          have c11 := H3.out.c11
          have c12 := H3.out.c12
          have c13 := H3.out.c13
          go_wp2_with fail
          clear c0 c1 c2 c3 c4 c5 c6 c7 c8 c9 c10 c11 c12 c13
          refine (T.out _).mono ?_
          rintro e w4 ⟨rfl, hb⟩
          have H4 := Lib.hid (H3.out.next hb)
          clear hb H3
          cases q4
          · go_wp2_with fail
            go_ret
            exact ⟨ret_int (by rw [HV.out]; simp [hl]), H4.out.below⟩
          · go_wp2_with fail
            go_ret
            exact ⟨ret_int (by rw [HV.out]; simp [hl]), H4.out.below⟩
end Go.Proofs.YtojpkbonioglbaaGreatDoor
/-
  Rows of texts of the call's own, and strings.Join walked.
-/
namespace Go.Proofs.YtojpkbonioglbaaGreatDoor
set_option maxRecDepth 100000
open Go.RowKit Go.Shelf
set_option maxHeartbeats 4000000 in
theorem join_many (bk o cp : Nat) (xs : List Txt) (sp : Txt) (w : World)
    (hcells : ∀ (j : Nat) x, xs[j]? = some x → w.cell? ⟨bk, o + j, none⟩ = some (.string (mkS x)))
    (hbk : bk < w.heap.size) (h2 : 2 ≤ xs.length) (hN : xs.length ≤ 1000000) (hcap : xs.length ≤ cp) (hlen : (Lib.join xs sp).length ≤ 10000000000) :
    Calls Tryz.prog 77 #[.slice (some ⟨bk, o, none⟩) xs.length cp, .string (mkS sp)] w fun e w' => e = .returned (.string (mkS (Lib.join xs sp))) ∧ Below w.heap.size w w' := by
  have HC := Lib.hid hcells
  clear hcells
  obtain ⟨x0, r, hxs⟩ : ∃ x0 r, xs = x0 :: r := by
    cases xs with
    | nil => simp at h2
    | cons a t => exact ⟨a, t, rfl⟩
  have hsz := mkS_size sp
  have hjl : sp.length * (xs.length - 1) + Lib.lens xs ≤ 10000000000 := by
    have := Lib.join_length x0 r sp
    rw [hxs] at hlen ⊢
    rw [this] at hlen
    rw [List.length_cons, Nat.add_sub_cancel]
    exact hlen
  have hmul : sp.length * (xs.length - 1) ≤ 10000000000 := by omega
  generalize hM : sp.length * (xs.length - 1) = M at hjl hmul
  have hcast : ((xs.length : Int) - 1) = ((xs.length - 1 : Nat) : Int) := by omega
  have hlt : sp.length < 9223372036854775807 / (xs.length - 1) := by
    have : sp.length + 1 ≤ 9223372036854775807 / (xs.length - 1) := by
      rw [Nat.le_div_iff_mul_le (by omega), Nat.add_mul, hM]
      omega
    omega
  have hdv : ¬ (9223372036854775807 / ((xs.length : Int) - 1) ≤ (sp.length : Int)) := by
    have e : (9223372036854775807 : Int) / ((xs.length - 1 : Nat) : Int) = ((9223372036854775807 / (xs.length - 1) : Nat) : Int) := IntWalk.up_div (x := 9223372036854775807) rfl rfl
    rw [hcast, e]
    generalize 9223372036854775807 / (xs.length - 1) = q at hlt
    omega
  have hprod : wrap64 ((sp.length : Int) * ((xs.length : Int) - 1)) = (M : Int) := by
    have e : (sp.length : Int) * ((xs.length - 1 : Nat) : Int) = ((sp.length * (xs.length - 1) : Nat) : Int) := IntWalk.up_mul rfl rfl
    rw [hcast, e, hM]
    exact IntWalk.wrap64_in _ ⟨by omega, by omega⟩
  have hM0 : sp.length = 0 → M = 0 := fun h => by rw [← hM, h, Nat.zero_mul]
  clear hlt hcast
  have hne0 : ((xs.length : Int) == 0) = false := beq_eq_false_iff_ne.2 (by omega)
  have hne1 : ((xs.length : Int) == 1) = false := beq_eq_false_iff_ne.2 (by omega)
  have Hxs := Lib.hid hxs
  have Hlen := Lib.hid hlen
  clear hxs hlen
  go_enter Tryz.func77, Tryz.ntmps77
  go_wp2_with fail
  all_goals (
    go_loop [5, 41] (fun n i => ∃ k : Nat, k ≤ xs.length ∧ i = .int .i64 k ∧ n = .int .i64 ((M + Lib.lens (xs.take k) : Nat) : Int)) (fun _ i => xs.length - (intOf i).toNat)
    case atStart => exact ⟨0, Nat.zero_le _, rfl, by first | (simp [Lib.lens]; done) | (have := hM0 (by omega); simp [Lib.lens, this])⟩
    case round =>
      obtain ⟨k, hk, rfl, rfl⟩ := hrel
      by_cases hkn : k < xs.length
      · obtain ⟨x, hx⟩ : ∃ x, xs[k]? = some x := ⟨xs[k], List.getElem?_eq_getElem hkn⟩
        have hc := HC.out k x hx
        have hxz := mkS_size x
        have hstep := Lib.lens_take_succ xs k x hx
        have hbound : Lib.lens (xs.take (k + 1)) ≤ Lib.lens xs := Lib.lens_take_le _ _
        generalize hA1 : Lib.lens (xs.take (k + 1)) = A1 at hstep hbound
        generalize Lib.lens (xs.take k) = A0 at hstep
        have HA1 := Lib.hid hA1
        clear hA1
        go_wp2
        exact ⟨⟨k + 1, by omega, by go_num, by rw [HA1.out]; refine congrArg _ ?_; omega⟩, by simp [intOf]; omega⟩
      · have hke : k = xs.length := by omega
        subst hke
        have hall : xs.take xs.length = xs := List.take_of_length_le (by simp)
        rw [hall]
        generalize hT : Lib.lens xs = T at hjl
        have HT := Lib.hid hT
        clear hT hall
        go_wp2_with fail
        have hMT : ((M : Int) + (T : Int)) = ((M + T : Nat) : Int) := by omega
        rw [hMT]
        refine (bld_grow w (M + T) (by omega)).mono ?_
        rintro e w1 ⟨rfl, h1, hb1⟩
        have hx0 : xs[0]? = some x0 := by rw [Hxs.out]; rfl
        have hc0 : w1.cell? ⟨bk, o, none⟩ = some (.string (mkS x0)) := by
          rw [hb1.cell (p := ⟨bk, o, none⟩) hbk]
          exact HC.out 0 x0 hx0
        have H1 := Lib.hid h1
        have Hb1 := Lib.hid hb1
        clear h1 hb1 hMT
        have hwhole : Lib.join xs sp = x0 ++ Lib.joinTail sp r := by
          rw [Hxs.out, Lib.join_cons]
        have hCle : ∀ k, (x0 ++ Lib.joinTail sp (r.take k)).length ≤ 10000000000 := fun k => by
          have h1 := Hlen.out
          rw [hwhole, List.length_append] at h1
          have h2 := Lib.joinTail_take_le sp r k
          rw [List.length_append]
          omega
        have HCle := Lib.hid hCle
        have Hwhole := Lib.hid hwhole
        clear hCle hwhole
        go_wp2_with fail
        refine (bld_str H1.out x0 (by have := HCle.out 0; simp [Lib.joinTail] at this ⊢; omega)).mono ?_
        rintro e w2 ⟨rfl, h2', hb2⟩
        have hstart : [] ++ x0 = x0 ++ Lib.joinTail sp (r.take 0) := by simp [Lib.joinTail]
        rw [hstart] at h2'
        have H2 := Lib.hid h2'
        have Hb2 := Lib.hid (Hb1.out.trans hb2)
        clear h2' hb2 hstart
        have hrl : r.length = xs.length - 1 := by rw [Hxs.out]; simp
        go_wp2_with fail
        go_loopw [65] (fun i wr => ∃ k : Nat, k ≤ r.length ∧ i = .int .i64 k ∧ Hid (Bld w.heap.size (x0 ++ Lib.joinTail sp (r.take k)) wr) ∧ Hid (Below w.heap.size w wr)) (fun i _ => r.length - (intOf i).toNat)
        case atStart => exact ⟨0, Nat.zero_le _, rfl, H2, Hb2⟩
        case round =>
          obtain ⟨k, hk', rfl, HB, HW⟩ := hrel
          by_cases hkr : k < r.length
          · obtain ⟨y, hy⟩ : ∃ y, r[k]? = some y := ⟨r[k], List.getElem?_eq_getElem hkr⟩
            have hxy : xs[k + 1]? = some y := by rw [Hxs.out]; simpa using hy
            have hcy : wr.cell? ⟨bk, o + 1 + k, none⟩ = some (.string (mkS y)) := by
              rw [HW.out.cell (p := ⟨bk, o + 1 + k, none⟩) hbk, show o + 1 + k = o + (k + 1) by omega]
              exact HC.out (k + 1) y hxy
            have hnext : x0 ++ Lib.joinTail sp (r.take k) ++ sp ++ y = x0 ++ Lib.joinTail sp (r.take (k + 1)) := by
              rw [Lib.joinTail_take_succ sp r k y hy]; simp
            have hl1 := HCle.out (k + 1)
            rw [← hnext, List.length_append, List.length_append] at hl1
            have Hn := Lib.hid hnext
            have Hl := Lib.hid hl1
            clear hnext hy hxy hl1
            go_wp2_with fail
            refine (bld_str HB.out sp (by have := Hl.out; omega)).mono ?_
            rintro e w3 ⟨rfl, h3, hb3⟩
            have H3 := Lib.hid h3
            have Hb3 := Lib.hid hb3
            clear h3 hb3
            go_wp2_with fail
            refine (bld_str H3.out y (by have := Hl.out; rw [List.length_append]; omega)).mono ?_
            rintro e w4 ⟨rfl, h4, hb4⟩
            rw [Hn.out] at h4
            have H4 := Lib.hid h4
            have Hb4 := Lib.hid ((HW.out.trans Hb3.out).trans hb4)
            clear h4 hb4
            go_wp2
            exact ⟨⟨k + 1, by omega, by go_num, H4, Hb4⟩, by simp [intOf]; omega⟩
          · have hke : k = r.length := by omega
            subst hke
            have hfull : r.take r.length = r := List.take_of_length_le (by simp)
            have hB' := HB.out
            rw [hfull, ← Hwhole.out] at hB'
            have HB2 := Lib.hid hB'
            clear hB' hfull
            go_wp2_with fail
            refine (bld_string HB2.out).mono ?_
            rintro e w5 ⟨rfl, _, hb5⟩
            have Hb5 := Lib.hid (HW.out.trans hb5)
            clear hb5
            go_wp2
            go_ret
            exact ⟨rfl, Hb5.out⟩)
theorem join_none (a : Option Addr) (c : Nat) (sp : Txt) (w : World) : Calls Tryz.prog 77 #[.slice a 0 c, .string (mkS sp)] w fun e w' => e = .returned (.string { data := #[] }) ∧ w = w' := by
  go_enter Tryz.func77, Tryz.ntmps77
  go_wp2
  go_ret
  exact ⟨rfl, rfl⟩
theorem join_one (bk o c : Nat) (x sp : Txt) (w : World) (hc : w.cell? ⟨bk, o, none⟩ = some (.string (mkS x))) : Calls Tryz.prog 77 #[.slice (some ⟨bk, o, none⟩) 1 c, .string (mkS sp)] w fun e w' => e = .returned (.string (mkS x)) ∧ w = w' := by
  go_enter Tryz.func77, Tryz.ntmps77
  go_wp2
  go_ret
  exact ⟨rfl, rfl⟩
/-- Texts as the model's cells. -/
def strsV (l : List Txt) : List Value := l.map fun s => .string (mkS s)
theorem strsV_length (l : List Txt) : (strsV l).length = l.length := by simp [strsV]
theorem strsV_append (l m : List Txt) : strsV (l ++ m) = strsV l ++ strsV m := by simp [strsV]
theorem Tryz.infoT : (Tryz.prog.info? 9).map (fun i => (i.zero, i.size, i.bytes)) = some (some (.string { data := #[] }), 1, 16) := by kernel_rfl
theorem join_x (c : UInt8) (B : Nat) (v : Value) (l : List Txt) (w : World) (h : w.ownsRow B 9 1 v l.length (strsV l)) (hN : l.length ≤ 1000) (hs : Lib.lens l ≤ 1000000000) :
    Calls Tryz.prog 77 #[v, .string { data := #[c] }] w fun e w' => e = .returned (.string (mkS (joinC c l))) ∧ Below w.heap.size w w' := by
  rw [← joinC_intercalate]
  show Calls Tryz.prog 77 #[v, .string (mkS [c])] w _
  rcases Joins.ownsRow_forms h with ⟨rfl, h0⟩ | ⟨g, cap, rfl⟩
  · have e : l = [] := List.eq_nil_of_length_eq_zero h0
    subst e
    exact (join_none none 0 [c] w).mono fun _ _ ⟨he, hw⟩ => ⟨he, hw ▸ Below.refl _ _⟩
  · have hc : ∀ (j : Nat) x, l[j]? = some x → w.cell? ⟨g, 0 + j, none⟩ = some (.string (mkS x)) := fun j x hj => by
      have := h.cells rfl j (.string (mkS x)) (by simp [strsV, hj])
      rwa [show (⟨g, 0, none⟩ : Addr).add j = ⟨g, 0 + j, none⟩ by unfold Addr.add; split <;> simp_all] at this
    obtain ⟨hg, hcap⟩ : g < w.heap.size ∧ l.length ≤ cap := by
      rcases h.2 with ⟨hv, _⟩ | ⟨g', cap', cur, hv, _, hg, hcap, _⟩
      · cases hv
      · cases hv
        exact ⟨ltOf hg, hcap⟩
    match l, hN, hs, hc, hcap with
    | [], _, _, _, _ => exact (join_none (some ⟨g, 0, none⟩) cap [c] w).mono fun _ _ ⟨he, hw⟩ => ⟨he, hw ▸ Below.refl _ _⟩
    | [x], _, _, hc, _ => exact (join_one g 0 cap x [c] w (hc 0 x rfl)).mono fun _ _ ⟨he, hw⟩ => ⟨by rw [he, Lib.join_one], hw ▸ Below.refl _ _⟩
    | x :: y :: r, hN, hs, hc, hcap =>
      exact join_many g 0 cap (x :: y :: r) [c] w hc hg (by simp) (by omega) hcap (by
        have := Lib.join_length x (y :: r) [c]
        rw [this]
        simp only [List.length_cons, List.length_nil] at *
        omega)
theorem news_one (w : World) (x : Txt) : ∀ j u, (strsV [x])[j]? = some u → (w.alloc (.cells #[.string (mkS x)] 9)).cell? ((⟨w.heap.size, 0, none⟩ : Addr).add j) = some u := by
  intro j u hj
  match j with
  | 0 => simp [strsV] at hj; subst hj; exact World.cell?_alloc_at _ _ _ _ rfl
  | j + 1 => simp [strsV] at hj
/-- append of one text of a new block onto a row of texts of the call's own. -/
theorem app_strs {w : World} {ops : Array Oper} {rest : List Oper} {o : Oper} {a : Act} {Q : Exit → Act → World → Prop} (hgd : o.guard = none) (s x : Operand)
    (ho : o.op = .call { callee := .builtin .append, args := #[s, x], argTypes := #[22, 22] }) (base : Nat) (v : Value) (l : List Txt) (hs : a.eval s = v) (hown : w.ownsRow base 9 1 v l.length (strsV l))
    (ad : Addr) (m c : Nat) (news : List Txt) (hx : a.eval x = .slice (some ad) m c) (hl : news.length = m) (hnews : ∀ j u, (strsV news)[j]? = some u → w.cell? (ad.add j) = some u) (h9 : l.length + m ≤ 100000000) (hbase : base ≤ w.heap.size)
    (h : ∀ v' w', w'.ownsRow base 9 1 v' (l ++ news).length (strsV (l ++ news)) → w.grownBy w' v.ownBlock → wpList Tryz.prog ops Q rest (a.put o.dst v') w') :
    wpList Tryz.prog ops Q (o :: rest) a w := by
  obtain ⟨i0, hi, hz0, hz1, hz2⟩ := info_parts Tryz.infoT
  refine wpList_append_own_at (w := w) hgd s x 22 ho base 9 i0 (.string { data := #[] }) 1 16 Tryz.underlying22 hi hz0 hz1 hz2 rfl (by decide) v l.length (strsV l) hs hown ad m c (strsV news) hx (by rw [strsV_length]; omega) hnews ?_ (by unfold maxLen; omega) (by omega) hbase ?_
  · intro u hu
    obtain ⟨b, _, rfl⟩ := List.mem_map.1 hu
    rfl
  · intro v' w' h1 h2 _ _
    refine h v' w' ?_ h2
    rw [List.length_append, hl, strsV_append]
    exact h1
/-- The same at a step of a region that draws its order. -/
theorem step_strs {w : World} {ops : Array Oper} {o : Oper} {a : Act} {K : Act → World → Prop} {Q : Exit → Act → World → Prop} {E : Prop} (hgd : o.guard = none) (s x : Operand)
    (ho : o.op = .call { callee := .builtin .append, args := #[s, x], argTypes := #[22, 22] }) (base : Nat) (v : Value) (l : List Txt) (hs : a.eval s = v) (hown : w.ownsRow base 9 1 v l.length (strsV l))
    (ad : Addr) (m c : Nat) (news : List Txt) (hx : a.eval x = .slice (some ad) m c) (hl : news.length = m) (hnews : ∀ j u, (strsV news)[j]? = some u → w.cell? (ad.add j) = some u) (hm : 0 < m) (h9 : l.length + m ≤ 100000000) (hbase : base ≤ w.heap.size)
    (h : ∀ v' w', w'.ownsRow base 9 1 v' (l ++ news).length (strsV (l ++ news)) → w.grownBy w' v.ownBlock → K (a.put o.dst v') w') :
    if Region.wanted o (yielded ops a.tmps) = true then Oper.wp Tryz.prog o a w K Q else E := by
  obtain ⟨i0, hi, hz0, hz1, hz2⟩ := info_parts Tryz.infoT
  refine step_append_lies w hgd s x 22 ho base 9 i0 (.string { data := #[] }) 1 16 Tryz.underlying22 hi hz0 hz1 hz2 rfl (by decide) v l.length (strsV l) hs hown ad m c (strsV news) hx (by rw [strsV_length]; omega) hnews ?_ hm (by unfold maxLen; omega) (by omega) hbase _ rfl ?_
  · intro u hu
    obtain ⟨b, _, rfl⟩ := List.mem_map.1 hu
    rfl
  · intro g cap w' h1 h2 _ _
    refine h _ w' ?_ h2
    rw [List.length_append, hl, strsV_append]
    exact h1
theorem strs_grown {B : Nat} {w0 w w' : World} {v : Value} {l : List Txt} (hB : B ≤ w.heap.size) (hb : Below B w0 w) (hown : w.ownsRow B 9 1 v l.length (strsV l)) {o : Obj} (hg : (w.alloc o).grownBy w' v.ownBlock) : Below B w0 w' :=
  (hb.alloc hB o).grown hg (by simp; omega) (fun k hk => (hown.lt k hk).1)
theorem strs_nil (w : World) (B : Nat) : w.ownsRow B 9 1 (.slice none 0 0) ([] : List Txt).length (strsV []) := ⟨rfl, .inl ⟨rfl, rfl⟩⟩
end Go.Proofs.YtojpkbonioglbaaGreatDoor
/-
  The walk of param's names.
-/
namespace Go.Proofs.YtojpkbonioglbaaGreatDoor
set_option maxRecDepth 100000
open Go.RowKit Go.Shelf
/-- A row of texts of the call's own is a slice. -/
theorem strs_slice {w : World} {B : Nat} {v : Value} {l : List Txt} (h : w.ownsRow B 9 1 v l.length (strsV l)) : ∃ A c, v = .slice A l.length c := by
  rcases Joins.ownsRow_forms h with ⟨rfl, h0⟩ | ⟨g, cap, rfl⟩
  · exact ⟨none, 0, by rw [h0]⟩
  · exact ⟨_, cap, rfl⟩
/-- What the first k notices add. -/
def namesP (l : Txt) (k : Nat) : List Txt := (if 0 < k ∧ l.contains 83 = true then [tSU] else []) ++ (if 1 < k ∧ l.contains 70 = true then [tFA] else []) ++ (if 2 < k ∧ l.contains 68 = true then [tDE] else [])
theorem namesP_len (l : Txt) (k : Nat) : (namesP l k).length ≤ 3 ∧ Lib.lens (namesP l k) ≤ 30 := by
  unfold namesP
  split <;> split <;> split <;> simp [Lib.lens, tSU, tFA, tDE]
theorem namesP_full (l : Txt) : namesP l 3 = namesL l := by unfold namesP namesL; simp
theorem namesP_1 (l : Txt) : namesP l 1 = namesP l 0 ++ (if l.contains 83 = true then [tSU] else []) := by unfold namesP; simp
theorem namesP_2 (l : Txt) : namesP l 2 = namesP l 1 ++ (if l.contains 70 = true then [tFA] else []) := by unfold namesP; simp
theorem namesP_3 (l : Txt) : namesP l 3 = namesP l 2 ++ (if l.contains 68 = true then [tDE] else []) := by unfold namesP; simp
set_option maxHeartbeats 4000000 in
theorem names_x (l : Txt) (w : World) (hN : NotR w) : Calls Tryz.prog 172 #[.string (mkS l)] w fun e w' => e = .returned (.string (mkS (namesV l))) ∧ Below w.heap.size w w' := by
  have hT := mkS_toList l
  by_cases hn : l = [78]
  · have hq : (l == [78]) = true := by rw [hn]; rfl
    have HV := Lib.hid (show namesV l = tNE by rw [namesV, if_pos hn])
    clear hn
    go_enter Tryz.func172, Tryz.ntmps172
    go_wp2_with fail
    go_ret
    exact ⟨by rw [HV.out]; rfl, Below.refl _ _⟩
  · have hq : (l == [78]) = false := beq_eq_false_iff_ne.2 hn
    have HV := Lib.hid (show namesV l = joinC 44 (namesP l 3) by rw [namesV, if_neg hn, namesP_full])
    clear hn
    obtain ⟨c0, c1, c2⟩ := hN
    obtain ⟨x0, x1, x2⟩ := idxR
    have HS := Lib.hid (fun w => contains_x l 83 w)
    have HF := Lib.hid (fun w => contains_x l 70 w)
    have HD := Lib.hid (fun w => contains_x l 68 w)
    go_enter Tryz.func172, Tryz.ntmps172
    go_wp2_with fail
    go_loopw [3, 9] (fun v i wr => ∃ k : Nat, k ≤ 3 ∧ i = .int .i64 k ∧ Hid (wr.ownsRow w.heap.size 9 1 v (namesP l k).length (strsV (namesP l k))) ∧ Hid (Below w.heap.size w wr)) (fun _ i _ => 3 - (intOf i).toNat)
    case atStart => exact ⟨0, Nat.zero_le _, rfl, strs_nil _ _, Below.refl _ _⟩
    case round =>
      obtain ⟨k, hk, rfl, HO, HW⟩ := hrel
      obtain ⟨A, c, rfl⟩ := strs_slice HO.out
      have hkk : k = 0 ∨ k = 1 ∨ k = 2 ∨ k = 3 := by omega
      rcases hkk with rfl | rfl | rfl | rfl
      · have HP := Lib.hid (namesP_1 l)
        have hle := (namesP_len l 0).1
        generalize namesP l 0 = P at HO HP hle ⊢
        cases hc : l.contains 83
        · rw [hc] at HP HS
          clear hc
          go_wp2_with fail
          refine (HS.out _).mono ?_
          rintro e w' ⟨rfl, rfl⟩
          go_wp2_with fail
          go_roundw
          case rel => exact ⟨1, by omega, by go_num, by rw [HP.out]; simpa using HO, HW⟩
          case measure => simp [intOf]
        · rw [hc] at HP HS
          clear hc
          go_wp2_with fail
          refine (HS.out _).mono ?_
          rintro e w' ⟨rfl, rfl⟩
          go_wp2_with (at_builtin; refine app_strs rfl (.tmp 16) (.tmp 18) rfl w.heap.size (.slice A P.length c) P rfl (HO.out.alloc _) ⟨wr.heap.size, 0, none⟩ 1 1 [tSU] rfl rfl ?a1 ?a2 ?a3 ?_)
          case a1 => exact news_one wr tSU
          case a2 => omega
          case a3 => have := HW.out.size; simp; omega
          intro v1 w3 hown hg
          have HO3 := Lib.hid hown
          have HW3 := Lib.hid (strs_grown HW.out.size HW.out HO.out hg)
          clear hown hg
          go_wp2_with fail
          go_roundw
          case rel => exact ⟨1, by omega, by go_num, by rw [HP.out, if_pos trivial, List.length_append]; exact HO3, HW3⟩
          case measure => simp [intOf]
      · have HP := Lib.hid (namesP_2 l)
        have hle := (namesP_len l 1).1
        generalize namesP l 1 = P at HO HP hle ⊢
        cases hc : l.contains 70
        · rw [hc] at HP HF
          clear hc
          go_wp2_with fail
          refine (HF.out _).mono ?_
          rintro e w' ⟨rfl, rfl⟩
          go_wp2_with fail
          go_roundw
          case rel => exact ⟨2, by omega, by go_num, by rw [HP.out]; simpa using HO, HW⟩
          case measure => simp [intOf]
        · rw [hc] at HP HF
          clear hc
          go_wp2_with fail
          refine (HF.out _).mono ?_
          rintro e w' ⟨rfl, rfl⟩
          go_wp2_with (at_builtin; refine app_strs rfl (.tmp 16) (.tmp 18) rfl w.heap.size (.slice A P.length c) P rfl (HO.out.alloc _) ⟨wr.heap.size, 0, none⟩ 1 1 [tFA] rfl rfl ?a1 ?a2 ?a3 ?_)
          case a1 => exact news_one wr tFA
          case a2 => omega
          case a3 => have := HW.out.size; simp; omega
          intro v1 w3 hown hg
          have HO3 := Lib.hid hown
          have HW3 := Lib.hid (strs_grown HW.out.size HW.out HO.out hg)
          clear hown hg
          go_wp2_with fail
          go_roundw
          case rel => exact ⟨2, by omega, by go_num, by rw [HP.out, if_pos trivial, List.length_append]; exact HO3, HW3⟩
          case measure => simp [intOf]
      · have HP := Lib.hid (namesP_3 l)
        have hle := (namesP_len l 2).1
        generalize namesP l 2 = P at HO HP hle ⊢
        cases hc : l.contains 68
        · rw [hc] at HP HD
          clear hc
          go_wp2_with fail
          refine (HD.out _).mono ?_
          rintro e w' ⟨rfl, rfl⟩
          go_wp2_with fail
          go_roundw
          case rel => exact ⟨3, by omega, by go_num, by rw [HP.out]; simpa using HO, HW⟩
          case measure => simp [intOf]
        · rw [hc] at HP HD
          clear hc
          go_wp2_with fail
          refine (HD.out _).mono ?_
          rintro e w' ⟨rfl, rfl⟩
          go_wp2_with (at_builtin; refine app_strs rfl (.tmp 16) (.tmp 18) rfl w.heap.size (.slice A P.length c) P rfl (HO.out.alloc _) ⟨wr.heap.size, 0, none⟩ 1 1 [tDE] rfl rfl ?a1 ?a2 ?a3 ?_)
          case a1 => exact news_one wr tDE
          case a2 => omega
          case a3 => have := HW.out.size; simp; omega
          intro v1 w3 hown hg
          have HO3 := Lib.hid hown
          have HW3 := Lib.hid (strs_grown HW.out.size HW.out HO.out hg)
          clear hown hg
          go_wp2_with fail
          go_roundw
          case rel => exact ⟨3, by omega, by go_num, by rw [HP.out, if_pos trivial, List.length_append]; exact HO3, HW3⟩
          case measure => simp [intOf]
      · have HJ := Lib.hid (join_x 44 w.heap.size (.slice A (namesP l 3).length c) (namesP l 3) wr HO.out (by have := (namesP_len l 3).1; omega) (by have := (namesP_len l 3).2; omega))
        rw [← HV.out] at HJ
        generalize (namesP l 3).length = n at HJ
        go_wp2_with fail
        refine HJ.out.mono ?_
        rintro e w' ⟨rfl, hb⟩
        have HB := Lib.hid (below_next HW.out hb)
        clear hb
        go_wp2_with fail
        go_ret
        exact ⟨rfl, HB.out⟩
end Go.Proofs.YtojpkbonioglbaaGreatDoor
/-
  What PrintMail says of a message: the closure walked.
-/
namespace Go.Proofs.YtojpkbonioglbaaGreatDoor
set_option maxRecDepth 100000
open Go.RowKit Go.Shelf
/-- A message in its box, block g; a row of texts of the call's own behind the cell, block c, that tells it. -/
structure MS (W : World) (g c : Nat) (m : ML) (u v : Value) (L : List Txt) (w : World) : Prop where
  mb : MBox W g m w
  cell : w.heap[c]? = some (.cells #[u] 22 (0, 0))
  row : w.ownsRow (c + 1) 9 1 v L.length (strsV L)
  gW : W.heap.size ≤ g
  gc : g < c
section
variable {W w w' : World} {g c : Nat} {m : ML} {u v : Value} {L : List Txt}
theorem MS.size (h : MS W g c m u v L w) : c + 1 ≤ w.heap.size := ltOf h.cell
theorem MS.next (h : MS W g c m u v L w) (hb : Below w.heap.size w w') : MS W g c m u v L w' := ⟨h.mb.next hb, (hb.block _ (ltOf h.cell)).trans h.cell, own_below h.row hb, h.gW, h.gc⟩
theorem MS.app {v' : Value} {L' : List Txt} {o : Obj} (h : MS W g c m u v L w) (hown : w'.ownsRow (c + 1) 9 1 v' L'.length (strsV L')) (hg : (w.alloc o).grownBy w' v.ownBlock) : MS W g c m u v' L' w' := by
  have hl := h.size
  have hgc := h.gc
  have hne : ∀ k, k ≤ c → some k ≠ v.ownBlock := fun k hk e => by have := (h.row.lt k e.symm).1; omega
  refine ⟨⟨?_, ?_⟩, ?_, hown, h.gW, hgc⟩
  · exact (hg.block g (by simp; omega) (hne g (by omega))).trans ((Below.heap_alloc w o g (by omega)).trans h.mb.box)
  · exact (h.mb.below.alloc h.mb.below.size o).grown hg (by have := h.mb.below.size; simp; omega) (fun k hk => by have := (h.row.lt k hk).1; have := h.gW; omega)
  · exact (hg.block c (by simp; omega) (hne c (by omega))).trans ((Below.heap_alloc w o c (by omega)).trans h.cell)
theorem MS.set (h : MS W g c m u v L w) (x : Value) : MS W g c m x v L (w.setCell ⟨c, 0, none⟩ x) := by
  have hgc := h.gc
  refine ⟨⟨(Below.heap_setCell w ⟨c, 0, none⟩ x g (by show g ≠ c; omega)).trans h.mb.box, h.mb.below.setCell (p := ⟨c, 0, none⟩) (by show W.heap.size ≤ c; have := h.gW; omega) x⟩, ?_, ?_, h.gW, hgc⟩
  · have := setOf h.cell 0 x
    exact this
  · refine ⟨h.row.1, ?_⟩
    rcases h.row.2 with h0 | ⟨k, cap, cur, hv, hB, hk, h1⟩
    · exact .inl h0
    · exact .inr ⟨k, cap, cur, hv, hB, (Below.heap_setCell w ⟨c, 0, none⟩ x k (by show k ≠ c; omega)).trans hk, h1⟩
theorem MS.drew (h : MS W g c m u v L w) : MS W g c m u v L w.drew := ⟨h.mb.drew, h.cell, h.row, h.gW, h.gc⟩
theorem MS.cc (h : MS W g c m u v L w) : w.cell? ⟨c, 0, none⟩ = some u := cellOf h.cell 0
theorem MS.cf (h : MS W g c m u v L w) : w.frozen? ⟨c, 0, none⟩ = false := freeOf h.cell 0
end
/-- One more word, if it is said. -/
def sayL (b : Bool) (k s : Txt) (L : List Txt) : List Txt := if b then L ++ [k ++ [61] ++ s] else L
theorem sayL_len (b : Bool) (k s : Txt) (L : List Txt) : (sayL b k s L).length ≤ L.length + 1 ∧ Lib.lens (sayL b k s L) ≤ Lib.lens L + (k.length + 1 + s.length) := by
  unfold sayL
  cases b
  · exact ⟨by simp, by simp⟩
  · refine ⟨by simp, ?_⟩
    simp [Lib.lens]
    omega
theorem wordsL_fold : ∀ (ws : List Wd) (L : List Txt), ws.foldl (fun L t => sayL t.1 t.2.1 t.2.2 L) L = L ++ wordsL ws
  | [], L => by simp [wordsL]
  | (b, k, s) :: r, L => by
    rw [List.foldl_cons, wordsL_fold r, sayL, wordsL]
    cases b <;> simp
set_option maxHeartbeats 4000000 in
theorem say_x {W : World} {g c : Nat} {m : ML} {v : Value} {L : List Txt} {w : World} (h : MS W g c m v v L w) (b : Bool) (k s : Txt) (hk : k.length ≤ 1000) (hs : s.length ≤ 1000000) (hL : L.length ≤ 1000) :
    Calls Tryz.prog 170 #[.bool b, .string (mkS k), .string (mkS s), .pointer (some ⟨c, 0, none⟩)] w fun e w' => e = .returned (.tuple #[]) ∧ ∃ v', MS W g c m v' v' (sayL b k s L) w' := by
  have H := Lib.hid h
  clear h
  cases b
  · go_enter Tryz.func170, Tryz.ntmps170
    go_wp2_with fail
    go_end0
    exact ⟨rfl, _, H.out⟩
  · have c0 := H.out.cc
    obtain ⟨A, cp, rfl⟩ := strs_slice H.out.row
    have hcat : mkS k ++ { data := #[61] } ++ mkS s = mkS (k ++ [61] ++ s) := by rw [show ({ data := #[61] } : ByteArray) = mkS [61] from rfl, mkS_cat, mkS_cat]
    have hz1 : (mkS k).size ≤ 1000 := by rw [mkS_size]; omega
    have hz2 : (mkS s).size ≤ 1000000 := by rw [mkS_size]; omega
    have hy1 : ¬ 9223372036854775807 < (mkS k).size + 1 := by omega
    have hy2 : ¬ 9223372036854775807 < (mkS k).size + 1 + (mkS s).size := by omega
    have HL := Lib.hid (show sayL true k s L = L ++ [k ++ [61] ++ s] from rfl)
    generalize k ++ [61] ++ s = x at hcat HL
    go_enter Tryz.func170, Tryz.ntmps170
    go_wp2_with (at_builtin; refine app_strs rfl (.tmp 8) (.tmp 13) rfl (c + 1) (.slice A L.length cp) L rfl (H.out.row.alloc _) ⟨w.heap.size, 0, none⟩ 1 1 [x] rfl rfl (news_one w x) (by omega) (by have := H.out.size; simp; omega) ?_; intro v1 w3 hown hg; have H3 := Lib.hid (MS.app (L' := L ++ [x]) H.out hown hg); clear hown hg c0; have c0 := H3.out.cc; have f0 := H3.out.cf; obtain ⟨A1, cp1, hv1⟩ := strs_slice H3.out.row; subst hv1)
    go_end0
    exact ⟨rfl, .slice A1 (L.length + 1) cp1, by rw [HL.out]; have h3 := H3.out; rw [show (L ++ [x]).length = L.length + 1 by simp] at h3; exact h3.set _⟩
end Go.Proofs.YtojpkbonioglbaaGreatDoor
/-
  The walk of param's PrintMail.
-/
namespace Go.Proofs.YtojpkbonioglbaaGreatDoor
set_option maxRecDepth 100000
open Go.RowKit Go.Shelf
theorem itoa_x (n : Int) (w : World) (h0 : -999999999 ≤ n) (h1 : n ≤ 999999999) (hR : Ready w) : Calls Tryz.prog 22 #[.int .i64 n] w fun e w' => e = .returned (.string (mkS (Lib.itoa n))) ∧ Below w.heap.size w w' :=
  (Tryz.strconv_Itoa n (by omega) (by omega) w hR.2).mono fun _ _ ⟨he, k, os, hw⟩ => ⟨he, by rw [hw]; exact Lib.below_grow _ w (Nat.le_refl _) k os⟩
theorem itoa_len {n : Int} (h1 : -999999999 ≤ n) (h2 : n ≤ 999999999) : (Lib.itoa n).length ≤ 20 := by
  by_cases h : n < 0
  · rw [Lib.itoa, if_pos h]
    have := (dd_all 8 n.natAbs (by omega)).2.1
    simp
    omega
  · rw [Lib.itoa, if_neg h]
    have := (dd_all 8 n.toNat (by omega)).2.1
    omega
theorem printS_le (t : Int) : (printS t).length ≤ 20 := by
  cases h : timB t
  · unfold printS
    rw [h]
    simp
  · exact Nat.le_of_eq (back_x h).2.2.2
/-- What a message that may be told holds. -/
structure Fits (m : ML) : Prop where
  sz : -999999999 ≤ m.sz ∧ m.sz ≤ 999999999
  fo : -999999999 ≤ m.fo ∧ m.fo ≤ 999999999
  by_ : -999999999 ≤ m.by_ ∧ m.by_ ≤ 999999999
  pr : -999999999 ≤ m.pr ∧ m.pr ≤ 999999999
  body : m.body.length ≤ 100
  ret : m.ret.length ≤ 100
  env : m.env.length ≤ 100
  mode : m.mode.length ≤ 100
theorem in_num {b : Bool} {n x y : Int} (hx : -999999999 ≤ x) (hy : y ≤ 999999999) (h : inB b n x y = true) (h0 : (b || n == 0) = true) : -999999999 ≤ n ∧ n ≤ 999999999 := by
  cases b
  · have : n = 0 := by simpa using h0
    omega
  · unfold inB at h
    simp at h
    omega
theorem fits {m : ML} (h : rightM m = 0) : Fits m := by
  obtain ⟨⟨hn, hu, hr, he⟩, _⟩ := rightM_iff.1 h
  unfold rangB at hr
  unfold unB at hu
  unfold namedB isBody isRet isMode at hn
  simp only [Bool.and_eq_true] at hr hu
  have hlv : -999999999 ≤ leastV m.mode := by unfold leastV; split <;> omega
  refine ⟨in_num (by omega) (by omega) hr.1.1.1.1 hu.1.1.1.1, in_num (by omega) (by omega) hr.1.1.1.2 hu.1.1.1.2, in_num hlv (by omega) hr.1.2 hu.1.2, in_num (by omega) (by omega) hr.2 hu.2, ?_, ?_, he, ?_⟩
  all_goals
    simp only [Bool.and_eq_true, Bool.or_eq_true, beq_iff_eq] at hn
  · rcases hn.1.1 with h0 | h0 | h0 <;> rw [h0] <;> decide
  · rcases hn.1.2 with h0 | h0 | h0 <;> rw [h0] <;> decide
  · rcases hn.2 with h0 | h0
    · rcases h0.2 with ((h1 | h1) | h1) | h1 <;> rw [h1] <;> decide
    · rw [h0.2]; decide
set_option maxHeartbeats 16000000 in
theorem printM_x (m : ML) (w : World) (hR : Ready w) : Calls Tryz.prog 154 #[.agg #[.bool m.hs, .bool m.hf, .bool m.hu, .bool m.hb, .bool m.hp, .int .i64 m.sz, .int .i64 m.fo, .int .i64 m.un, .int .i64 m.by_, .int .i64 m.pr, .string (mkS m.body), .string (mkS m.ret), .string (mkS m.env), .string (mkS m.mode)]] w fun e w' => e = .returned (.tuple #[.string (mkS (printM m)), .int .i64 (rightM m)]) ∧ Below w.heap.size w w' := by
  have k0 := newOf w (.cells #[.bool m.hs, .bool m.hf, .bool m.hu, .bool m.hb, .bool m.hp, .int .i64 m.sz, .int .i64 m.fo, .int .i64 m.un, .int .i64 m.by_, .int .i64 m.pr, .string (mkS m.body), .string (mkS m.ret), .string (mkS m.env), .string (mkS m.mode)] 31)
  have kB : Below w.heap.size w (w.alloc (.cells #[.bool m.hs, .bool m.hf, .bool m.hu, .bool m.hb, .bool m.hp, .int .i64 m.sz, .int .i64 m.fo, .int .i64 m.un, .int .i64 m.by_, .int .i64 m.pr, .string (mkS m.body), .string (mkS m.ret), .string (mkS m.env), .string (mkS m.mode)] 31)) := (Below.refl _ w).alloc (Nat.le_refl _) _
  have H0 := Lib.hid (MBox.mk (W := w) k0 kB)
  have HRb := Lib.hid (fun w' (h : MBox w w.heap.size m w') => hR.below h.below)
  have HR := Lib.hid (fun w' h => rightM_x m w' h)
  have HP0 := Lib.hid (show rightM m ≠ 0 → printM m = [] from fun h => if_neg h)
  have HP1 := Lib.hid (show rightM m = 0 → printM m = joinC 32 (wordsL (wdM m)) from fun h => if_pos h)
  have HFt := Lib.hid (fun h => fits (m := m) h)
  generalize rightM m = E at HR HP0 HP1 HFt ⊢
  clear k0 kB hR
  go_enter Tryz.func154, Tryz.ntmps154
  have c0 := H0.out.c0
  have c1 := H0.out.c1
  have c2 := H0.out.c2
  have c3 := H0.out.c3
  have c4 := H0.out.c4
  have c5 := H0.out.c5
  have c6 := H0.out.c6
  have c7 := H0.out.c7
  have c8 := H0.out.c8
  have c9 := H0.out.c9
  have c10 := H0.out.c10
  have c11 := H0.out.c11
  have c12 := H0.out.c12
  have c13 := H0.out.c13
  go_wp2_with fail
  generalize w.alloc (.cells #[.bool m.hs, .bool m.hf, .bool m.hu, .bool m.hb, .bool m.hp, .int .i64 m.sz, .int .i64 m.fo, .int .i64 m.un, .int .i64 m.by_, .int .i64 m.pr, .string (mkS m.body), .string (mkS m.ret), .string (mkS m.env), .string (mkS m.mode)] 31) = W0 at H0 c0 c1 c2 c3 c4 c5 c6 c7 c8 c9 c10 c11 c12 c13 ⊢
  clear c0 c1 c2 c3 c4 c5 c6 c7 c8 c9 c10 c11 c12 c13
  refine (HR.out _ (HRb.out _ H0.out)).mono ?_
  rintro e w1 ⟨rfl, hb⟩
  have H1 := Lib.hid (H0.out.next hb)
  clear hb H0 HR
  by_cases hE : E = 0
  · subst hE
    have hF := HFt.out rfl
    have HPV := Lib.hid (HP1.out rfl)
    clear HP0 HP1 HFt
    have HI1 := Lib.hid (fun w h => itoa_x m.sz w hF.sz.1 hF.sz.2 h)
    have HI2 := Lib.hid (fun w h => itoa_x m.fo w hF.fo.1 hF.fo.2 h)
    have HI3 := Lib.hid (fun w h => itoa_x m.by_ w hF.by_.1 hF.by_.2 h)
    have HI4 := Lib.hid (fun w h => itoa_x m.pr w hF.pr.1 hF.pr.2 h)
    have HEn := Lib.hid (fun w => X.encode_x m.env w (by have := hF.env; omega))
    have HDp := Lib.hid (fun w h => print_x m.un w h)
    have hl1 := itoa_len hF.sz.1 hF.sz.2
    have hl2 := itoa_len hF.fo.1 hF.fo.2
    have hl3 := itoa_len hF.by_.1 hF.by_.2
    have hl4 := itoa_len hF.pr.1 hF.pr.2
    have hl5 : (X.encX m.env).length ≤ 300 := by have := (X.encX_len m.env).2; have := hF.env; omega
    have hl6 := printS_le m.un
    have hl7 := hF.body
    have hl8 := hF.ret
    have hl9 := hF.mode
    have hwf := wordsL_fold (wdM m) []
    rw [List.nil_append] at hwf
    have hpv := HPV.out
    clear HPV
    generalize wordsL (wdM m) = ww at hwf hpv
    have HPV := Lib.hid hpv
    have HWF := Lib.hid hwf
    clear hwf hpv
    unfold wdM at HWF
    simp only [List.foldl_cons, List.foldl_nil, bne] at HWF
    unfold PrintPost at HDp
    have hT1 := mkS_toList m.body
    have hT2 := mkS_toList m.ret
    have hT3 := mkS_toList m.env
    have hcat : mkS (Lib.itoa m.by_) ++ { data := #[59] } ++ mkS m.mode = mkS (Lib.itoa m.by_ ++ [59] ++ m.mode) := by rw [show ({ data := #[59] } : ByteArray) = mkS [59] from rfl, mkS_cat, mkS_cat]
    have hz1 : (mkS (Lib.itoa m.by_)).size ≤ 100 := by rw [mkS_size]; omega
    have hz2 : (mkS m.mode).size ≤ 100 := by rw [mkS_size]; omega
    have hla : (Lib.itoa m.by_ ++ [59] ++ m.mode).length ≤ 200 := by simp; omega
    generalize Lib.itoa m.by_ ++ [59] ++ m.mode = tby at hcat HWF hla
    generalize Lib.itoa m.sz = i1 at HI1 HWF hl1
    generalize Lib.itoa m.fo = i2 at HI2 HWF hl2
    generalize Lib.itoa m.by_ = i3 at HI3 hcat hl3 hz1
    generalize Lib.itoa m.pr = i4 at HI4 HWF hl4
    generalize X.encX m.env = ev at HEn HWF hl5
    generalize printS m.un = ps at HDp HWF hl6
    generalize printE m.un = pe at HDp
    have hy1 : ¬ 9223372036854775807 < (mkS i3).size + 1 := by omega
    have hy2 : ¬ 9223372036854775807 < (mkS i3).size + 1 + (mkS m.mode).size := by omega
    clear hF hz1 hz2 hl3 hl9
    have hb1 : m.body.isEmpty = (m.body == []) := by cases m.body <;> rfl
    have hb2 : decide (m.body = []) = (m.body == []) := by cases m.body <;> rfl
    have hr1 : m.ret.isEmpty = (m.ret == []) := by cases m.ret <;> rfl
    have hr2 : decide (m.ret = []) = (m.ret == []) := by cases m.ret <;> rfl
    have he1 : m.env.isEmpty = (m.env == []) := by cases m.env <;> rfl
    have he2 : decide (m.env = []) = (m.env == []) := by cases m.env <;> rfl
    generalize hb3 : (m.body == []) = qb at HWF hb1 hb2
    generalize hr3 : (m.ret == []) = qr at HWF hr1 hr2
    generalize he3 : (m.env == []) = qe at HWF he1 he2
    obtain ⟨c, hc⟩ : ∃ c, w1.heap.size = c := ⟨_, rfl⟩
    have HS := Lib.hid (show MS w w.heap.size c m (.slice none 0 0) (.slice none 0 0) [] (w1.alloc (.cells #[.slice none 0 0] 22)) from
      ⟨H1.out.next ((Below.refl _ w1).alloc (Nat.le_refl _) _), by rw [← hc]; exact newOf w1 _, strs_nil _ _, Nat.le_refl _, by rw [← hc]; exact ltOf H1.out.box⟩)
    have HRm := Lib.hid (fun u v L w' (h : MS w w.heap.size c m u v L w') => HRb.out w' h.mb)
    have d7 := HS.out.mb.c7
    go_wp2_with fail
    clear d7 H1 HRb
    generalize w1.alloc (.cells #[.slice none 0 0] 22) = w2 at HS ⊢
    clear hc
    refine (HDp.out _ (HRm.out _ _ _ _ HS.out)).mono ?_
    rintro e w3 ⟨rfl, hb⟩
    have HS0 := Lib.hid (HS.out.next hb)
    clear hb HS HDp
    have hc0 : ([] : List Txt).length ≤ 0 ∧ Lib.lens ([] : List Txt) ≤ 0 := ⟨Nat.le_refl _, Nat.le_refl _⟩
    generalize hL0 : ([] : List Txt) = L0 at HS0 hc0
    have HL0 := Lib.hid hL0
    clear hL0
    have hd0 : L0.length ≤ 0 ∧ Lib.lens L0 ≤ 0 := hc0
    clear hc0
    have hk0 : (kSIZE).length ≤ 1000 := by decide
    go_wp2_with fail
    go_region_held3 (fun wr => wr.cell? ⟨w.heap.size, 0, none⟩ = some (.bool m.hs) ∧ wr.cell? ⟨w.heap.size, 5, none⟩ = some (.int .i64 m.sz))
      (first | exact ⟨HS0.out.drew.mb.c0, HS0.out.drew.mb.c5⟩ | exact ⟨HS0.out.mb.c0, HS0.out.mb.c5⟩ | exact ⟨by assumption, by assumption⟩)
      (first
        | (go_at_call 22; (with_reducible refine (HI1.out _ (HRm.out _ _ _ _ HS0.out.drew)).mono ?_); rintro e w4 ⟨rfl, hb4⟩; have g0 := Lib.hid (HS0.out.drew.next hb4); have p0 := g0.out.mb.c0; have p5 := g0.out.mb.c5)
        | (go_at_call 170; refine (say_x g0.out (m.hs) kSIZE i1 hk0 (by omega) (by omega)).mono ?_; rintro e w5 ⟨rfl, v5, h5⟩; have HN := Lib.hid h5; clear h5; have q0 := HN.out.mb.c0; have q5 := HN.out.mb.c5))
    clear hb4 g0 hk0 p0 q0 p5 q5
    have HS1 := HN
    clear HN HS0
    have hc1 := sayL_len (m.hs) kSIZE i1 L0
    generalize hL1 : sayL (m.hs) kSIZE i1 L0 = L1 at HS1 hc1
    have HL1 := Lib.hid hL1
    have hkl : (kSIZE).length ≤ 100 := by decide
    have hd1 : L1.length ≤ 1 ∧ Lib.lens L1 ≤ 1 * 1000 := ⟨by omega, by omega⟩
    clear hkl
    clear hL1 hc1 hd0
    have d10 := HS1.out.mb.c10
    have hk1 : (kBODY).length ≤ 1000 := by decide
    go_wp2_with fail
    refine (say_x HS1.out (!qb) kBODY m.body hk1 (by omega) (by omega)).mono ?_
    rintro e w5 ⟨rfl, v5, h5⟩
    have HN := Lib.hid h5
    clear h5 hk1 d10
    have HS2 := HN
    clear HN HS1
    have hc2 := sayL_len (!qb) kBODY m.body L1
    generalize hL2 : sayL (!qb) kBODY m.body L1 = L2 at HS2 hc2
    have HL2 := Lib.hid hL2
    have hkl : (kBODY).length ≤ 100 := by decide
    have hd2 : L2.length ≤ 2 ∧ Lib.lens L2 ≤ 2 * 1000 := ⟨by omega, by omega⟩
    clear hkl
    clear hL2 hc2 hd1
    have d11 := HS2.out.mb.c11
    have hk2 : (kRET).length ≤ 1000 := by decide
    go_wp2_with fail
    refine (say_x HS2.out (!qr) kRET m.ret hk2 (by omega) (by omega)).mono ?_
    rintro e w5 ⟨rfl, v5, h5⟩
    have HN := Lib.hid h5
    clear h5 hk2 d11
    have HS3 := HN
    clear HN HS2
    have hc3 := sayL_len (!qr) kRET m.ret L2
    generalize hL3 : sayL (!qr) kRET m.ret L2 = L3 at HS3 hc3
    have HL3 := Lib.hid hL3
    have hkl : (kRET).length ≤ 100 := by decide
    have hd3 : L3.length ≤ 3 ∧ Lib.lens L3 ≤ 3 * 1000 := ⟨by omega, by omega⟩
    clear hkl
    clear hL3 hc3 hd2
    have hk3 : (kENV).length ≤ 1000 := by decide
    go_wp2_with fail
    go_region_held3 (fun wr => wr.cell? ⟨w.heap.size, 12, none⟩ = some (.string (mkS m.env)))
      (first | exact HS3.out.drew.mb.c12 | exact HS3.out.mb.c12 | exact by assumption)
      (first
        | (go_at_call 56; (with_reducible refine (HEn.out _).mono ?_); rintro e w4 ⟨rfl, hb4⟩; have g0 := Lib.hid (HS3.out.drew.next hb4); have p12 := g0.out.mb.c12)
        | (go_at_call 170; refine (say_x g0.out (!qe) kENV ev hk3 (by omega) (by omega)).mono ?_; rintro e w5 ⟨rfl, v5, h5⟩; have HN := Lib.hid h5; clear h5; have q12 := HN.out.mb.c12))
    clear hb4 g0 hk3 p12 q12
    have HS4 := HN
    clear HN HS3
    have hc4 := sayL_len (!qe) kENV ev L3
    generalize hL4 : sayL (!qe) kENV ev L3 = L4 at HS4 hc4
    have HL4 := Lib.hid hL4
    have hkl : (kENV).length ≤ 100 := by decide
    have hd4 : L4.length ≤ 4 ∧ Lib.lens L4 ≤ 4 * 1000 := ⟨by omega, by omega⟩
    clear hkl
    clear hL4 hc4 hd3
    have hk4 : (kHF).length ≤ 1000 := by decide
    go_wp2_with fail
    go_region_held3 (fun wr => wr.cell? ⟨w.heap.size, 1, none⟩ = some (.bool m.hf) ∧ wr.cell? ⟨w.heap.size, 6, none⟩ = some (.int .i64 m.fo))
      (first | exact ⟨HS4.out.drew.mb.c1, HS4.out.drew.mb.c6⟩ | exact ⟨HS4.out.mb.c1, HS4.out.mb.c6⟩ | exact ⟨by assumption, by assumption⟩)
      (first
        | (go_at_call 22; (with_reducible refine (HI2.out _ (HRm.out _ _ _ _ HS4.out.drew)).mono ?_); rintro e w4 ⟨rfl, hb4⟩; have g0 := Lib.hid (HS4.out.drew.next hb4); have p1 := g0.out.mb.c1; have p6 := g0.out.mb.c6)
        | (go_at_call 170; refine (say_x g0.out (m.hf) kHF i2 hk4 (by omega) (by omega)).mono ?_; rintro e w5 ⟨rfl, v5, h5⟩; have HN := Lib.hid h5; clear h5; have q1 := HN.out.mb.c1; have q6 := HN.out.mb.c6))
    clear hb4 g0 hk4 p1 q1 p6 q6
    have HS5 := HN
    clear HN HS4
    have hc5 := sayL_len (m.hf) kHF i2 L4
    generalize hL5 : sayL (m.hf) kHF i2 L4 = L5 at HS5 hc5
    have HL5 := Lib.hid hL5
    have hkl : (kHF).length ≤ 100 := by decide
    have hd5 : L5.length ≤ 5 ∧ Lib.lens L5 ≤ 5 * 1000 := ⟨by omega, by omega⟩
    clear hkl
    clear hL5 hc5 hd4
    have d2 := HS5.out.mb.c2
    have hk5 : (kHU).length ≤ 1000 := by decide
    go_wp2_with fail
    refine (say_x HS5.out (m.hu) kHU ps hk5 (by omega) (by omega)).mono ?_
    rintro e w5 ⟨rfl, v5, h5⟩
    have HN := Lib.hid h5
    clear h5 hk5 d2
    have HS6 := HN
    clear HN HS5
    have hc6 := sayL_len (m.hu) kHU ps L5
    generalize hL6 : sayL (m.hu) kHU ps L5 = L6 at HS6 hc6
    have HL6 := Lib.hid hL6
    have hkl : (kHU).length ≤ 100 := by decide
    have hd6 : L6.length ≤ 6 ∧ Lib.lens L6 ≤ 6 * 1000 := ⟨by omega, by omega⟩
    clear hkl
    clear hL6 hc6 hd5
    have hk6 : (kBY).length ≤ 1000 := by decide
    go_wp2_with fail
    go_region_held3 (fun wr => wr.cell? ⟨w.heap.size, 3, none⟩ = some (.bool m.hb) ∧ wr.cell? ⟨w.heap.size, 8, none⟩ = some (.int .i64 m.by_) ∧ wr.cell? ⟨w.heap.size, 13, none⟩ = some (.string (mkS m.mode)))
      (first | exact ⟨HS6.out.drew.mb.c3, HS6.out.drew.mb.c8, HS6.out.drew.mb.c13⟩ | exact ⟨HS6.out.mb.c3, HS6.out.mb.c8, HS6.out.mb.c13⟩ | exact ⟨by assumption, by assumption, by assumption⟩)
      (first
        | (go_at_call 22; (with_reducible refine (HI3.out _ (HRm.out _ _ _ _ HS6.out.drew)).mono ?_); rintro e w4 ⟨rfl, hb4⟩; have g0 := Lib.hid (HS6.out.drew.next hb4); have p3 := g0.out.mb.c3; have p8 := g0.out.mb.c8; have p13 := g0.out.mb.c13)
        | (go_at_call 170; refine (say_x g0.out (m.hb) kBY tby hk6 (by omega) (by omega)).mono ?_; rintro e w5 ⟨rfl, v5, h5⟩; have HN := Lib.hid h5; clear h5; have q3 := HN.out.mb.c3; have q8 := HN.out.mb.c8; have q13 := HN.out.mb.c13))
    clear hb4 g0 hk6 p3 q3 p8 q8 p13 q13
    have HS7 := HN
    clear HN HS6
    have hc7 := sayL_len (m.hb) kBY tby L6
    generalize hL7 : sayL (m.hb) kBY tby L6 = L7 at HS7 hc7
    have HL7 := Lib.hid hL7
    have hkl : (kBY).length ≤ 100 := by decide
    have hd7 : L7.length ≤ 7 ∧ Lib.lens L7 ≤ 7 * 1000 := ⟨by omega, by omega⟩
    clear hkl
    clear hL7 hc7 hd6
    have hk7 : (kPR).length ≤ 1000 := by decide
    go_wp2_with fail
    go_region_held3 (fun wr => wr.cell? ⟨w.heap.size, 4, none⟩ = some (.bool m.hp) ∧ wr.cell? ⟨w.heap.size, 9, none⟩ = some (.int .i64 m.pr))
      (first | exact ⟨HS7.out.drew.mb.c4, HS7.out.drew.mb.c9⟩ | exact ⟨HS7.out.mb.c4, HS7.out.mb.c9⟩ | exact ⟨by assumption, by assumption⟩)
      (first
        | (go_at_call 22; (with_reducible refine (HI4.out _ (HRm.out _ _ _ _ HS7.out.drew)).mono ?_); rintro e w4 ⟨rfl, hb4⟩; have g0 := Lib.hid (HS7.out.drew.next hb4); have p4 := g0.out.mb.c4; have p9 := g0.out.mb.c9)
        | (go_at_call 170; refine (say_x g0.out (m.hp) kPR i4 hk7 (by omega) (by omega)).mono ?_; rintro e w5 ⟨rfl, v5, h5⟩; have HN := Lib.hid h5; clear h5; have q4 := HN.out.mb.c4; have q9 := HN.out.mb.c9))
    clear hb4 g0 hk7 p4 q4 p9 q9
    have HS8 := HN
    clear HN HS7
    have hc8 := sayL_len (m.hp) kPR i4 L7
    generalize hL8 : sayL (m.hp) kPR i4 L7 = L8 at HS8 hc8
    have HL8 := Lib.hid hL8
    have hkl : (kPR).length ≤ 100 := by decide
    have hd8 : L8.length ≤ 8 ∧ Lib.lens L8 ≤ 8 * 1000 := ⟨by omega, by omega⟩
    clear hkl
    clear hL8 hc8 hd7
    have hWL : ww = L8 := by
      rw [← HL8.out, ← HL7.out, ← HL6.out, ← HL5.out, ← HL4.out, ← HL3.out, ← HL2.out, ← HL1.out, ← HL0.out]
      exact HWF.out.symm
    have HW := Lib.hid hWL
    clear hWL HWF HL0 HL1 HL2 HL3 HL4 HL5 HL6 HL7 HL8
    have HJ := Lib.hid (join_x 32 (c + 1) _ L8 _ HS8.out.row (by omega) (by omega))
    have HX := Lib.hid HS8.out.mb
    have c5 := HS8.out.cc
    clear HS8
    go_wp2_with fail
    refine HJ.out.mono ?_
    rintro e w9 ⟨rfl, hb⟩
    have HB := Lib.hid (HX.out.next hb).below
    clear hb
    go_wp2_with fail
    go_ret2
    exact ⟨by rw [HPV.out, HW.out]; rfl, HB.out⟩
  · have HV := Lib.hid (HP0.out hE)
    clear HP0 HP1 HFt
    go_wp2_with fail
    go_ret2
    exact ⟨by rw [HV.out]; rfl, H1.out.below⟩
end Go.Proofs.YtojpkbonioglbaaGreatDoor
/-
  The walk of param's RightRcpt.
-/
namespace Go.Proofs.YtojpkbonioglbaaGreatDoor
set_option maxRecDepth 100000
open Go.RowKit
/-- A recipient in its box, block g; nothing that lay ahead has turned. -/
structure RBox (W : World) (g : Nat) (r : RL) (w : World) : Prop where
  box : w.heap[g]? = some (.cells #[.string (mkS r.no), .string (mkS r.kind), .string (mkS r.oc)] 47 (0, 0))
  below : Below W.heap.size W w
theorem RBox.next {W w w' : World} {g : Nat} {r : RL} (h : RBox W g r w) (hb : Below w.heap.size w w') : RBox W g r w' := ⟨(hb.block _ (ltOf h.box)).trans h.box, below_next h.below hb⟩
theorem RBox.drewN {W w : World} {g : Nat} {r : RL} (h : RBox W g r w) (n : Nat) : RBox W g r (w.drewN n) := ⟨h.box, below_drewN h.below n⟩
theorem RBox.drew {W w : World} {g : Nat} {r : RL} (h : RBox W g r w) : RBox W g r w.drew := ⟨h.box, ⟨h.below.os, h.below.tape, h.below.output, h.below.size, h.below.block⟩⟩
theorem RBox.c0 {W w : World} {g : Nat} {r : RL} (h : RBox W g r w) : w.cell? ⟨g, 0, none⟩ = some (.string (mkS r.no)) := cellOf h.box 0
theorem RBox.c1 {W w : World} {g : Nat} {r : RL} (h : RBox W g r w) : w.cell? ⟨g, 1, none⟩ = some (.string (mkS r.kind)) := cellOf h.box 1
theorem RBox.c2 {W w : World} {g : Nat} {r : RL} (h : RBox W g r w) : w.cell? ⟨g, 2, none⟩ = some (.string (mkS r.oc)) := cellOf h.box 2
theorem ordered_s (l : Txt) (w : World) (hN : NotR w) : Calls Tryz.prog 186 #[.string (mkS l)] w fun e w' => e = .returned (.string (mkS (ordV l))) ∧ w' = w := (ordered_x l w hN).mono fun _ _ h => ⟨h.1, h.2.symm⟩
/-- A region that draws its order, walked once, where all its operations and calls leave a world of a class. -/
theorem region_in {P : Program} {id : Nat} {Q : Exit → Act → World → Prop} {a : Act} {w : World} {l : List Oper} (hm : P.follows .mixedOrders = true) (hB : Region.lexB .any l.toArray = true) {Y : Type} (F : Y → World) (y0 : Y) (hy : F y0 = w.drew)
    (h : wpQuiet P l.toArray (fun w' => ∃ y, w' = F y) (fun a' => ∀ w', (∃ y, w' = F y) → Q .normal a' w') l a) : (Code.region id l.toArray true).wp P Q a w :=
  wp_region_quiet (C := fun w' => ∃ y, w' = F y) hm hB ⟨y0, hy.symm⟩ (by simpa using h)
theorem RBox.quiet {W : World} {g : Nat} {r : RL} {Y : Type} {F : Y → World} {y : Y} (h : (∀ y, RBox W g r (F y)) ∧ (∀ w', RBox W g r w' → ∃ y, w' = F y)) {f : FuncId} {args : Array Value} {v : Value} (H : Calls Tryz.prog f args (F y) fun e w' => e = .returned v ∧ Below (F y).heap.size (F y) w') :
    Calls Tryz.prog f args (F y) fun e w' => e = .returned v ∧ ∃ y, w' = F y := H.mono fun _ _ ⟨he, hb⟩ => ⟨he, h.2 _ ((h.1 y).next hb)⟩
theorem RBox.qsame {W : World} {g : Nat} {r : RL} {Y : Type} {F : Y → World} {y : Y} (h : (∀ y, RBox W g r (F y)) ∧ (∀ w', RBox W g r w' → ∃ y, w' = F y)) {f : FuncId} {args : Array Value} {v : Value} (H : Calls Tryz.prog f args (F y) fun e w' => e = .returned v ∧ F y = w') :
    Calls Tryz.prog f args (F y) fun e w' => e = .returned v ∧ ∃ y, w' = F y := H.mono fun _ _ ⟨he, hb⟩ => ⟨he, h.2 _ (by rw [← hb]; exact h.1 y)⟩
theorem isKind_s (l : Txt) (w : World) (hl : l.length ≤ 1000000000000) : Calls Tryz.prog 187 #[.string (mkS l)] w fun e w' => e = .returned (.bool (isKind l)) ∧ w' = w := (isKind_x l w hl).mono fun _ _ h => ⟨h.1, h.2.symm⟩
set_option maxHeartbeats 8000000 in
theorem rightR_x (r : RL) (w : World) (hN : NotR w) (hk : r.kind.length ≤ 1000000000000) : Calls Tryz.prog 171 #[.agg #[.string (mkS r.no), .string (mkS r.kind), .string (mkS r.oc)]] w fun e w' => e = .returned (.int .i64 (rightR r)) ∧ Below w.heap.size w w' := by
  have k0 := newOf w (.cells #[.string (mkS r.no), .string (mkS r.kind), .string (mkS r.oc)] 47)
  have kB : Below w.heap.size w (w.alloc (.cells #[.string (mkS r.no), .string (mkS r.kind), .string (mkS r.oc)] 47)) := (Below.refl _ w).alloc (Nat.le_refl _) _
  have H0 := Lib.hid (RBox.mk (W := w) k0 kB)
  have HO := Lib.hid (fun w' (h : RBox w w.heap.size r w') => ordered_s r.no w' (hN.below h.below))
  have HK := Lib.hid (fun w' => isKind_x r.kind w' hk)
  have HC := Lib.hid (fun w' => cap_x r.kind w' hk)
  have hT0 := mkS_toList r.no
  have hTo := mkS_toList (ordV r.no)
  have hT1 := mkS_toList r.kind
  have hT2 := mkS_toList r.oc
  have hTu := mkS_toList (upL r.kind)
  have hsz := mkS_size r.oc
  have HV := Lib.hid (show rightR r = if (r.no == [78] || r.no == ordV r.no) = false then 2 else if (((r.kind == []) == (r.oc == [])) && (r.kind == [] || (isKind r.kind && r.kind == upL r.kind))) = false then 2 else if 256 < r.oc.length then 3 else 0 from rfl)
  clear k0 kB hN
  generalize hq1 : (r.no == [78]) = q1 at HV
  generalize hq2 : (r.no == ordV r.no) = q2 at HV
  have hk1 : r.kind.isEmpty = (r.kind == []) := by cases r.kind <;> rfl
  have hk2 : decide (r.kind = []) = (r.kind == []) := by cases r.kind <;> rfl
  have ho1 : r.oc.isEmpty = (r.oc == []) := by cases r.oc <;> rfl
  have ho2 : decide (r.oc = []) = (r.oc == []) := by cases r.oc <;> rfl
  generalize hqa : (r.kind == []) = qa at HV hk1 hk2
  generalize hqb : (r.oc == []) = qb at HV ho1 ho2
  generalize isKind r.kind = q3 at HV HK
  generalize hq4 : (r.kind == upL r.kind) = q4 at HV
  go_enter Tryz.func171, Tryz.ntmps171
  go_wp2_with fail
  generalize w.alloc (.cells #[.string (mkS r.no), .string (mkS r.kind), .string (mkS r.oc)] 47) = W0 at H0 ⊢
  have c0 := H0.out.c0
  cases q1
  · cases q2
    · go_quiet ((go_at_call 186; exact Calls.quiet_of_same (HO.out _ (H0.out.drewN _))))
      have HB := Lib.hid (below_drewN H0.out.below nq)
      go_wp2_with fail
      go_ret
      exact ⟨ret_int (by rw [HV.out]; simp), HB.out⟩
    · go_quiet ((go_at_call 186; exact Calls.quiet_of_same (HO.out _ (H0.out.drewN _))))
      have H1 := Lib.hid (H0.out.drewN nq)
      clear c0
      generalize W0.drewN nq = w1 at H1 ⊢
      clear H0
      have d1 := H1.out.c1
      have d2 := H1.out.c2
      rcases qa with _ | _ <;> rcases qb with _ | _
      · rcases q3 with _ | _
        · go_wp2_with fail
          go_quiet ((go_at_call 187; exact Calls.quiet_of_same ((HK.out _).mono fun _ _ h => ⟨h.1, h.2.symm⟩)))
          have HB := Lib.hid (below_drewN H1.out.below nq)
          go_wp2_with fail
          go_ret
          exact ⟨ret_int (by rw [HV.out]; simp), HB.out⟩
        · obtain ⟨Y, F, y0, hy0, hF, hS⟩ : ∃ (Y : Type) (F : Y → World) (y0 : Y), F y0 = w1.drew ∧ (∀ y, RBox w w.heap.size r (F y)) ∧ (∀ w', RBox w w.heap.size r w' → ∃ y, w' = F y) :=
            ⟨{ w' // RBox w w.heap.size r w' }, Subtype.val, ⟨_, H1.out.drew⟩, rfl, fun y => y.2, fun w' h => ⟨⟨w', h⟩, rfl⟩⟩
          have hne : Nonempty Y := ⟨y0⟩
          have hF1 := fun y => cellOf (hF y).box 1
          have hF2 := fun y => cellOf (hF y).box 2
          have HFS := Lib.hid (And.intro hF hS)
          clear hF hS d1 d2
          go_wp2_with fail
          refine region_in (by kernel_rfl) (by kernel_rfl) F y0 hy0 ?_
          repeat (go_big_quiet_step (first
            | (go_at_call 187; exact RBox.qsame HFS.out (HK.out _))
            | (go_at_call 188; exact RBox.quiet HFS.out (HC.out _))))
          refine wpQuiet_nil ?_
          rintro _ ⟨y, rfl⟩
          have H2 := Lib.hid (HFS.out.1 y)
          clear hF1 hF2 hy0
          cases q4
          · have HB := Lib.hid H2.out.below
            go_wp2_with fail
            go_ret
            exact ⟨ret_int (by rw [HV.out]; simp), HB.out⟩
          · have _u := trivial
            by_cases hl : 256 < r.oc.length
            · have hlI : (256 : Int) < (r.oc.length : Int) := by omega
              have c2 := H2.out.c2
              have HB := Lib.hid H2.out.below
              go_wp2_with fail
              go_ret
              exact ⟨ret_int (by rw [HV.out]; simp [hl]), HB.out⟩
            · have hlI : ¬ (256 : Int) < (r.oc.length : Int) := by omega
              have c2 := H2.out.c2
              have HB := Lib.hid H2.out.below
              go_wp2_with fail
              go_ret
              exact ⟨ret_int (by rw [HV.out]; simp [hl]), HB.out⟩
      · go_wp2_with fail
        go_quiet (fail)
        have HB := Lib.hid (below_drewN H1.out.below nq)
        go_wp2_with fail
        go_ret
        exact ⟨ret_int (by rw [HV.out]; simp), HB.out⟩
      · go_wp2_with fail
        go_quiet (fail)
        have HB := Lib.hid (below_drewN H1.out.below nq)
        go_wp2_with fail
        go_ret
        exact ⟨ret_int (by rw [HV.out]; simp), HB.out⟩
      · go_wp2_with fail
        go_quiet (fail)
        have H2 := Lib.hid (H1.out.drewN nq)
        clear d1 d2
        by_cases hl : 256 < r.oc.length
        · have hlI : (256 : Int) < (r.oc.length : Int) := by omega
          have c2 := H2.out.c2
          have HB := Lib.hid H2.out.below
          go_wp2_with fail
          go_ret
          exact ⟨ret_int (by rw [HV.out]; simp [hl]), HB.out⟩
        · have hlI : ¬ (256 : Int) < (r.oc.length : Int) := by omega
          have c2 := H2.out.c2
          have HB := Lib.hid H2.out.below
          go_wp2_with fail
          go_ret
          exact ⟨ret_int (by rw [HV.out]; simp [hl]), HB.out⟩
  · go_quiet (fail)
    have H1 := Lib.hid (H0.out.drewN nq)
    clear c0
    generalize W0.drewN nq = w1 at H1 ⊢
    clear H0
    have d1 := H1.out.c1
    have d2 := H1.out.c2
    rcases qa with _ | _ <;> rcases qb with _ | _
    · rcases q3 with _ | _
      · go_wp2_with fail
        go_quiet ((go_at_call 187; exact Calls.quiet_of_same ((HK.out _).mono fun _ _ h => ⟨h.1, h.2.symm⟩)))
        have HB := Lib.hid (below_drewN H1.out.below nq)
        go_wp2_with fail
        go_ret
        exact ⟨ret_int (by rw [HV.out]; simp), HB.out⟩
      · obtain ⟨Y, F, y0, hy0, hF, hS⟩ : ∃ (Y : Type) (F : Y → World) (y0 : Y), F y0 = w1.drew ∧ (∀ y, RBox w w.heap.size r (F y)) ∧ (∀ w', RBox w w.heap.size r w' → ∃ y, w' = F y) :=
          ⟨{ w' // RBox w w.heap.size r w' }, Subtype.val, ⟨_, H1.out.drew⟩, rfl, fun y => y.2, fun w' h => ⟨⟨w', h⟩, rfl⟩⟩
        have hne : Nonempty Y := ⟨y0⟩
        have hF1 := fun y => cellOf (hF y).box 1
        have hF2 := fun y => cellOf (hF y).box 2
        have HFS := Lib.hid (And.intro hF hS)
        clear hF hS d1 d2
        go_wp2_with fail
        refine region_in (by kernel_rfl) (by kernel_rfl) F y0 hy0 ?_
        repeat (go_big_quiet_step (first
          | (go_at_call 187; exact RBox.qsame HFS.out (HK.out _))
          | (go_at_call 188; exact RBox.quiet HFS.out (HC.out _))))
        refine wpQuiet_nil ?_
        rintro _ ⟨y, rfl⟩
        have H2 := Lib.hid (HFS.out.1 y)
        clear hF1 hF2 hy0
        cases q4
        · have HB := Lib.hid H2.out.below
          go_wp2_with fail
          go_ret
          exact ⟨ret_int (by rw [HV.out]; simp), HB.out⟩
        · have _u := trivial
          by_cases hl : 256 < r.oc.length
          · have hlI : (256 : Int) < (r.oc.length : Int) := by omega
            have c2 := H2.out.c2
            have HB := Lib.hid H2.out.below
            go_wp2_with fail
            go_ret
            exact ⟨ret_int (by rw [HV.out]; simp [hl]), HB.out⟩
          · have hlI : ¬ (256 : Int) < (r.oc.length : Int) := by omega
            have c2 := H2.out.c2
            have HB := Lib.hid H2.out.below
            go_wp2_with fail
            go_ret
            exact ⟨ret_int (by rw [HV.out]; simp [hl]), HB.out⟩
    · go_wp2_with fail
      go_quiet (fail)
      have HB := Lib.hid (below_drewN H1.out.below nq)
      go_wp2_with fail
      go_ret
      exact ⟨ret_int (by rw [HV.out]; simp), HB.out⟩
    · go_wp2_with fail
      go_quiet (fail)
      have HB := Lib.hid (below_drewN H1.out.below nq)
      go_wp2_with fail
      go_ret
      exact ⟨ret_int (by rw [HV.out]; simp), HB.out⟩
    · go_wp2_with fail
      go_quiet (fail)
      have H2 := Lib.hid (H1.out.drewN nq)
      clear d1 d2
      by_cases hl : 256 < r.oc.length
      · have hlI : (256 : Int) < (r.oc.length : Int) := by omega
        have c2 := H2.out.c2
        have HB := Lib.hid H2.out.below
        go_wp2_with fail
        go_ret
        exact ⟨ret_int (by rw [HV.out]; simp [hl]), HB.out⟩
      · have hlI : ¬ (256 : Int) < (r.oc.length : Int) := by omega
        have c2 := H2.out.c2
        have HB := Lib.hid H2.out.below
        go_wp2_with fail
        go_ret
        exact ⟨ret_int (by rw [HV.out]; simp [hl]), HB.out⟩
end Go.Proofs.YtojpkbonioglbaaGreatDoor
/-
  The walk of param's PrintRcpt.
-/
namespace Go.Proofs.YtojpkbonioglbaaGreatDoor
set_option maxRecDepth 100000
open Go.RowKit Go.Shelf
/-- A recipient in its box, block g, and a row of texts of the call's own behind it. -/
structure RS (W : World) (g : Nat) (r : RL) (v : Value) (L : List Txt) (w : World) : Prop where
  rb : RBox W g r w
  row : w.ownsRow (g + 1) 9 1 v L.length (strsV L)
  gW : W.heap.size ≤ g
theorem RS.size {W w : World} {g : Nat} {r : RL} {v : Value} {L : List Txt} (h : RS W g r v L w) : g + 1 ≤ w.heap.size := ltOf h.rb.box
theorem RS.next {W w w' : World} {g : Nat} {r : RL} {v : Value} {L : List Txt} (h : RS W g r v L w) (hb : Below w.heap.size w w') : RS W g r v L w' := ⟨h.rb.next hb, own_below h.row hb, h.gW⟩
theorem RS.app {W w w' : World} {g : Nat} {r : RL} {v v' : Value} {L L' : List Txt} {o : Obj} (h : RS W g r v L w) (hown : w'.ownsRow (g + 1) 9 1 v' L'.length (strsV L')) (hg : (w.alloc o).grownBy w' v.ownBlock) : RS W g r v' L' w' := by
  refine ⟨⟨?_, ?_⟩, hown, h.gW⟩
  · refine (hg.block g (by have := h.size; simp; omega) (fun e => ?_)).trans ((Below.heap_alloc w o g (by have := h.size; omega)).trans h.rb.box)
    have := (h.row.lt g e.symm).1
    omega
  · exact (h.rb.below.alloc h.rb.below.size o).grown hg (by have := h.rb.below.size; simp; omega) (fun k hk => by have := (h.row.lt k hk).1; have := h.gW; omega)
theorem RS.drew {W w : World} {g : Nat} {r : RL} {v : Value} {L : List Txt} (h : RS W g r v L w) : RS W g r v L w.drew := ⟨h.rb.drew, h.row, h.gW⟩
theorem RS.al {w : World} {g : Nat} {a b : Value} {o : Obj} (h : w.cell? ⟨g, 1, none⟩ = some a ∧ w.cell? ⟨g, 2, none⟩ = some b) : (w.alloc o).cell? ⟨g, 1, none⟩ = some a ∧ (w.alloc o).cell? ⟨g, 2, none⟩ = some b :=
  ⟨(Below.cell ((Below.refl w.heap.size w).alloc (Nat.le_refl _) o) (p := ⟨g, 1, none⟩) (cell_lt h.1)).trans h.1, (Below.cell ((Below.refl w.heap.size w).alloc (Nat.le_refl _) o) (p := ⟨g, 2, none⟩) (cell_lt h.2)).trans h.2⟩
theorem rightR_len {r : RL} (h : rightR r = 0) : r.kind.length ≤ 32 ∧ r.oc.length ≤ 256 := by
  unfold rightR at h
  split at h
  · cases h
  · split at h
    · cases h
    · rename_i _ hk
      split at h
      · cases h
      · rename_i ho
        refine ⟨?_, by omega⟩
        have hk' : kindB r = true := by simpa using hk
        unfold kindB isKind at hk'
        simp only [Bool.and_eq_true, Bool.or_eq_true, beq_iff_eq, decide_eq_true_eq] at hk'
        rcases hk'.2 with h0 | h0
        · rw [h0]; simp
        · exact h0.1.1.2
theorem namesV_len (l : Txt) : (namesV l).length ≤ 30 := by
  unfold namesV namesL
  split
  · decide
  · split <;> split <;> split <;> decide
set_option maxHeartbeats 8000000 in
theorem printR_x (r : RL) (w : World) (hN : NotR w) (hk : r.kind.length ≤ 1000000000000) : Calls Tryz.prog 156 #[.agg #[.string (mkS r.no), .string (mkS r.kind), .string (mkS r.oc)]] w fun e w' => e = .returned (.tuple #[.string (mkS (printR r)), .int .i64 (rightR r)]) ∧ Below w.heap.size w w' := by
  have k0 := newOf w (.cells #[.string (mkS r.no), .string (mkS r.kind), .string (mkS r.oc)] 47)
  have kB : Below w.heap.size w (w.alloc (.cells #[.string (mkS r.no), .string (mkS r.kind), .string (mkS r.oc)] 47)) := (Below.refl _ w).alloc (Nat.le_refl _) _
  have H0 := Lib.hid (RBox.mk (W := w) k0 kB)
  have HNb := Lib.hid (fun w' (h : RBox w w.heap.size r w') => hN.below h.below)
  have HR := Lib.hid (fun w' h => rightR_x r w' h hk)
  have hT0 := mkS_toList r.no
  have hT1 := mkS_toList r.kind
  have HP0 := Lib.hid (show rightR r ≠ 0 → printR r = [] from fun h => if_neg h)
  have HP1 := Lib.hid (show rightR r = 0 → printR r = joinC 32 (wordsL (wdR r)) from fun h => if_pos h)
  have HLn := Lib.hid (fun h => rightR_len (r := r) h)
  generalize rightR r = E at HR HP0 HP1 HLn ⊢
  clear k0 kB hN
  go_enter Tryz.func156, Tryz.ntmps156
  go_wp2_with fail
  have c0 := H0.out.c0
  have c1 := H0.out.c1
  have c2 := H0.out.c2
  go_wp2_with fail
  generalize w.alloc (.cells #[.string (mkS r.no), .string (mkS r.kind), .string (mkS r.oc)] 47) = W0 at H0 c0 c1 c2 ⊢
  clear c0 c1 c2
  refine (HR.out _ (HNb.out _ H0.out)).mono ?_
  rintro e w1 ⟨rfl, hb⟩
  have H1 := Lib.hid (H0.out.next hb)
  clear hb H0 HR
  by_cases hE : E = 0
  · subst hE
    obtain ⟨hlk, hlo⟩ := HLn.out rfl
    have HPV := Lib.hid (HP1.out rfl)
    clear HP0 HP1 HLn
    have c0 := H1.out.c0
    have c1 := H1.out.c1
    have c2 := H1.out.c2
    have HS1 := Lib.hid (RS.mk H1.out (v := .slice none 0 0) (L := []) (strs_nil _ _) (Nat.le_refl _))
    have hk1 : r.kind.isEmpty = (r.kind == []) := by cases r.kind <;> rfl
    have hk2 : decide (r.kind = []) = (r.kind == []) := by cases r.kind <;> rfl
    have hn1 : r.no.isEmpty = (r.no == []) := by cases r.no <;> rfl
    have hn2 : decide (r.no = []) = (r.no == []) := by cases r.no <;> rfl
    have HW := Lib.hid (show wordsL (wdR r) = (if !(r.no == []) then [kNO ++ [61] ++ namesV r.no] else []) ++ (if !(r.kind == []) then [kOR ++ [61] ++ (r.kind ++ [59] ++ X.encX r.oc)] else []) by
      unfold wdR
      cases hq1 : r.no == [] <;> cases hq2 : r.kind == [] <;> simp [wordsL, bne, hq1, hq2])
    have hcat1 : { data := #[78, 79, 84, 73, 70, 89, 61] } ++ mkS (namesV r.no) = mkS (kNO ++ [61] ++ namesV r.no) := mkS_cat [78, 79, 84, 73, 70, 89, 61] _
    have hcat2 : { data := #[79, 82, 67, 80, 84, 61] } ++ mkS r.kind ++ { data := #[59] } ++ mkS (X.encX r.oc) = mkS (kOR ++ [61] ++ (r.kind ++ [59] ++ X.encX r.oc)) := by
      rw [show ({ data := #[79, 82, 67, 80, 84, 61] } : ByteArray) = mkS [79, 82, 67, 80, 84, 61] from rfl, show ({ data := #[59] } : ByteArray) = mkS [59] from rfl, mkS_cat, mkS_cat, mkS_cat]
      simp [kOR]
    have hl1 := namesV_len r.no
    have hl2 := (X.encX_len r.oc).2
    have HNn := Lib.hid (fun w h => names_x r.no w h)
    have HEn := Lib.hid (fun w => X.encode_x r.oc w (by omega))
    have hw1 : (kNO ++ [61] ++ namesV r.no).length ≤ 100 := by simp [kNO]; omega
    have hw2 : (kOR ++ [61] ++ (r.kind ++ [59] ++ X.encX r.oc)).length ≤ 10000 := by simp [kOR]; omega
    generalize kNO ++ [61] ++ namesV r.no = W1 at HW hcat1 hw1
    generalize kOR ++ [61] ++ (r.kind ++ [59] ++ X.encX r.oc) = W2 at HW hcat2 hw2
    generalize namesV r.no = nv at HNn hcat1 hl1
    have hl3 : (X.encX r.oc).length ≤ 10000 := by omega
    generalize X.encX r.oc = ev at HEn hcat2 hl3
    clear hl2 hlo
    generalize hq1 : (r.no == []) = q1 at HW hn1 hn2
    generalize hq2 : (r.kind == []) = q2 at HW hk1 hk2
    have hz0 : (mkS nv).size ≤ 100 := by rw [mkS_size]; omega
    have hz1 : (mkS r.kind).size ≤ 100 := by rw [mkS_size]; omega
    have hz2 : (mkS ev).size ≤ 10000 := by rw [mkS_size]; omega
    clear hl1 hl3 hlk
    have hy1 : ¬ 9223372036854775807 < 6 + (mkS r.kind).size := by omega
    have hy2 : ¬ 9223372036854775807 < 6 + (mkS r.kind).size + 1 := by omega
    have hy3 : ¬ 9223372036854775807 < 6 + (mkS r.kind).size + 1 + (mkS ev).size := by omega
    cases q1
    · cases q2
      · go_wp2_with fail
        refine (HNn.out _ (HNb.out _ H1.out)).mono ?_
        rintro e w2 ⟨rfl, hb⟩
        have HS2 := Lib.hid (HS1.out.next hb)
        clear hb HS1 H1 c0 c1 c2
        have d1 := HS2.out.rb.c1
        go_wp2_with (at_builtin; refine app_strs rfl (.tmp 14) (.tmp 19) rfl (w.heap.size + 1) (.slice none 0 0) [] rfl (HS2.out.row.alloc _) ⟨w2.heap.size, 0, none⟩ 1 1 [W1] rfl rfl (news_one w2 W1) (by simp) (by have := HS2.out.size; simp; omega) ?_; intro v1 w3 hown hg; have HS3 := Lib.hid (RS.app (L' := [W1]) HS2.out hown hg); clear hown hg HS2 d1; have d1 := HS3.out.rb.c1; have d2 := HS3.out.rb.c2; obtain ⟨A, c, rfl⟩ := strs_slice HS3.out.row)
        have C1 := Lib.hid (show ([W1]).length + 1 ≤ 100000000 by simp)
        go_region_held3 (fun wr => wr.cell? ⟨w.heap.size, 1, none⟩ = some (.string (mkS r.kind)) ∧ wr.cell? ⟨w.heap.size, 2, none⟩ = some (.string (mkS r.oc)))
          (first | exact ⟨HS3.out.drew.rb.c1, HS3.out.drew.rb.c2⟩ | exact ⟨HS3.out.rb.c1, HS3.out.rb.c2⟩ | exact ⟨by assumption, by assumption⟩ | exact RS.al (by assumption))
          (first
            | (go_at_call 56; (with_reducible refine (HEn.out _).mono ?_); rintro e w4 ⟨rfl, hb4⟩; have g0 := Lib.hid (HS3.out.drew.next hb4); have g1 := g0.out.rb.c1; have g2 := g0.out.rb.c2)
            | (refine step_strs rfl (.tmp 24) (.tmp 33) rfl (w.heap.size + 1) (.slice A 1 c) [W1] rfl (g0.out.row.alloc _) ⟨w4.heap.size, 0, none⟩ 1 1 [W2] rfl rfl (news_one w4 W2) (Nat.zero_lt_succ 0) C1.out (by have := g0.out.size; simp; omega) ?_; intro v2 w5 hown2 hg2; have g5 := Lib.hid (RS.app (L' := [W1, W2]) g0.out hown2 hg2); have g6 := g5.out.rb.c1; have g7 := g5.out.rb.c2))
        all_goals
          have HS4 := g5
          clear hown2 hg2 C1 g0 g1 g2 hb4 g5 g6 g7
          have HJ := Lib.hid (join_x 32 (w.heap.size + 1) v2 [W1, W2] _ HS4.out.row (by simp) (by simp [Lib.lens]; try omega))
          clear hw1 hw2
          have HX := Lib.hid HS4.out.rb
          clear HS4
          go_wp2_with fail
          refine HJ.out.mono ?_
          rintro e w9 ⟨rfl, hb⟩
          have HB := Lib.hid (HX.out.next hb).below
          clear hb
          go_wp2_with fail
          go_ret2
          exact ⟨by rw [HPV.out, HW.out]; rfl, HB.out⟩
        
      · go_wp2_with fail
        refine (HNn.out _ (HNb.out _ H1.out)).mono ?_
        rintro e w2 ⟨rfl, hb⟩
        have HS2 := Lib.hid (HS1.out.next hb)
        clear hb HS1 H1 c0 c1 c2
        have d1 := HS2.out.rb.c1
        go_wp2_with (at_builtin; refine app_strs rfl (.tmp 14) (.tmp 19) rfl (w.heap.size + 1) (.slice none 0 0) [] rfl (HS2.out.row.alloc _) ⟨w2.heap.size, 0, none⟩ 1 1 [W1] rfl rfl (news_one w2 W1) (by simp) (by have := HS2.out.size; simp; omega) ?_; intro v1 w3 hown hg; have HS3 := Lib.hid (RS.app (L' := [W1]) HS2.out hown hg); clear hown hg HS2 d1; have d1 := HS3.out.rb.c1; have d2 := HS3.out.rb.c2; obtain ⟨A, c, rfl⟩ := strs_slice HS3.out.row)
        have HJ := Lib.hid (join_x 32 (w.heap.size + 1) (.slice A 1 c) [W1] _ HS3.out.row (by simp) (by simp [Lib.lens]; try omega))
        clear hw1 hw2
        have HX := Lib.hid HS3.out.rb
        clear HS3
        refine HJ.out.mono ?_
        rintro e w9 ⟨rfl, hb⟩
        have HB := Lib.hid (HX.out.next hb).below
        clear hb
        go_wp2_with fail
        go_ret2
        exact ⟨by rw [HPV.out, HW.out]; rfl, HB.out⟩

    · cases q2
      · have C1 := Lib.hid (show (([] : List Txt)).length + 1 ≤ 100000000 by simp)
        go_wp2_with fail
        go_region_held3 (fun wr => wr.cell? ⟨w.heap.size, 1, none⟩ = some (.string (mkS r.kind)) ∧ wr.cell? ⟨w.heap.size, 2, none⟩ = some (.string (mkS r.oc)))
          (first | exact ⟨HS1.out.drew.rb.c1, HS1.out.drew.rb.c2⟩ | exact ⟨HS1.out.rb.c1, HS1.out.rb.c2⟩ | exact ⟨by assumption, by assumption⟩ | exact RS.al (by assumption))
          (first
            | (go_at_call 56; (with_reducible refine (HEn.out _).mono ?_); rintro e w4 ⟨rfl, hb4⟩; have g0 := Lib.hid (HS1.out.drew.next hb4); have g1 := g0.out.rb.c1; have g2 := g0.out.rb.c2)
            | (refine step_strs rfl (.tmp 24) (.tmp 33) rfl (w.heap.size + 1) (.slice none 0 0) ([] : List Txt) rfl (g0.out.row.alloc _) ⟨w4.heap.size, 0, none⟩ 1 1 [W2] rfl rfl (news_one w4 W2) (Nat.zero_lt_succ 0) C1.out (by have := g0.out.size; simp; omega) ?_; intro v2 w5 hown2 hg2; have g5 := Lib.hid (RS.app (L' := [W2]) g0.out hown2 hg2); have g6 := g5.out.rb.c1; have g7 := g5.out.rb.c2))
        all_goals
          have HS3 := g5
          clear hown2 hg2 C1 g0 g1 g2 hb4 g5 g6 g7
          have HJ := Lib.hid (join_x 32 (w.heap.size + 1) v2 [W2] _ HS3.out.row (by simp) (by simp [Lib.lens]; try omega))
          clear hw1 hw2
          have HX := Lib.hid HS3.out.rb
          clear HS3
          go_wp2_with fail
          refine HJ.out.mono ?_
          rintro e w9 ⟨rfl, hb⟩
          have HB := Lib.hid (HX.out.next hb).below
          clear hb
          go_wp2_with fail
          go_ret2
          exact ⟨by rw [HPV.out, HW.out]; rfl, HB.out⟩
        
      · have HJ := Lib.hid (join_x 32 (w.heap.size + 1) (.slice none 0 0) ([] : List Txt) _ HS1.out.row (by simp) (by simp [Lib.lens]; try omega))
        clear hw1 hw2
        have HX := Lib.hid HS1.out.rb
        clear HS1
        go_wp2_with fail
        refine HJ.out.mono ?_
        rintro e w9 ⟨rfl, hb⟩
        have HB := Lib.hid (HX.out.next hb).below
        clear hb
        go_wp2_with fail
        go_ret2
        exact ⟨by rw [HPV.out, HW.out]; rfl, HB.out⟩

  · have HV := Lib.hid (HP0.out hE)
    clear HP0 HP1 HLn
    go_wp2_with fail
    go_ret2
    exact ⟨by rw [HV.out]; rfl, H1.out.below⟩
end Go.Proofs.YtojpkbonioglbaaGreatDoor
/-
  What may be told is printed, and read it is the same; are the texts short?
-/
namespace Go.Proofs.YtojpkbonioglbaaGreatDoor
set_option maxRecDepth 100000
open Go.RowKit Go.Shelf
theorem wordsL_le : ∀ ws : List Wd, (wordsL ws).length ≤ ws.length
  | [] => Nat.le_refl _
  | (b, k, v) :: r => by
    have ih := wordsL_le r
    rw [wordsL]
    split <;> simp <;> omega
theorem join_le {ws : List Wd} {n : Nat} (h : ∀ t ∈ ws, t.2.1.length + 1 + t.2.2.length ≤ n) : (joinC 32 (wordsL ws)).length ≤ ws.length + ws.length * n := by
  have h1 := joinC_len 32 (wordsL ws)
  have h2 := wordsL_le ws
  have h3 := lens_le (wordsL ws) n fun x hx => by
    obtain ⟨t, ht, _, rfl⟩ := wordsL_mem hx
    have := h t ht
    simp only [List.length_append, List.length_cons, List.length_nil]
    omega
  have h4 := Nat.mul_le_mul_right n h2
  omega
theorem printM_len {m : ML} (h : rightM m = 0) : (printM m).length ≤ 1000000 := by
  have hF := fits h
  have hl1 := itoa_len hF.sz.1 hF.sz.2
  have hl2 := itoa_len hF.fo.1 hF.fo.2
  have hl3 := itoa_len hF.by_.1 hF.by_.2
  have hl4 := itoa_len hF.pr.1 hF.pr.2
  have hl5 : (X.encX m.env).length ≤ 300 := by have := (X.encX_len m.env).2; have := hF.env; omega
  have hl6 := printS_le m.un
  have hl7 := hF.body
  have hl8 := hF.ret
  have hl9 := hF.mode
  rw [printM, if_pos h]
  have := join_le (ws := wdM m) (n := 1000) (by
    unfold wdM
    simp only [List.mem_cons, List.not_mem_nil, or_false, forall_eq_or_imp, forall_eq]
    simp [kSIZE, kBODY, kRET, kENV, kHF, kHU, kBY, kPR]
    omega)
  have h8 : (wdM m).length = 8 := rfl
  rw [h8] at this
  omega
theorem printR_len {r : RL} (h : rightR r = 0) : (printR r).length ≤ 1000000 := by
  obtain ⟨hl1, hl2⟩ := rightR_len h
  have hl3 := namesV_len r.no
  have hl4 := (X.encX_len r.oc).2
  rw [printR, if_pos h]
  have := join_le (ws := wdR r) (n := 2000) (by
    unfold wdR
    simp only [List.mem_cons, List.not_mem_nil, or_false, forall_eq_or_imp, forall_eq]
    simp [kNO, kOR]
    omega)
  have h8 : (wdR r).length = 2 := rfl
  rw [h8] at this
  omega
/-- Are the texts short? -/
def smallB (m : ML) (r : RL) : Bool := decide (m.body.length + m.ret.length + m.env.length + m.mode.length ≤ 2000) && decide (r.no.length + r.kind.length + r.oc.length ≤ 2000)
def ShortM (m : ML) : Prop := m.body.length ≤ 281474976710656 ∧ m.ret.length ≤ 281474976710656 ∧ m.env.length ≤ 281474976710656 ∧ m.mode.length ≤ 281474976710656
def ShortR (r : RL) : Prop := r.no.length ≤ 281474976710656 ∧ r.kind.length ≤ 281474976710656 ∧ r.oc.length ≤ 281474976710656
set_option maxHeartbeats 8000000 in
theorem small_x (m : ML) (r : RL) (w : World) (hm : ShortM m) (hr : ShortR r) : Calls Tryz.prog 43 #[.agg #[.bool m.hs, .bool m.hf, .bool m.hu, .bool m.hb, .bool m.hp, .int .i64 m.sz, .int .i64 m.fo, .int .i64 m.un, .int .i64 m.by_, .int .i64 m.pr, .string (mkS m.body), .string (mkS m.ret), .string (mkS m.env), .string (mkS m.mode)], .agg #[.string (mkS r.no), .string (mkS r.kind), .string (mkS r.oc)]] w fun e w' => e = .returned (.bool (smallB m r)) ∧ Below w.heap.size w w' := by
  obtain ⟨b1, b2, b3, b4⟩ := hm
  obtain ⟨b5, b6, b7⟩ := hr
  have z1 := mkS_size m.body
  have z2 := mkS_size m.ret
  have z3 := mkS_size m.env
  have z4 := mkS_size m.mode
  have z5 := mkS_size r.no
  have z6 := mkS_size r.kind
  have z7 := mkS_size r.oc
  have HB := Lib.hid (((Below.refl w.heap.size w).alloc (Nat.le_refl _) (.cells #[.bool m.hs, .bool m.hf, .bool m.hu, .bool m.hb, .bool m.hp, .int .i64 m.sz, .int .i64 m.fo, .int .i64 m.un, .int .i64 m.by_, .int .i64 m.pr, .string (mkS m.body), .string (mkS m.ret), .string (mkS m.env), .string (mkS m.mode)] 31)).alloc (by simp) (.cells #[.string (mkS r.no), .string (mkS r.kind), .string (mkS r.oc)] 47))
  have HV := Lib.hid (show smallB m r = (decide (m.body.length + m.ret.length + m.env.length + m.mode.length ≤ 2000) && decide (r.no.length + r.kind.length + r.oc.length ≤ 2000)) from rfl)
  have q1 : IntKind.i64.wrap ((m.body.length : Int) + m.ret.length) = m.body.length + m.ret.length := IntWalk.i64_in _ (by omega)
  have q2 : IntKind.i64.wrap ((m.body.length : Int) + m.ret.length + m.env.length) = m.body.length + m.ret.length + m.env.length := IntWalk.i64_in _ (by omega)
  have q3 : IntKind.i64.wrap ((m.body.length : Int) + m.ret.length + m.env.length + m.mode.length) = m.body.length + m.ret.length + m.env.length + m.mode.length := IntWalk.i64_in _ (by omega)
  have q4 : IntKind.i64.wrap ((r.no.length : Int) + r.kind.length) = r.no.length + r.kind.length := IntWalk.i64_in _ (by omega)
  have q5 : IntKind.i64.wrap ((r.no.length : Int) + r.kind.length + r.oc.length) = r.no.length + r.kind.length + r.oc.length := IntWalk.i64_in _ (by omega)
  clear b1 b2 b3 b4 b5 b6 b7
  by_cases h1 : m.body.length + m.ret.length + m.env.length + m.mode.length ≤ 2000
  · have h1' : (m.body.length : Int) + m.ret.length + m.env.length + m.mode.length ≤ 2000 := by omega
    by_cases h2 : r.no.length + r.kind.length + r.oc.length ≤ 2000
    · have h2' : (r.no.length : Int) + r.kind.length + r.oc.length ≤ 2000 := by omega
      rw [decide_eq_true h1, decide_eq_true h2] at HV
      clear h1 h2
      go_enter Tryz.func43, Tryz.ntmps43
      go_wp2_with fail
      go_ret
      exact ⟨ret_bool (by rw [HV.out]; rfl), HB.out⟩
    · have h2' : ¬ (r.no.length : Int) + r.kind.length + r.oc.length ≤ 2000 := by omega
      rw [decide_eq_true h1, decide_eq_false h2] at HV
      clear h1 h2
      go_enter Tryz.func43, Tryz.ntmps43
      go_wp2_with fail
      go_ret
      exact ⟨ret_bool (by rw [HV.out]; rfl), HB.out⟩
  · have h1' : ¬ (m.body.length : Int) + m.ret.length + m.env.length + m.mode.length ≤ 2000 := by omega
    rw [decide_eq_false h1] at HV
    clear h1
    go_enter Tryz.func43, Tryz.ntmps43
    go_wp2_with fail
    go_ret
    exact ⟨ret_bool (by rw [HV.out]; rfl), HB.out⟩
end Go.Proofs.YtojpkbonioglbaaGreatDoor
