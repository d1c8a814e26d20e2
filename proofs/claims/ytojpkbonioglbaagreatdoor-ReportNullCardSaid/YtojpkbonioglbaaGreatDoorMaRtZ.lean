import Derived.Test.YtojpkbonioglbaaGreatDoorMaRtY
namespace Go.Proofs.YtojpkbonioglbaaGreatDoor.E.T
set_option maxRecDepth 100000
set_option linter.unusedSimpArgs false
open Go.RowKit Go.Shelf
def rp00 : Rp := ⟨0, (0, 0, 0), []⟩
def uE : EM := ⟨1, 60, 60, ([97], [98]), zeroM, [rA], [[83, 117, 98, 106, 101, 99, 116, 58, 32, 120], [], [98, 111, 100, 121]]⟩
def uR : RT := ⟨kFai, uE, 0, 120, 0, [104, 101, 114, 101], rp00⟩
def uX : RT := ⟨[120], uE, 0, 120, 0, [104, 101, 114, 101], rp00⟩
def uN : RT := ⟨kFai, ⟨1, 60, 60, ([], []), zeroM, [rA], [[83, 117, 98, 106, 101, 99, 116, 58, 32, 120], [], [98, 111, 100, 121]]⟩, 0, 120, 0, [104, 101, 114, 101], rp00⟩
def zR : RT := ⟨[], zeroE, 0, 0, 0, [], rp00⟩
theorem ok_u : OkE uE := ⟨by decide, by decide, by decide, fun c hc => by
  have hc' : c = cmdM mA ∨ c = cmdR rA := by simpa [cmds, uE, cmdM, mA] using hc
  rcases hc' with rfl | rfl
  ·exact pr_m.1
  ·exact pr_r.1, by decide, by decide +kernel, by decide +kernel⟩
theorem ok_n : OkE uN.x := ⟨by decide, by decide, by decide, fun c hc => by
  have hc' : c = cmdM ⟨0, 0, 0, ([], []), zeroM, [], []⟩ ∨ c = cmdR rA := by simpa [cmds, uN, cmdM] using hc
  rcases hc' with rfl | rfl
  ·exact pr_null
  ·exact pr_r.1, by decide, by decide +kernel, by decide +kernel⟩
theorem okr_u : OkR uR := ⟨by decide, by decide, by decide, by decide, ok_u, by decide, ⟨by decide +kernel, by decide +kernel⟩, .inl rfl⟩
theorem rt_u : rtE uR = 0 := ok_rt okr_u
theorem rt_x : rtE uX = 10 := by
 unfold rtE
 rw [if_pos (by decide)]
theorem rt_n : rtE uN = 9 := by
 have h := en_iff.2 ok_n
 unfold rtE
 rw [if_neg (by decide), if_neg (by decide), if_neg (fun hh => hh h), if_pos (by decide)]
def hasB (l : List Txt) (s : Txt) : Bool := l.any fun t => t == s
theorem len_u : (rtLines uR).length = 27 := by kernel_rfl
theorem has_1 : hasB (rtLines uR) [65, 99, 116, 105, 111, 110, 58, 32, 102, 97, 105, 108, 101, 100] = true := by kernel_rfl
theorem has_2 : hasB (rtLines uR) [83, 116, 97, 116, 117, 115, 58, 32, 53, 46, 48, 46, 48] = true := by kernel_rfl
theorem has_3 : hasB (rtLines uR) [70, 105, 110, 97, 108, 45, 82, 101, 99, 105, 112, 105, 101, 110, 116, 58, 32, 114, 102, 99, 56, 50, 50, 59, 32, 99, 64, 100] = true := by kernel_rfl
theorem has_4 : hasB (rtLines uR) [83, 117, 98, 106, 101, 99, 116, 58, 32, 120] = true := by kernel_rfl
theorem has_5 : hasB (rtLines uR) [98, 111, 100, 121] = false := by kernel_rfl
theorem bnd_2 : bnd [[45, 45, 114, 101, 112, 111, 114, 116, 46, 49]] = [114, 101, 112, 111, 114, 116, 46, 50] := by kernel_rfl
theorem code_u : rtCode uR = (5, 0, 0) := rfl
theorem mk_u : mkE uR 9 = 0 ∧ mkV uR 9 = mk uR 9 := by
 have h : mkE uR 9 = 0 := by unfold mkE; rw [if_neg (fun h => h rt_u), if_neg (by decide)]
 exact ⟨h, by unfold mkV; rw [if_pos h]⟩
theorem fit_u : FitE uE := ⟨by decide, by decide, by decide, by decide +kernel, by decide⟩
theorem ri_0 : R.RI 0 (0, 0, 0) := ⟨⟨by decide, by decide⟩, ⟨by decide, by decide⟩, ⟨by decide, by decide⟩, ⟨by decide, by decide⟩⟩
theorem rp_u {w : World} {vr vl vt : Value} (h : RAt w uR vr vl vt) (hR : Rdy w) : RP w uR vr vl vt := ⟨h, fit_u, hR, ri_0, by decide, fun t ht => (by cases ht), by decide, by decide⟩
theorem rp_x {w : World} {vr vl vt : Value} (h : RAt w uR vr vl vt) (hR : Rdy w) : RP w uX vr vl vt := ⟨⟨h.e, h.t⟩, fit_u, hR, ri_0, by decide, fun t ht => (by cases ht), by decide, by decide⟩
theorem rp_n {w : World} {vr vl vt : Value} (h : RAt w uR vr vl vt) (hR : Rdy w) : RP w uN vr vl vt := ⟨⟨⟨h.e.rc, h.e.ls⟩, h.t⟩, ⟨by decide, by decide, by decide, by decide +kernel, by decide⟩, hR, ri_0, by decide, fun t ht => (by cases ht), by decide, by decide⟩
set_option maxHeartbeats 2000000 in
theorem has_x (v : Value) (l : List Txt) (s : Txt) (w : World) (hT : TxtsAt w v l) (hn : l.length ≤ 1000000000) : Calls Tryz.prog 15 #[v, .string (mkS s)] w fun e w' => e = .returned (.bool (hasB l s)) ∧ w = w' := by
 obtain ⟨a, cap, rfl, _, _, hx⟩ := hT
 have HX := Lib.hid hx
 clear hx
 generalize hN : l.length = N at *
 have HN := Lib.hid hN
 clear hN
 go_enter Tryz.func15, Tryz.ntmps15
 go_wp2_with fail
 go_loopw [5] (fun i wr => ∃ k : Nat, k ≤ N ∧ i = .int .i64 k ∧ w = wr ∧ Hid ((l.take k).any (fun t => t == s) = false)) (fun i _ => N - (intOf i).toNat)
 case atStart => exact ⟨0, Nat.zero_le _, rfl, rfl, Lib.hid rfl⟩
 case round =>
  obtain ⟨k, hk, rfl, rfl, HK⟩ := hrel
  by_cases hlt : k < N
  ·obtain ⟨t, ht⟩ : ∃ t, l[k]? = some t := ⟨_, List.getElem?_eq_getElem (by have := HN.out; omega)⟩
   obtain ⟨ad, rfl, hab, hat⟩ := HX.out k t ht
   have ee : ((mkS t).toList == (mkS s).toList) = (t == s) := mkS_eqb _ _
   have HT := Lib.hid ht
   clear ht
   cases hq : (t == s)
   ·have HQ := Lib.hid hq
    rw [hq] at ee
    clear hq
    go_wp2_with fail
    go_roundw
    case rel =>
     refine ⟨k + 1, by omega, by go_num, trivial, Lib.hid ?_⟩
     obtain ⟨h1, h2⟩ := List.getElem?_eq_some_iff.1 HT.out
     rw [List.take_succ_eq_append_getElem h1, List.any_append, HK.out, h2]
     simp [HQ.out]
    case measure => simp [intOf]; omega
   ·have HQ := Lib.hid hq
    rw [hq] at ee
    clear hq
    go_wp2_with fail
    go_ret
    refine ⟨ret_bool ?_, rfl⟩
    unfold hasB
    exact (List.any_eq_true.2 ⟨t, List.mem_of_getElem? HT.out, HQ.out⟩).symm
  ·obtain rfl : k = N := by omega
   go_wp2_with fail
   go_ret
   refine ⟨ret_bool ?_, rfl⟩
   have h := HK.out
   rw [← HN.out, List.take_length] at h
   unfold hasB
   exact h.symm
end Go.Proofs.YtojpkbonioglbaaGreatDoor.E.T
namespace Go.Proofs.YtojpkbonioglbaaGreatDoor.E.T
set_option maxRecDepth 100000
set_option linter.unusedSimpArgs false
open Go.RowKit Go.Shelf
theorem one_REs (r : RT) (a b c : Option Addr) (n1 n2 n3 c1 c2 c3 : Nat) : (RE r (.slice a n1 c1) (.slice b n2 c2) (.slice c n3 c3)).all (·.oneCell') = true := by kernel_rfl
theorem whole_REs (cs : Array Value) (r : RT) (vr vl vt : Value) (h : cs.size = 31) : RE r vr vl vt = (cs.toList.take 0 ++ (RE r vr vl vt).toList ++ cs.toList.drop (0 + (RE r vr vl vt).size)).toArray := by
 rw [List.take_zero, List.nil_append, List.drop_of_length_le (by rw [Array.length_toList, h]; exact Nat.le_refl _), List.append_nil]
theorem new_four (w : World) (a b c d : Obj) : ((((w.alloc a).alloc b).alloc c).alloc d).heap[w.heap.size + 1 + 1 + 1]? = some d := by
 have h := newOf (((w.alloc a).alloc b).alloc c) d
 rwa [show (((w.alloc a).alloc b).alloc c).heap.size = w.heap.size + 1 + 1 + 1 by simp] at h
theorem four_facts {w w5 : World} {a b c d : Obj} (hA : Apart (w.heap.size + 1 + 1 + 1) ((((w.alloc a).alloc b).alloc c).alloc d).heap.size ((((w.alloc a).alloc b).alloc c).alloc d) w5) : w5.heap[w.heap.size]? = some a ∧ w5.heap[w.heap.size + 1]? = some b ∧ w5.heap[w.heap.size + 1 + 1]? = some c ∧ Below w.heap.size w w5 := by
 have e : (((w.alloc a).alloc b).alloc c).heap.size = w.heap.size + 1 + 1 + 1 := by simp
 have e2 : ((w.alloc a).alloc b).heap.size = w.heap.size + 1 + 1 := by simp
 have e1 : (w.alloc a).heap.size = w.heap.size + 1 := by simp
 have hf := far_apart (w := ((w.alloc a).alloc b).alloc c) (o := d) (w' := w5) (by rw [e]; exact hA)
 have h2 := newOf ((w.alloc a).alloc b) c
 have h1 := newOf (w.alloc a) b
 have h0 := newOf w a
 have b1 := below_box w a
 have b2 := below_box (w.alloc a) b
 have b3 := below_box ((w.alloc a).alloc b) c
 rw [e2] at h2
 rw [e1] at h1
 have f := fun k (hk : k < w.heap.size + 1 + 1 + 1) => hf.block k (by rw [e]; exact hk)
 exact ⟨(f _ (by omega)).trans ((b3.block _ (by omega)).trans ((b2.block _ (by omega)).trans h0)), (f _ (by omega)).trans ((b3.block _ (by omega)).trans h1), (f _ (by omega)).trans h2, below_next (below_next (below_next b1 b2) b3) hf⟩
theorem rcs_heap {w : World} {g : Nat} (p : P.Pth) (hn : w.heap[g]? = some (.cells (RC ⟨p, zeroR⟩) 49 (0, 0))) : RcsAt w (.slice (some ⟨g, 0, none⟩) 1 1) [⟨p, zeroR⟩] := by
 refine ⟨_, 1, rfl, Nat.le_refl _, fun e => (by cases e), fun i c hi => ?_⟩
 cases i with
 | succ i => cases hi
 | zero =>
  injection hi with hi
  subst hi
  refine ⟨_, rfl, ltOf hn, ?_⟩
  rw [Nat.zero_mul, show (⟨g, 0, none⟩ : Addr).add 0 = ⟨g, 0, none⟩ from rfl]
  exact ⟨ltOf hn, cellOf hn 0, cellOf hn 1, cellOf hn 2, cellOf hn 3, cellOf hn 4⟩
theorem txts_heap {w : World} {g : Nat} {cs : Array Value} (l : List Txt) (hn : w.heap[g]? = some (.cells cs 9 (0, 0))) (hcs : cs.toList = strsV l) : TxtsAt w (.slice (some ⟨g, 0, none⟩) l.length l.length) l := by
 refine ⟨_, _, rfl, Nat.le_refl _, fun e => (by cases e), fun i t hi => ⟨_, rfl, ltOf hn, ?_⟩⟩
 rw [show ((⟨g, 0, none⟩ : Addr).add i) = ⟨g, 0 + i, none⟩ by cases i <;> simp [Addr.add]]
 rw [cellOf hn, Nat.zero_add, ← Array.getElem?_toList, hcs, strsV, List.getElem?_map, hi]
 rfl
def UsPost (w : World) (e : Ending) (w' : World) : Prop := ∃ vr vl, e = .returned (rtA uR vr vl nilS) ∧ RAt w' uR vr vl nilS ∧ Below w.heap.size w w' ∧ (∀ k, vr.ownBlock = some k → w.heap.size ≤ k) ∧ (∀ k, vl.ownBlock = some k → w.heap.size ≤ k)
set_option maxHeartbeats 8000000 in
theorem usual_x (w : World) : Calls Tryz.prog 16 #[] w (UsPost w) := by
 go_enter Tryz.func16, Tryz.ntmps16
 go_upto_region 2 with (first | ((with_reducible refine tis_store (ty := 34) (x := .tmp 1) (y := .tmp 7) rfl ?_); refine wpList_store_blk rfl 34 (.tmp 1) (.tmp 7) rfl (w.heap.size + 1 + 1 + 1) 0 34 (EC zeroE nilS nilS) (EC uE (.slice (some ⟨w.heap.size + 1, 0, none⟩) 1 1) (.slice (some ⟨w.heap.size + 1 + 1, 0, none⟩) 3 3)) (EC uE (.slice (some ⟨w.heap.size + 1, 0, none⟩) 1 1) (.slice (some ⟨w.heap.size + 1 + 1, 0, none⟩) 3 3)) rfl rfl (new_four w _ _ _ _) size_msg (one_ECs _ _ _ _ _ _ _) (Nat.le_of_eq rfl) (whole_EC _ _ _ _ rfl) ?_; intro w5 hB hA))
 obtain ⟨k0, k1, k2, kb⟩ := four_facts hA
 have HM := Lib.hid hB
 clear hA hB
 have HZ := Lib.hid (show w5.heap[w.heap.size]? = some (.cells (RE zR nilS nilS nilS) 39 (0, 0)) from k0)
 have HE := Lib.hid (show EAt w5 uE (.slice (some ⟨w.heap.size + 1, 0, none⟩) 1 1) (.slice (some ⟨w.heap.size + 1 + 1, 0, none⟩) 3 3) from ⟨rcs_heap ([99], [100]) k1, txts_heap [[83, 117, 98, 106, 101, 99, 116, 58, 32, 120], [], [98, 111, 100, 121]] k2 rfl⟩)
 have HB1 := Lib.hid kb
 clear k0 k1 k2 kb
 go_wp2_with (first | ((with_reducible refine tis_load (ty := 34) (x := .tmp 1) rfl ?_); refine tload ?_ 34 (.tmp 1) rfl (w.heap.size + 1 + 1 + 1) 0 34 (EC uE (.slice (some ⟨w.heap.size + 1, 0, none⟩) 1 1) (.slice (some ⟨w.heap.size + 1 + 1, 0, none⟩) 3 3)) #[.int .i64 1, .int .i64 60, .int .i64 60, .string { data := #[97] }, .string { data := #[98] }, .bool false, .bool false, .bool false, .bool false, .bool false, .int .i64 0, .int .i64 0, .int .i64 0, .int .i64 0, .int .i64 0, .string { data := #[] }, .string { data := #[] }, .string { data := #[] }, .string { data := #[] }, .slice (some ⟨w.heap.size + 1, 0, none⟩) 1 1, .slice (some ⟨w.heap.size + 1 + 1, 0, none⟩) 3 3] _ rfl HM.out Tryz.underlying34 rfl size_msg (fun j _ => by rw [Nat.zero_add]; rfl) ?_; (focus (first | rfl | (go_simp; done)))) | ((with_reducible refine tis_store (ty := 39) (x := .tmp 0) (y := .tmp 9) rfl ?_); refine wpList_store_blk rfl 39 (.tmp 0) (.tmp 9) rfl (w.heap.size) 0 39 (RE zR nilS nilS nilS) (RE uR (.slice (some ⟨w.heap.size + 1, 0, none⟩) 1 1) (.slice (some ⟨w.heap.size + 1 + 1, 0, none⟩) 3 3) nilS) (RE uR (.slice (some ⟨w.heap.size + 1, 0, none⟩) 1 1) (.slice (some ⟨w.heap.size + 1 + 1, 0, none⟩) 3 3) nilS) rfl rfl (HZ.out) size_rt (one_REs _ _ _ _ _ _ _ _ _ _) (Nat.le_of_eq rfl) (whole_REs _ _ _ _ _ rfl) ?_; intro w6 hB hA))
 refine bodyPost_ret (v := rtA uR (.slice (some ⟨w.heap.size + 1, 0, none⟩) 1 1) (.slice (some ⟨w.heap.size + 1 + 1, 0, none⟩) 3 3) nilS) (results_cell_row rfl _ _ w.heap.size 39 (RE uR (.slice (some ⟨w.heap.size + 1, 0, none⟩) 1 1) (.slice (some ⟨w.heap.size + 1 + 1, 0, none⟩) 3 3) nilS) (0, 0) _ rfl hB Tryz.underlying39 rfl size_rt) rfl ?_
 refine ⟨_, _, rfl, ⟨HE.out.apart hA (fun k hk => by have hk2 : w.heap.size + 1 = k := (by simpa [Value.ownBlock] using hk); omega) (fun k hk => by have hk2 : w.heap.size + 1 + 1 = k := (by simpa [Value.ownBlock] using hk); omega), txts_nil _⟩, HB1.out.trans (hA.below HB1.out.size (Nat.le_refl _)), fun k hk => (by have hk2 : w.heap.size + 1 = k := (by simpa [Value.ownBlock] using hk); omega), fun k hk => (by have hk2 : w.heap.size + 1 + 1 = k := (by simpa [Value.ownBlock] using hk); omega)⟩
end Go.Proofs.YtojpkbonioglbaaGreatDoor.E.T
namespace Go.Proofs.YtojpkbonioglbaaGreatDoor.E.T
set_option maxRecDepth 100000
set_option linter.unusedSimpArgs false
open Go.RowKit Go.Shelf
theorem TxtsAt.set {w w' : World} {v : Value} {l : List Txt} {B : Nat} (h : TxtsAt w v l) (hA : Apart B w.heap.size w w') (hk : ∀ k, v.ownBlock = some k → B < k) : TxtsAt w' v l :=
 (EAt.apart (x := ⟨0, 0, 0, ([], []), zeroM, [], l⟩) (vr := nilS) ⟨rcs_nil _, h⟩ hA (fun k h => by cases h) hk).ls
structure AW (w1 : World) (b4 : Nat) (LL : List Txt) (v : Value) (m : EM) (mr ml : Value) (w : World) : Prop where
 base : Below w1.heap.size w1 w
 gt : w1.heap.size < b4
 hm : w.heap[b4]? = some (.cells (EC m mr ml) 34 (0, 0))
 em : EAt w m mr ml
 k1 : ∀ k, mr.ownBlock = some k → w1.heap.size < k
 k2 : ∀ k, ml.ownBlock = some k → w1.heap.size < k
 hv : TxtsAt w v LL
 k3 : ∀ k, v.ownBlock = some k → w1.heap.size < k
theorem AW.next {w1 w w' : World} {b4 : Nat} {LL : List Txt} {v : Value} {m : EM} {mr ml : Value} (h : AW w1 b4 LL v m mr ml w) (hb : Below w.heap.size w w') : AW w1 b4 LL v m mr ml w' := ⟨below_next h.base hb, h.gt, (hb.block _ (ltOf h.hm)).trans h.hm, h.em.below hb, h.k1, h.k2, h.hv.below hb, h.k3⟩
theorem AW.set {w1 w w' : World} {b4 : Nat} {LL : List Txt} {v : Value} {m : EM} {mr ml : Value} (h : AW w1 b4 LL v m mr ml w) (hA : Apart w1.heap.size w.heap.size w w') : AW w1 b4 LL v m mr ml w' := ⟨h.base.trans (hA.below h.base.size (Nat.le_refl _)), h.gt, (hA.block _ (ltOf h.hm) (by have := h.gt; omega)).trans h.hm, h.em.apart hA h.k1 h.k2, h.k1, h.k2, TxtsAt.set h.hv hA h.k3, h.k3⟩
theorem set_x {w : World} {g : Nat} {va vb vc : Value} (h : w.heap[g]? = some (.cells (RE uR va vb vc) 39 (0, 0))) : (w.setCell ⟨g, 0, none⟩ (.string { data := #[120] })).heap[g]? = some (.cells (RE uX va vb vc) 39 (0, 0)) := setOf h 0 _
theorem whole_N (va vb vc : Value) : RE uN va vb vc = ((RE uR va vb vc).toList.take 4 ++ (#[.string { data := #[] }, .string { data := #[] }] : Array Value).toList ++ (RE uR va vb vc).toList.drop (4 + 2)).toArray := rfl
theorem bnd2_x (v : Value) (w : World) (hT : TxtsAt w v [[45, 45, 114, 101, 112, 111, 114, 116, 46, 49]]) (hR : R.Ready w) : Calls Tryz.prog 7 #[v] w fun e w' => e = .returned (.string (mkS [114, 101, 112, 111, 114, 116, 46, 50])) ∧ Below w.heap.size w w' := by
 have h := boundary_x v _ w hT (by decide) hR
 rwa [bnd_2] at h
theorem code5_x (va vb : Value) (w : World) : Calls Tryz.prog 18 #[rtA uR va vb nilS] w fun e w' => e = .returned (.agg #[.int .i64 5, .int .i64 0, .int .i64 0]) ∧ Below w.heap.size w w' :=
 (code_x uR va vb nilS w (by decide)).mono fun _ _ h => h
theorem right9_x (va vb : Value) (w : World) (h : RAt w uR va vb nilS) (hR : Rdy w) : Calls Tryz.prog 17 #[rtA uN va vb nilS] w fun e w' => e = .returned (.int .i64 9) ∧ Below w.heap.size w w' := by
 have k := rright_x uN va vb nilS w (rp_n h hR)
 rwa [rt_n] at k
set_option maxHeartbeats 16000000 in
theorem awake_x (w : World) (hR : Rdy w) : Calls Tryz.prog 6 #[] w fun e w' => e = .returned (.bool true) ∧ Below w.heap.size w w' := by
 have HR := Lib.hid (fun w' (h : Below w.heap.size w w') => hR.below h)
 have he : ∀ w, (Op.equalIn 10000 35 (.agg #[.int .i64 5, .int .i64 0, .int .i64 0]) (.agg #[.int .i64 5, .int .i64 0, .int .i64 0])).run Tryz.prog w = .ok true w := fun w => R.eqE3 (5, 0, 0) (5, 0, 0) w
 clear hR
 go_enter Tryz.func6, Tryz.ntmps6
 go_wp2_with fail
 refine (usual_x _).mono ?_
 rintro e w1 ⟨vr, vl, rfl, hA, hb, _, _⟩
 obtain ⟨ra, rn, rc, la, ln, lc, rfl, rfl⟩ := hA.e.slices
 have HA := Lib.hid hA
 have HB1 := Lib.hid hb
 clear hA hb
 go_upto_region 2 with (first | ((with_reducible refine tis_store (ty := 39) (x := .tmp 1) (y := .tmp 8) rfl ?_); refine wpList_store_blk rfl 39 (.tmp 1) (.tmp 8) rfl (w1.heap.size) 0 39 (RE zR nilS nilS nilS) (RE uR (.slice ra rn rc) (.slice la ln lc) nilS) (RE uR (.slice ra rn rc) (.slice la ln lc) nilS) rfl rfl (newOf w1 _) size_rt (one_REs _ _ _ _ _ _ _ _ _ _) (Nat.le_of_eq rfl) (whole_REs _ _ _ _ _ rfl) ?_; intro w2 hB hA))
 have HU := Lib.hid (show RB w1 uR (.slice ra rn rc) (.slice la ln lc) nilS w2 from ⟨hB, far_apart hA⟩)
 clear hA hB
 have HRR := Lib.hid (fun w' (h : Below w1.heap.size w1 w') => HR.out _ (below_next HB1.out h))
 go_wp2_with (first | ((with_reducible refine tis_load (ty := 39) (x := .tmp 1) rfl ?_); refine tload ?_ 39 (.tmp 1) rfl (w1.heap.size) 0 39 (RE uR (.slice ra rn rc) (.slice la ln lc) nilS) (RE uR (.slice ra rn rc) (.slice la ln lc) nilS) _ rfl HU.out.box Tryz.underlying39 rfl size_rt (fun j _ => by rw [Nat.zero_add]) ?_; (focus (first | rfl | (go_simp; done)))))
 refine (lines_x uR _ _ _ _ (rp_u (HA.out.below HU.out.below) (HRR.out _ HU.out.below))).mono ?_
 rintro e w3 ⟨v, rfl, hv, hb, hk⟩
 rw [rt_u, if_pos rfl] at hv
 rw [rt_u]
 have HU3 := Lib.hid (HU.out.next hb)
 have HK3 := Lib.hid (show ∀ k, v.ownBlock = some k → w1.heap.size < k from fun k h => by have h1 := hk k h; have h2 := ltOf HU.out.box; omega)
 generalize hL : rtLines uR = LL at hv
 have HL := Lib.hid hL
 have e27 : LL.length = 27 := by rw [← hL]; exact len_u
 obtain ⟨va, vc, rfl⟩ := txts_slice hv
 rw [e27] at hv HK3 ⊢
 have HV := Lib.hid hv
 clear hb hk hv hL HU e27
 go_wp2_with (first | ((with_reducible refine tis_load (ty := 39) (x := .tmp 1) rfl ?_); refine tload ?_ 39 (.tmp 1) rfl (w1.heap.size) 0 39 (RE uR (.slice ra rn rc) (.slice la ln lc) nilS) (RE uR (.slice ra rn rc) (.slice la ln lc) nilS) _ rfl HU3.out.box Tryz.underlying39 rfl size_rt (fun j _ => by rw [Nat.zero_add]) ?_; (focus (first | rfl | (go_simp; done)))))
 refine (make_x uR 9 _ _ _ _ (rp_u (HA.out.below HU3.out.below) (HRR.out _ HU3.out.below))).mono ?_
 rintro e w4 ⟨mr, ml, rfl, hM, hb, hk1, hk2⟩
 rw [mk_u.2] at hM
 rw [mk_u.1, mk_u.2]
 have HM0 := Lib.hid (show (mk uR 9).id = 9 ∧ (mk uR 9).fr = ([], []) ∧ (mk uR 9).rc = [⟨([97], [98]), zeroR⟩] from ⟨rfl, rfl, rfl⟩)
 generalize mk uR 9 = m at hM HM0 ⊢
 have HU4 := Lib.hid (HU3.out.next hb)
 have HV4 := Lib.hid (HV.out.below hb)
 have HE4 := Lib.hid hM
 have HK := Lib.hid (And.intro (show ∀ k, mr.ownBlock = some k → w1.heap.size < k from fun k h => by have h1 := hk1 k h; have h2 := ltOf HU3.out.box; omega) (show ∀ k, ml.ownBlock = some k → w1.heap.size < k from fun k h => by have h1 := hk2 k h; have h2 := ltOf HU3.out.box; omega))
 obtain ⟨ma, mn, mc, na, nn, nc, rfl, rfl⟩ := hM.slices
 clear hb hk1 hk2 hM HU3 HV
 go_upto_region 4 with (first | ((with_reducible refine tis_store (ty := 34) (x := .tmp 4) (y := .tmp 17) rfl ?_); refine wpList_store_blk rfl 34 (.tmp 4) (.tmp 17) rfl (w4.heap.size) 0 34 (EC zeroE nilS nilS) (EC m (.slice ma mn mc) (.slice na nn nc)) (EC m (.slice ma mn mc) (.slice na nn nc)) rfl rfl (newOf w4 _) size_msg (one_ECs _ _ _ _ _ _ _) (Nat.le_of_eq rfl) (whole_EC _ _ _ _ rfl) ?_; intro w5 hB hA))
 have hf := far_apart hA
 have HU5 := Lib.hid (HU4.out.next hf)
 have HW5 := Lib.hid (show AW w1 w4.heap.size LL (.slice va 27 vc) m (.slice ma mn mc) (.slice na nn nc) w5 from ⟨HU5.out.below, ltOf HU4.out.box, hB, HE4.out.below hf, HK.out.1, HK.out.2, HV4.out.below hf, HK3.out⟩)
 clear hA hB hf HU4 HV4 HE4 HK HK3
 generalize w4.heap.size = b4 at *
 have c0 : w5.cell? ⟨w1.heap.size, 0, none⟩ = some (.string (mkS kFai)) := cellOf HU5.out.box 0
 have f0 := freeOf HU5.out.box 0
 go_upto_region 5 with fail
 have HW6 := Lib.hid (HW5.out.set ((Apart.refl w1.heap.size w5.heap.size w5).set 0 (.string { data := #[120] })))
 have HU6 := Lib.hid (show RB w1 uX (.slice ra rn rc) (.slice la ln lc) nilS (w5.setCell ⟨w1.heap.size, 0, none⟩ (.string { data := #[120] })) from ⟨set_x HU5.out.box, HW6.out.base⟩)
 clear c0 f0 HU5 HW5
 generalize w5.setCell ⟨w1.heap.size, 0, none⟩ (.string { data := #[120] }) = w6 at *
 go_wp2_with (first | ((with_reducible refine tis_load (ty := 39) (x := .tmp 1) rfl ?_); refine tload ?_ 39 (.tmp 1) rfl (w1.heap.size) 0 39 (RE uX (.slice ra rn rc) (.slice la ln lc) nilS) (RE uX (.slice ra rn rc) (.slice la ln lc) nilS) _ rfl HU6.out.box Tryz.underlying39 rfl size_rt (fun j _ => by rw [Nat.zero_add]) ?_; (focus (first | rfl | (go_simp; done)))))
 refine (lines_x uX _ _ _ _ (rp_x (HA.out.below HU6.out.below) (HRR.out _ HU6.out.below))).mono ?_
 rintro e w7 ⟨v2, rfl, hv, hb, _⟩
 rw [rt_x, if_neg (by decide)] at hv
 rw [rt_x]
 obtain ⟨va2, vc2, rfl⟩ := txts_slice hv
 rw [show ([] : List Txt).length = 0 from rfl]
 have HU7 := Lib.hid (HU6.out.next hb)
 have HW7 := Lib.hid (HW6.out.next hb)
 clear hb hv HU6 HW6
 go_wp2_with fail
 refine (usual_x _).mono ?_
 rintro e w8 ⟨vr2, vl2, rfl, hA2, hb, hk1, hk2⟩
 have HU8 := Lib.hid (HU7.out.next hb)
 have HW8 := Lib.hid (HW7.out.next hb)
 have HA2 := Lib.hid hA2
 have HK := Lib.hid (And.intro (show ∀ k, vr2.ownBlock = some k → w1.heap.size < k from fun k h => by have h1 := hk1 k h; have h2 := ltOf HU7.out.box; omega) (show ∀ k, vl2.ownBlock = some k → w1.heap.size < k from fun k h => by have h1 := hk2 k h; have h2 := ltOf HU7.out.box; omega))
 obtain ⟨rb, rn2, rc2, lb, ln2, lc2, rfl, rfl⟩ := hA2.e.slices
 clear hb hk1 hk2 hA2 HU7 HW7
 go_upto_region 7 with (first | ((with_reducible refine tis_store (ty := 39) (x := .tmp 1) (y := .tmp 25) rfl ?_); refine wpList_store_blk rfl 39 (.tmp 1) (.tmp 25) rfl (w1.heap.size) 0 39 (RE uX (.slice ra rn rc) (.slice la ln lc) nilS) (RE uR (.slice rb rn2 rc2) (.slice lb ln2 lc2) nilS) (RE uR (.slice rb rn2 rc2) (.slice lb ln2 lc2) nilS) rfl rfl (HU8.out.box) size_rt (one_REs _ _ _ _ _ _ _ _ _ _) (Nat.le_of_eq rfl) (whole_REs _ _ _ _ _ rfl) ?_; intro w9 hB hA))
 have HW9 := Lib.hid (HW8.out.set hA)
 have HA9 := Lib.hid (show RAt w9 uR (.slice rb rn2 rc2) (.slice lb ln2 lc2) nilS from ⟨HA2.out.e.apart hA HK.out.1 HK.out.2, txts_nil _⟩)
 have HB9 := Lib.hid hB
 clear hA hB HA2 HU8 HW8
 have HN0 := Lib.hid (show hasB LL [65, 99, 116, 105, 111, 110, 58, 32, 102, 97, 105, 108, 101, 100] = true by rw [← HL.out]; exact has_1)
 have HN1 := Lib.hid (show hasB LL [83, 116, 97, 116, 117, 115, 58, 32, 53, 46, 48, 46, 48] = true by rw [← HL.out]; exact has_2)
 have HN2 := Lib.hid (show hasB LL [70, 105, 110, 97, 108, 45, 82, 101, 99, 105, 112, 105, 101, 110, 116, 58, 32, 114, 102, 99, 56, 50, 50, 59, 32, 99, 64, 100] = true by rw [← HL.out]; exact has_3)
 have HN3 := Lib.hid (show hasB LL [83, 117, 98, 106, 101, 99, 116, 58, 32, 120] = true by rw [← HL.out]; exact has_4)
 have HN4 := Lib.hid (show hasB LL [98, 111, 100, 121] = false by rw [← HL.out]; exact has_5)
 have H27 := Lib.hid (show LL.length ≤ 1000000000 by rw [← HL.out, len_u]; decide)
 go_wp2_with (first | ((with_reducible refine tis_store (ty := 27) (x := .tmp 28) (y := .tmp 26) rfl ?_); refine wpList_store_blk rfl 27 (.tmp 28) (.tmp 26) rfl (w1.heap.size) 4 39 (RE uR (.slice rb rn2 rc2) (.slice lb ln2 lc2) nilS) (#[.string { data := #[] }, .string { data := #[] }]) (RE uN (.slice rb rn2 rc2) (.slice lb ln2 lc2) nilS) rfl rfl (HB9.out) size_pt (by kernel_rfl) (by show 4 + 2 ≤ 31; decide) (whole_N _ _ _) ?_; intro w10 hB hA))
 have HW10 := Lib.hid (HW9.out.set hA)
 have HA10 := Lib.hid (show RAt w10 uR (.slice rb rn2 rc2) (.slice lb ln2 lc2) nilS from ⟨HA9.out.e.apart hA HK.out.1 HK.out.2, txts_nil _⟩)
 have HB10 := Lib.hid hB
 clear hA hB HW9 HA9 HB9
 refine (has_x _ LL [65, 99, 116, 105, 111, 110, 58, 32, 102, 97, 105, 108, 101, 100] _ HW10.out.hv H27.out).mono ?_
 rintro e w' ⟨rfl, rfl⟩
 rw [HN0.out]
 go_wp2_with fail
 refine (has_x _ LL [83, 116, 97, 116, 117, 115, 58, 32, 53, 46, 48, 46, 48] _ HW10.out.hv H27.out).mono ?_
 rintro e w' ⟨rfl, rfl⟩
 rw [HN1.out]
 go_wp2_with fail
 refine (has_x _ LL [70, 105, 110, 97, 108, 45, 82, 101, 99, 105, 112, 105, 101, 110, 116, 58, 32, 114, 102, 99, 56, 50, 50, 59, 32, 99, 64, 100] _ HW10.out.hv H27.out).mono ?_
 rintro e w' ⟨rfl, rfl⟩
 rw [HN2.out]
 go_wp2_with fail
 refine (has_x _ LL [83, 117, 98, 106, 101, 99, 116, 58, 32, 120] _ HW10.out.hv H27.out).mono ?_
 rintro e w' ⟨rfl, rfl⟩
 rw [HN3.out]
 go_wp2_with fail
 refine (has_x _ LL [98, 111, 100, 121] _ HW10.out.hv H27.out).mono ?_
 rintro e w' ⟨rfl, rfl⟩
 rw [HN4.out]
 have m0 : w10.cell? ⟨b4, 0, none⟩ = some (.int .i64 9) := (cellOf HW10.out.hm 0).trans (by rw [← HM0.out.1]; rfl)
 have m3 : w10.cell? ⟨b4, 3, none⟩ = some (.string { data := #[] }) := (cellOf HW10.out.hm 3).trans (by show some (Value.string (mkS m.fr.1)) = _; rw [HM0.out.2.1]; rfl)
 have m4 : w10.cell? ⟨b4, 4, none⟩ = some (.string { data := #[] }) := (cellOf HW10.out.hm 4).trans (by show some (Value.string (mkS m.fr.2)) = _; rw [HM0.out.2.1]; rfl)
 go_wp2_with fail
 refine (P.null_x ([], []) _).mono ?_
 rintro e w11 ⟨rfl, hb⟩
 rw [show P.nullB ([], []) = true from by decide]
 have HW11 := Lib.hid (HW10.out.next hb)
 have HA11 := Lib.hid (HA10.out.below hb)
 have HB11 := Lib.hid ((hb.block _ (ltOf HB10.out)).trans HB10.out)
 clear hb HW10 HA10 HB10 m0 m3 m4
 obtain ⟨ra9, rc9, hv9, _, _, hx9⟩ := HW11.out.em.rc
 rw [HM0.out.2.2] at hv9 hx9
 injection hv9 with q1 q2 q3
 obtain ⟨A9, hA9, hab9, hat9⟩ := hx9 0 _ rfl
 subst q1 q3
 have q2' : mn = 1 := q2
 clear q2
 subst q2'
 subst hA9
 have a1 := hat9.c0
 rw [Nat.zero_mul, show A9.add 0 = A9 from (by unfold Addr.add; first | rfl | exact if_pos rfl | simp)] at a1
 have a0 : w11.cell? A9 = some (.string { data := #[97] }) := a1
 clear a1
 have m19 : w11.cell? ⟨b4, 19, none⟩ = some (.slice (some A9) 1 mc) := cellOf HW11.out.hm 19
 clear hx9 hat9 hab9
 go_wp2_with (first | ((with_reducible refine tis_load (ty := 39) (x := .tmp 1) rfl ?_); refine tload ?_ 39 (.tmp 1) rfl (w1.heap.size) 0 39 (RE uN (.slice rb rn2 rc2) (.slice lb ln2 lc2) nilS) (RE uN (.slice rb rn2 rc2) (.slice lb ln2 lc2) nilS) _ rfl HB11.out Tryz.underlying39 rfl size_rt (fun j _ => by rw [Nat.zero_add]) ?_; (focus (first | rfl | (go_simp; done)))))
 refine (right9_x _ _ _ HA11.out (HRR.out _ HW11.out.base)).mono ?_
 rintro e w12 ⟨rfl, hb⟩
 have HW12 := Lib.hid (HW11.out.next hb)
 clear hb HW11 HA11 HB11 a0 m19
 go_wp2_with fail
 refine (bnd2_x _ _ (new_txts w12 [[45, 45, 114, 101, 112, 111, 114, 116, 46, 49]] _ rfl) (HRR.out _ (HW12.out.next (below_box w12 _)).base).r.2).mono ?_
 rintro e w13 ⟨rfl, hb⟩
 have HW13 := Lib.hid ((HW12.out.next (below_box w12 _)).next hb)
 clear hb HW12
 have eb : ((mkS [114, 101, 112, 111, 114, 116, 46, 50]).toList == [114, 101, 112, 111, 114, 116, 46, 50]) = true := by rw [mkS_toList]; rfl
 go_wp2_with fail
 refine (usual_x _).mono ?_
 rintro e w14 ⟨vr3, vl3, rfl, hA3, hb, _, _⟩
 have HW14 := Lib.hid (HW13.out.next hb)
 obtain ⟨rd, rn3, rc3, ld, ln3, lc3, rfl, rfl⟩ := hA3.e.slices
 clear hb HW13 hA3
 go_wp2_with fail
 refine (code5_x _ _ _).mono ?_
 rintro e w15 ⟨rfl, hb⟩
 have HW15 := Lib.hid (HW14.out.next hb)
 clear hb HW14
 go_wp2_with fail
 go_ret
 exact ⟨rfl, below_next HB1.out HW15.out.base⟩
end Go.Proofs.YtojpkbonioglbaaGreatDoor.E.T
