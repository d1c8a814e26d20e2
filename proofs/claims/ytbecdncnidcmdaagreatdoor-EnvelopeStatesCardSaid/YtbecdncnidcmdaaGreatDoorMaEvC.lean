import Derived.Test.YtbecdncnidcmdaaGreatDoorMaEvB
import Derived.Deep.RegionWith
import Derived.Laws.ResultCell
import Derived.Test.YtbecdncnidcmdaaGreatDoorMaBuild
import Derived.Test.YtbecdncnidcmdaaGreatDoorMaEvA
namespace Go.Proofs.YtbecdncnidcmdaaGreatDoor.E
set_option maxRecDepth 100000
open Go.RowKit Go.Shelf
structure TB (b c rb : Nat) (sg r : Txt) (w : World) : Prop where
 p : w.heap[b]? = some (.cells #[.pointer (some ⟨rb, 0, none⟩)] 94 (0, 0))
 s : w.heap[c]? = some (.cells #[.string (mkS sg)] 9 (0, 0))
 r : w.heap[rb]? = some (.cells #[.string (mkS r)] 9 (0, 0))
def TnPost (rb : Nat) (sg r : Txt) (w : World) (e : Ending) (w' : World) : Prop :=
 e = .returned (.string (mkS (tk sg r).1)) ∧ w'.heap[rb]? = some (.cells #[.string (mkS (tk sg r).2.1)] 9 (0, 0)) ∧ w.grownBy w' (some rb)
set_option maxHeartbeats 4000000 in
theorem tnext_x (b c rb : Nat) (sg r : Txt) (w : World) (h : TB b c rb sg r w) (hm : ∃ m, w.cell? ⟨1, 0, none⟩ = some (.int .i64 m)) (hl : r.length ≤ 100000000) :
  Calls Tryz.prog 95 #[.pointer (some ⟨b, 0, none⟩), .pointer (some ⟨c, 0, none⟩)] w (TnPost rb sg r w) := by
 have c0 : w.cell? ⟨b, 0, none⟩ = some (.pointer (some ⟨rb, 0, none⟩)) := cellOf h.p 0
 have c1 : w.cell? ⟨c, 0, none⟩ = some (.string (mkS sg)) := cellOf h.s 0
 have c2 : w.cell? ⟨rb, 0, none⟩ = some (.string (mkS r)) := cellOf h.r 0
 have f2 := freeOf h.r 0
 have hsz : (mkS r).size < 4294967281 := by rw [mkS_size]; omega
 obtain ⟨m, hm⟩ := hm
 have HC := Lib.hid (fun k => Tryz.strings_Cut (mkS r) (mkS sg) m (w.drewN k) hsz hm)
 have e1 : Lib.cut (mkS r).data.toList (mkS sg).data.toList = tk sg r := by rw [mkS_data, mkS_data]; rfl
 rw [e1] at HC
 have HR := Lib.hid h.r
 clear e1 hm h hsz
 have HP := Lib.hid (fun (n : Nat) => show TnPost rb sg r w (.returned (.string (mkS (tk sg r).1))) ((w.drewN n).setCell ⟨rb, 0, none⟩ (.string (mkS (tk sg r).2.1))) from
  ⟨rfl, setOf (w := w.drewN n) HR.out 0 _, rfl, rfl, rfl, by simp [World.setCell, World.drewN], fun k _ hk => Below.heap_setCell (w.drewN n) ⟨rb, 0, none⟩ _ k (fun e => hk (by rw [e]))⟩)
 generalize hq : tk sg r = q at HC HP
 obtain ⟨t, r', ok⟩ := q
 simp only at HC HP
 have hx : TnPost rb sg r w = TnPost rb sg r w := rfl
 generalize TnPost rb sg r w = Q at HP ⊢
 clear hx hq HR
 go_enter Tryz.func95, Tryz.ntmps95
 go_wp2_with fail
 go_region_with (go_at_call 96; refine (HC.out 1).mono ?_; rintro e w1 ⟨rfl, n, rfl⟩)
 all_goals go_wp2_with fail
 all_goals exact HP.out _
end Go.Proofs.YtbecdncnidcmdaaGreatDoor.E
namespace Go.Proofs.YtbecdncnidcmdaaGreatDoor.E
set_option maxRecDepth 100000
open Go.RowKit Go.Shelf
theorem gr_trans {a b c : World} {r : Option Nat} (h : a.grownBy b r) (k : b.grownBy c r) : a.grownBy c r :=
 ⟨k.os.trans h.os, k.tape.trans h.tape, k.output.trans h.output, Nat.le_trans h.size k.size, fun i hi hr => (k.block i (Nat.lt_of_lt_of_le hi h.size) hr).trans (h.block i hi hr)⟩
theorem gr_below {a b c : World} {r : Option Nat} (h : a.grownBy b r) (k : Below b.heap.size b c) : a.grownBy c r :=
 ⟨k.os.trans h.os, k.tape.trans h.tape, k.output.trans h.output, Nat.le_trans h.size k.size, fun i hi hr => (k.block i (Nat.lt_of_lt_of_le hi h.size)).trans (h.block i hi hr)⟩
theorem gr_at {a b : World} {r : Option Nat} (h : a.grownBy b r) {g : Nat} {o : Obj} (hg : a.heap[g]? = some o) (hr : some g ≠ r) : b.heap[g]? = some o := (h.block g (ltOf hg) hr).trans hg
structure TA (W : World) (b c rb : Nat) (r : Txt) (cs : Array Value) (w : World) : Prop where
 arr : w.heap[W.heap.size]? = some (.cells cs 91 (0, 0))
 tb : TB b c rb [32] r w
 gr : W.grownBy w (some rb)
 lt : rb < W.heap.size
 ne : b ≠ rb ∧ c ≠ rb
theorem TA.take {W w w' : World} {b c rb : Nat} {r r' : Txt} {cs : Array Value} (h : TA W b c rb r cs w) (h1 : w'.heap[rb]? = some (.cells #[.string (mkS r')] 9 (0, 0))) (h2 : w.grownBy w' (some rb)) : TA W b c rb r' cs w' :=
 ⟨gr_at h2 h.arr (fun e => by injection e with e; have := h.lt; omega), ⟨gr_at h2 h.tb.p (fun e => by injection e with e; exact h.ne.1 e), gr_at h2 h.tb.s (fun e => by injection e with e; exact h.ne.2 e), h1⟩, gr_trans h.gr h2, h.lt, h.ne⟩
theorem TA.below {W w w' : World} {b c rb : Nat} {r : Txt} {cs : Array Value} (h : TA W b c rb r cs w) (hb : Below w.heap.size w w') : TA W b c rb r cs w' :=
 ⟨(hb.block _ (ltOf h.arr)).trans h.arr, ⟨(hb.block _ (ltOf h.tb.p)).trans h.tb.p, (hb.block _ (ltOf h.tb.s)).trans h.tb.s, (hb.block _ (ltOf h.tb.r)).trans h.tb.r⟩, gr_below h.gr hb, h.lt, h.ne⟩
theorem TA.set {W w : World} {b c rb : Nat} {r : Txt} {cs : Array Value} (h : TA W b c rb r cs w) (hb : b ≠ W.heap.size) (hc : c ≠ W.heap.size) (i : Nat) (v : Value) : TA W b c rb r (cs.setIfInBounds i v) (w.setCell ⟨W.heap.size, i, none⟩ v) :=
 ⟨setOf h.arr i v, ⟨(Below.heap_setCell w ⟨W.heap.size, i, none⟩ v b (fun e => hb (by simpa using e))).trans h.tb.p, (Below.heap_setCell w ⟨W.heap.size, i, none⟩ v c (fun e => hc (by simpa using e))).trans h.tb.s, (Below.heap_setCell w ⟨W.heap.size, i, none⟩ v rb (fun e => by have := h.lt; simp at e; omega)).trans h.tb.r⟩,
  ⟨h.gr.os, h.gr.tape, h.gr.output, by simpa [World.setCell] using h.gr.size, fun k hk hr => (Below.heap_setCell w ⟨W.heap.size, i, none⟩ v k (fun e => by simp at e; omega)).trans (h.gr.block k hk hr)⟩, h.lt, h.ne⟩
def arr3 (r : Txt) (k : Nat) : Array Value := #[.int .i64 (if 0 < k then numV (wd r) else 0), .int .i64 (if 1 < k then numV (wd (nx r)) else 0), .int .i64 (if 2 < k then numV (wd (nx (nx r))) else 0)]
def nxk : Nat → Txt → Txt
 | 0, r => r
 | k + 1, r => nx (nxk k r)
theorem nxk_len (r : Txt) : ∀ k, (nxk k r).length ≤ r.length
 | 0 => Nat.le_refl _
 | k + 1 => Nat.le_trans (tk_len [32] (nxk k r)).2 (nxk_len r k)
theorem arr3_set (r : Txt) {k : Nat} (h : k < 3) : (arr3 r k).setIfInBounds k (.int .i64 (numV (wd (nxk k r)))) = arr3 r (k + 1) := by
 have : k = 0 ∨ k = 1 ∨ k = 2 := by omega
 rcases this with rfl | rfl | rfl <;> rfl
theorem size_arr : (Tryz.prog.info? 91).map (·.size) = some 3 := by kernel_rfl
theorem one_arr (r : Txt) : (arr3 r 3).all (·.oneCell') = true := by kernel_rfl
theorem whole_arr (r : Txt) : arr3 r 3 = ((arr3 r 3).toList.take 0 ++ (arr3 r 3).toList ++ (arr3 r 3).toList.drop (0 + (arr3 r 3).size)).toArray := by kernel_rfl
def TnkPost (rb : Nat) (r : Txt) (w : World) (e : Ending) (w' : World) : Prop :=
 e = .returned (.agg #[.int .i64 (numV (wd r)), .int .i64 (numV (wd (nx r))), .int .i64 (numV (wd (nx (nx r))))]) ∧ w'.heap[rb]? = some (.cells #[.string (mkS (nx (nx (nx r))))] 9 (0, 0)) ∧ w.grownBy w' (some rb)
set_option maxHeartbeats 8000000 in
theorem taken_x (b c rb : Nat) (r : Txt) (w : World) (h : TB b c rb [32] r w) (hne : b ≠ rb ∧ c ≠ rb) (hR : ∀ w', w.grownBy w' (some rb) → Rdy w') (hl : r.length ≤ 1000000) :
  Calls Tryz.prog 46 #[.func (.func 95) #[] #[.pointer (some ⟨b, 0, none⟩), .pointer (some ⟨c, 0, none⟩)]] w (TnkPost rb r w) := by
 have e38 : ∀ args w, (callFunc 95 args).run Tryz.prog w = .ok (.enter 95 args) w := enters_of Tryz.func95 (by kernel_rfl) rfl
 have hbw : b ≠ w.heap.size := by have := ltOf h.p; omega
 have hcw : c ≠ w.heap.size := by have := ltOf h.s; omega
 have HS := Lib.hid (show TA w b c rb r (arr3 r 0) (w.alloc (.cells #[.int .i64 0, .int .i64 0, .int .i64 0] 91)) from
  ⟨newOf w _, ⟨(Below.heap_alloc w _ _ (ltOf h.p)).trans h.p, (Below.heap_alloc w _ _ (ltOf h.s)).trans h.s, (Below.heap_alloc w _ _ (ltOf h.r)).trans h.r⟩, gr_below (World.grownBy.refl w _) ((Below.refl _ w).alloc (Nat.le_refl _) _), ltOf h.r, hne⟩)
 have HR := Lib.hid hR
 clear hR h
 go_enter Tryz.func46, Tryz.ntmps46
 go_wp2_with fail
 go_loopw [4] (fun i wr => ∃ k : Nat, k ≤ 3 ∧ i = .int .i64 k ∧ Hid (TA w b c rb (nxk k r) (arr3 r k) wr)) (fun i _ => 3 - (intOf i).toNat)
 case atStart => exact ⟨0, Nat.zero_le _, rfl, HS.out⟩
 case round =>
  obtain ⟨k, hk, rfl, HT⟩ := hrel
  by_cases hlt : k < 3
  ·have HRw := Lib.hid (HR.out _ HT.out.gr)
   have hnl := nxk_len r k
   have HN := Lib.hid (tnext_x b c rb [32] (nxk k r) wr HT.out.tb HRw.out.mx (by omega))
   have hwl : (wd (nxk k r)).length ≤ 1000000 := Nat.le_trans (tk_len [32] (nxk k r)).1 (by omega)
   have HA := Lib.hid (arr3_set r hlt)
   have hnx : nxk (k + 1) r = nx (nxk k r) := rfl
   rw [hnx] at *
   clear hnx
   unfold TnPost at HN
   rw [show (tk [32] (nxk k r)).1 = wd (nxk k r) from rfl, show (tk [32] (nxk k r)).2.1 = nx (nxk k r) from rfl] at HN
   have hks : nxk (k + 1) r = nx (nxk k r) := rfl
   go_wp2_with fail
   refine HN.out.mono ?_
   rintro e w1 ⟨rfl, h1, h2⟩
   have HT1 := Lib.hid (HT.out.take h1 h2)
   clear h1 h2 HN
   have HM := Lib.hid (number_x (wd (nxk k r)) w1 (by omega) (HR.out _ HT1.out.gr))
   go_wp2_with fail
   refine HM.out.mono ?_
   rintro e w2 ⟨rfl, hb⟩
   have HT2 := Lib.hid (HT1.out.below hb)
   have f2 := freeOf HT2.out.arr k
   have hcs : ∃ v, w2.cell? ⟨w.heap.size, k, none⟩ = some v := by
    rw [cellOf HT2.out.arr]
    have : k = 0 ∨ k = 1 ∨ k = 2 := by omega
    rcases this with rfl | rfl | rfl <;> exact ⟨_, rfl⟩
   obtain ⟨v, c2⟩ := hcs
   clear hb HM HT1
   have HT3 := Lib.hid (HT2.out.set hbw hcw k (.int .i64 (numV (wd (nxk k r)))))
   rw [HA.out] at HT3
   go_wp2_with fail
   go_roundw
   case rel => exact ⟨k + 1, by omega, by go_num, HT3⟩
   case measure => simp [intOf]; omega
  ·have hke : k = 3 := by omega
   subst hke
   have c0 : wr.cell? ⟨w.heap.size, 0, none⟩ = some (.int .i64 (numV (wd r))) := cellOf HT.out.arr 0
   have c1 : wr.cell? ⟨w.heap.size, 1, none⟩ = some (.int .i64 (numV (wd (nx r)))) := cellOf HT.out.arr 1
   have c2 : wr.cell? ⟨w.heap.size, 2, none⟩ = some (.int .i64 (numV (wd (nx (nx r))))) := cellOf HT.out.arr 2
   have HG := Lib.hid HT.out
   go_wp2_with (first | (refine wpList_load_blk rfl 91 (.tmp 2) rfl w.heap.size 0 91 (arr3 r 3) (arr3 r 3) _ rfl HT.out.arr Tryz.underlying91 rfl size_arr (fun j _ => by rw [Nat.zero_add]) ?_) | (refine wpList_store_blk rfl 91 (.tmp 2) (.tmp 13) rfl w.heap.size 0 91 (arr3 r 3) (arr3 r 3) (arr3 r 3) rfl rfl HT.out.arr size_arr (one_arr r) (Nat.le_of_eq rfl) (whole_arr r) ?_; intro w2 hB2 hA2))
   refine bodyPost_ret (v := .agg (arr3 r 3)) (results_cell_row rfl _ _ w.heap.size 91 (arr3 r 3) (0, 0) _ rfl hB2 Tryz.underlying91 rfl size_arr) rfl ⟨rfl, ?_, ?_⟩
   ·exact (hA2.block _ (ltOf HG.out.tb.r) (by have := HG.out.lt; omega)).trans HG.out.tb.r
   ·have hlt' := HG.out.lt
    exact ⟨hA2.os.trans HG.out.gr.os, hA2.tape.trans HG.out.gr.tape, hA2.output.trans HG.out.gr.output, Nat.le_trans HG.out.gr.size hA2.size, fun k hk hr => (hA2.block k (Nat.lt_of_lt_of_le hk HG.out.gr.size) (by omega)).trans (HG.out.gr.block k hk hr)⟩
end Go.Proofs.YtbecdncnidcmdaaGreatDoor.E
namespace Go.Proofs.YtbecdncnidcmdaaGreatDoor.E
set_option maxRecDepth 100000
open Go.RowKit Go.Shelf
theorem answer_g {ty : TypeId} {d : TypeDesc} {fn : Func} {p u : Tmp} (hf : fn.results = #[.cell p ty, .tmp u]) {tmps : Array Value} {w : World} {b : Nat} {cs : Array Value} {n : Int} (hp : tmps.getD p undef = .pointer (some ⟨b, 0, none⟩)) (hu : tmps.getD u undef = .int .i64 n)
  (hb : w.heap[b]? = some (.cells cs ty (0, 0))) (hd : Tryz.prog.underlying ty = some d) (hr : d.isRow = true) (hi : (Tryz.prog.info? ty).map (·.size) = some cs.size) : (results fn tmps).run Tryz.prog w = .ok (.tuple #[.agg cs, .int .i64 n]) w := by
 rw [results_cell_tmp hf, hp, hu]
 have hl := loadVar_blk (P := Tryz.prog) (ty := ty) (o := 0) (vs := cs) hb hd hr hi (fun j _ => by rw [Nat.zero_add])
 simp [asAddr, Result.andThen, hl]
def TD (t : ST) : Array Value := #[.int .i64 t.pl, .string (mkS t.st), .int .i64 t.tr, .int .i64 t.ne, .int .i64 t.told]
theorem size_st : (Tryz.prog.info? 23).map (·.size) = some 5 := by kernel_rfl
theorem one_TD (t : ST) : (TD t).all (·.oneCell') = true := by kernel_rfl
theorem whole_TD (a b : ST) : TD b = ((TD a).toList.take 0 ++ (TD b).toList ++ (TD a).toList.drop (0 + (TD b).size)).toArray := by kernel_rfl
structure PS (W : World) (r : Txt) (w : World) : Prop where
 res : w.heap[W.heap.size]? = some (.cells (TD zeroT) 23 (0, 0))
 tb : TB (W.heap.size + 1 + 1) (W.heap.size + 1 + 1 + 1) (W.heap.size + 1) [32] r w
 below : Below W.heap.size W w
theorem PS.take {W w w' : World} {r r' : Txt} (h : PS W r w) (h1 : w'.heap[W.heap.size + 1]? = some (.cells #[.string (mkS r')] 9 (0, 0))) (h2 : w.grownBy w' (some (W.heap.size + 1))) : PS W r' w' :=
 ⟨gr_at h2 h.res (fun e => by injection e with e; omega), ⟨gr_at h2 h.tb.p (fun e => by injection e with e; omega), gr_at h2 h.tb.s (fun e => by injection e with e; omega), h1⟩, h.below.grown h2 h.below.size (fun k hk => by injection hk with hk; omega)⟩
theorem PS.next {W w w' : World} {r : Txt} (h : PS W r w) (hb : Below w.heap.size w w') : PS W r w' :=
 ⟨(hb.block _ (ltOf h.res)).trans h.res, ⟨(hb.block _ (ltOf h.tb.p)).trans h.tb.p, (hb.block _ (ltOf h.tb.s)).trans h.tb.s, (hb.block _ (ltOf h.tb.r)).trans h.tb.r⟩, below_next h.below hb⟩
theorem PS.new (w : World) (s : Txt) : PS w s ((((w.alloc (.cells (TD zeroT) 23)).alloc (.cells #[.string (mkS s)] 9)).alloc (.cells #[.pointer (some ⟨w.heap.size + 1, 0, none⟩)] 94)).alloc (.cells #[.string (mkS [32])] 9)) := by
 refine ⟨?_, ⟨?_, ?_, ?_⟩, ((((Below.refl _ w).alloc (Nat.le_refl _) _).alloc (by simp) _).alloc (by simp; try omega) _).alloc (by simp; try omega) _⟩
 ·rw [Below.heap_alloc _ _ _ (by simp; try omega), Below.heap_alloc _ _ _ (by simp; try omega), Below.heap_alloc _ _ _ (by simp)]
  exact newOf w _
 ·rw [Below.heap_alloc _ _ _ (by simp)]
  exact (show ((w.alloc (.cells (TD zeroT) 23)).alloc (.cells #[.string (mkS s)] 9)).heap.size = w.heap.size + 1 + 1 by simp) ▸ newOf _ _
 ·exact (show (((w.alloc (.cells (TD zeroT) 23)).alloc (.cells #[.string (mkS s)] 9)).alloc (.cells #[.pointer (some ⟨w.heap.size + 1, 0, none⟩)] 94)).heap.size = w.heap.size + 1 + 1 + 1 by simp) ▸ newOf _ _
 ·rw [Below.heap_alloc _ _ _ (by simp; try omega), Below.heap_alloc _ _ _ (by simp)]
  exact (show (w.alloc (.cells (TD zeroT) 23)).heap.size = w.heap.size + 1 by simp) ▸ newOf _ _
def PtPost (s : Txt) (w : World) (e : Ending) (w' : World) : Prop := e = .returned (.tuple #[.agg (TD (ptV s)), .int .i64 (ptE s)]) ∧ Below w.heap.size w w'
theorem pt_no {s : Txt} {w w' : World} (h : ¬ (stE (readT s) = 0 ∧ stV (readT s) = s)) (hb : Below w.heap.size w w') : PtPost s w (.returned (.tuple #[.agg (TD zeroT), .int .i64 2])) w' := by
 have e : ptE s = 2 := if_neg h
 unfold PtPost ptV
 rw [e, if_neg (by decide)]
 exact ⟨rfl, hb⟩
theorem pt_yes {s : Txt} {w w' : World} (h : stE (readT s) = 0 ∧ stV (readT s) = s) (hb : Below w.heap.size w w') : PtPost s w (.returned (.tuple #[.agg (TD (readT s)), .int .i64 0])) w' := by
 have e : ptE s = 0 := if_pos h
 unfold PtPost ptV
 rw [e, if_pos rfl]
 exact ⟨rfl, hb⟩
theorem clone_w (l : Txt) (w : World) (hl : l.length ≤ 1000000000000) : Calls Tryz.prog 45 #[.string (mkS l)] w fun e w' => e = .returned (.string (mkS l)) ∧ Below w.heap.size w w' := P.clone_x l w hl
theorem nx_le (r : Txt) : (nx r).length ≤ r.length := (tk_len [32] r).2
theorem wd_le (r : Txt) : (wd r).length ≤ r.length := (tk_len [32] r).1
set_option maxHeartbeats 8000000 in
theorem parse_st (s : Txt) (w : World) (hs : s.length ≤ 1000000) (hR : Rdy w) : Calls Tryz.prog 11 #[.string (mkS s)] w (PtPost s w) := by
 have e38 : ∀ args w, (callFunc 95 args).run Tryz.prog w = .ok (.enter 95 args) w := enters_of Tryz.func95 (by kernel_rfl) rfl
 have HS := Lib.hid (PS.new w s)
 have HR := Lib.hid (fun w' (h : Below w.heap.size w w') => hR.below h)
 have HT := Lib.hid (fun r (hr : r.length ≤ 1000000) w' (h : PS w r w') => tnext_x (w.heap.size + 1 + 1) (w.heap.size + 1 + 1 + 1) (w.heap.size + 1) [32] r w' h.tb (hR.below h.below).mx (by omega))
 unfold TnPost at HT
 have l1 : (nx s).length ≤ 1000000 := Nat.le_trans (nx_le s) hs
 have l2 : (nx (nx s)).length ≤ 1000000 := Nat.le_trans (nx_le _) l1
 have l3 : (nx (nx (nx s))).length ≤ 1000000 := Nat.le_trans (nx_le _) l2
 have k1 : (wd (nx s)).length ≤ 1000000 := Nat.le_trans (wd_le _) l1
 have k2 : (wd (nx (nx s))).length ≤ 1000000 := Nat.le_trans (wd_le _) l2
 have HTR := Lib.hid (taker_x (w.heap.size + 1) (mkS [32]) ((w.alloc (.cells (TD zeroT) 23)).alloc (.cells #[.string (mkS s)] 9)))
 have HRT := Lib.hid (show readT s = ⟨numV (wd (nx s)), wd (nx (nx s)), numV (wd (nx (nx (nx s)))), numV (wd (nx (nx (nx (nx s))))), numV (wd (nx (nx (nx (nx (nx s))))))⟩ from rfl)
 go_enter Tryz.func11, Tryz.ntmps11
 go_wp2_with fail
 refine HTR.out.mono ?_
 rintro e w0 ⟨rfl, hw⟩
 have HS0 := Lib.hid (show PS w s w0 by rw [hw]; exact HS.out)
 clear hw HS HTR hR
 go_wp2_with fail
 refine (HT.out s hs _ HS0.out).mono ?_
 rintro e w1 ⟨rfl, h1, h2⟩
 have HS1 := Lib.hid (show PS w (nx s) w1 from HS0.out.take h1 h2)
 clear h1 h2 HS0
 go_wp2_with fail
 refine (HT.out _ l1 _ HS1.out).mono ?_
 rintro e w2 ⟨rfl, h1, h2⟩
 have HS2 := Lib.hid (show PS w (nx (nx s)) w2 from HS1.out.take h1 h2)
 clear h1 h2 HS1
 rw [show (tk [32] (nx s)).1 = wd (nx s) from rfl]
 have HN := Lib.hid (number_x (wd (nx s)) w2 (by omega) (HR.out _ HS2.out.below))
 go_wp2_with fail
 refine HN.out.mono ?_
 rintro e w3 ⟨rfl, hb⟩
 have HS3 := Lib.hid (HS2.out.next hb)
 clear hb HS2 HN
 go_wp2_with fail
 refine (HT.out _ l2 _ HS3.out).mono ?_
 rintro e w4 ⟨rfl, h1, h2⟩
 have HS4 := Lib.hid (show PS w (nx (nx (nx s))) w4 from HS3.out.take h1 h2)
 clear h1 h2 HS3
 rw [show (tk [32] (nx (nx s))).1 = wd (nx (nx s)) from rfl]
 have HC := Lib.hid (clone_w (wd (nx (nx s))) w4 (by omega))
 go_wp2_with fail
 refine HC.out.mono ?_
 rintro e w5 ⟨rfl, hb⟩
 have HS5 := Lib.hid (HS4.out.next hb)
 clear hb HS4 HC
 have HK := Lib.hid (taken_x (w.heap.size + 1 + 1) (w.heap.size + 1 + 1 + 1) (w.heap.size + 1) (nx (nx (nx s))) w5 HS5.out.tb ⟨by omega, by omega⟩ (fun w' h => HR.out _ (HS5.out.below.grown h HS5.out.below.size (fun k hk => by injection hk with hk; omega))) (by omega))
 unfold TnkPost at HK
 generalize numV (wd (nx (nx (nx s)))) = n1 at HK HRT
 generalize numV (wd (nx (nx (nx (nx s))))) = n2 at HK HRT
 generalize numV (wd (nx (nx (nx (nx (nx s)))))) = n3 at HK HRT
 generalize numV (wd (nx s)) = n0 at HRT ⊢
 generalize wd (nx (nx s)) = st at HRT k2 ⊢
 go_wp2_with fail
 refine HK.out.mono ?_
 rintro e w6 ⟨rfl, h1, h2⟩
 have HS6 := Lib.hid (HS5.out.take h1 h2)
 clear h1 h2 HS5 HK HT
 have HS7 := Lib.hid (HS6.out.next (((Below.refl _ w6).alloc (Nat.le_refl _) (.cells #[.int .i64 n1, .int .i64 n2, .int .i64 n3] 91)).alloc (by simp) (.cells (TD ⟨n0, st, n1, n2, n3⟩) 23)))
 have HP := Lib.hid (print_st ⟨n0, st, n1, n2, n3⟩ ((w6.alloc (.cells #[.int .i64 n1, .int .i64 n2, .int .i64 n3] 91)).alloc (.cells (TD ⟨n0, st, n1, n2, n3⟩) 23)) (HR.out _ HS7.out.below))
 have HBX := Lib.hid (heap_alloc2_new w6 (.cells #[.int .i64 n1, .int .i64 n2, .int .i64 n3] 91) (.cells (TD ⟨n0, st, n1, n2, n3⟩) 23))
 unfold StPost at HP
 go_wp2_with fail
 refine HP.out.mono ?_
 rintro e w7 ⟨rfl, hb⟩
 have HS8 := Lib.hid (HS7.out.next hb)
 have HB8 := Lib.hid ((hb.block _ (ltOf HBX.out)).trans HBX.out)
 clear hb HS7 HS6 HBX HP
 rw [← HRT.out] at *
 generalize w6.heap.size = g at HB8 ⊢
 have hT := mkS_toList s
 have hT2 := mkS_toList (stV (readT s))
 have HNO := Lib.hid (fun w' h (hb : Below w.heap.size w w') => pt_no (s := s) (w := w) (w' := w') h hb)
 have HYE := Lib.hid (fun w' h (hb : Below w.heap.size w w') => pt_yes (s := s) (w := w) (w' := w') h hb)
 clear HRT
 by_cases he : stE (readT s) = 0
 ·by_cases ht : stV (readT s) = s
  ·have hq : (stV (readT s) == s) = true := by rw [ht]; exact beq_self_eq_true s
   have hq2 : (stV (readT s) != s) = false := by rw [bne, hq]; rfl
   have H0 := Lib.hid (And.intro he ht)
   rw [he]
   clear he ht
   generalize stV (readT s) = sv at hT2 hq hq2 ⊢
   go_wp2_with (first | (refine wpList_load_blk rfl 23 (.tmp 9) rfl (g + 1) 0 23 (TD (readT s)) (TD (readT s)) _ rfl HB8.out Tryz.underlying23 rfl size_st (fun j _ => by rw [Nat.zero_add]) ?_) | (refine wpList_store_blk rfl 23 (.tmp 2) (.tmp 46) rfl w.heap.size 0 23 (TD zeroT) (TD (readT s)) (TD (readT s)) rfl rfl HS8.out.res size_st (one_TD _) (Nat.le_of_eq rfl) (whole_TD _ _) ?_; intro w9 hB9 hA9))
   refine bodyPost_ret (v := .tuple #[.agg (TD (readT s)), .int .i64 0]) (answer_g rfl rfl rfl hB9 Tryz.underlying23 rfl size_st) rfl (HYE.out _ H0.out (HS8.out.below.trans (hA9.below HS8.out.below.size (Nat.le_refl _))))
  ·have hq : (stV (readT s) == s) = false := beq_eq_false_iff_ne.2 ht
   have hq2 : (stV (readT s) != s) = true := by rw [bne, hq]; rfl
   have H0 := Lib.hid ht
   rw [he]
   clear he ht
   have H1 := Lib.hid (show ¬ (stE (readT s) = 0 ∧ stV (readT s) = s) from fun h => H0.out h.2)
   generalize stV (readT s) = sv at hT2 hq hq2 ⊢
   go_wp2_with (first | (refine wpList_store_blk rfl 23 (.tmp 2) (.tmp 45) rfl w.heap.size 0 23 (TD zeroT) (TD zeroT) (TD zeroT) rfl rfl HS8.out.res size_st (one_TD _) (Nat.le_of_eq rfl) (whole_TD _ _) ?_; intro w9 hB9 hA9))
   refine bodyPost_ret (v := .tuple #[.agg (TD zeroT), .int .i64 2]) (answer_g rfl rfl rfl hB9 Tryz.underlying23 rfl size_st) rfl (HNO.out _ H1.out (HS8.out.below.trans (hA9.below HS8.out.below.size (Nat.le_refl _))))
 ·have hne : (stE (readT s) != 0) = true := by rw [bne_iff_ne]; exact he
  have H1 := Lib.hid (show ¬ (stE (readT s) = 0 ∧ stV (readT s) = s) from fun h => he h.1)
  clear he
  generalize stV (readT s) = sv at hT2 ⊢
  generalize stE (readT s) = se at hne ⊢
  go_wp2_with (first | (refine wpList_store_blk rfl 23 (.tmp 2) (.tmp 45) rfl w.heap.size 0 23 (TD zeroT) (TD zeroT) (TD zeroT) rfl rfl HS8.out.res size_st (one_TD _) (Nat.le_of_eq rfl) (whole_TD _ _) ?_; intro w9 hB9 hA9))
  refine bodyPost_ret (v := .tuple #[.agg (TD zeroT), .int .i64 2]) (answer_g rfl rfl rfl hB9 Tryz.underlying23 rfl size_st) rfl (HNO.out _ H1.out (HS8.out.below.trans (hA9.below HS8.out.below.size (Nat.le_refl _))))
end Go.Proofs.YtbecdncnidcmdaaGreatDoor.E
namespace Go.Proofs.YtbecdncnidcmdaaGreatDoor.E
set_option maxRecDepth 100000
open Go.RowKit Go.Shelf
theorem is_load {P : Program} {ops : Array Oper} {rest : List Oper} {op : Oper} {a : Act} {w : World} {Q : Exit → Act → World → Prop} {ty : TypeId} {x : Operand} (_ : op.op = .load ty x) (h : wpList P ops Q (op :: rest) a w) : wpList P ops Q (op :: rest) a w := h
theorem is_store {P : Program} {ops : Array Oper} {rest : List Oper} {op : Oper} {a : Act} {w : World} {Q : Exit → Act → World → Prop} {ty : TypeId} {x y : Operand} (_ : op.op = .store ty x y) (h : wpList P ops Q (op :: rest) a w) : wpList P ops Q (op :: rest) a w := h
def nilS : Value := .slice none 0 0
theorem EAt.nil (w : World) (x : EM) (h1 : x.rc = []) (h2 : x.ls = []) : EAt w x nilS nilS := ⟨by rw [h1]; exact rcs_nil w, by rw [h2]; exact txts_nil w⟩
structure R1 (W : World) (r : Txt) (w : World) : Prop where
 res : w.heap[W.heap.size]? = some (.cells (EC zeroE nilS nilS) 53 (0, 0))
 tb : TB (W.heap.size + 1 + 1) (W.heap.size + 1 + 1 + 1) (W.heap.size + 1) [13, 10] r w
 below : Below W.heap.size W w
theorem R1.take {W w w' : World} {r r' : Txt} (h : R1 W r w) (h1 : w'.heap[W.heap.size + 1]? = some (.cells #[.string (mkS r')] 9 (0, 0))) (h2 : w.grownBy w' (some (W.heap.size + 1))) : R1 W r' w' :=
 ⟨gr_at h2 h.res (fun e => by injection e with e; omega), ⟨gr_at h2 h.tb.p (fun e => by injection e with e; omega), gr_at h2 h.tb.s (fun e => by injection e with e; omega), h1⟩, h.below.grown h2 h.below.size (fun k hk => by injection hk with hk; omega)⟩
theorem R1.next {W w w' : World} {r : Txt} (h : R1 W r w) (hb : Below w.heap.size w w') : R1 W r w' :=
 ⟨(hb.block _ (ltOf h.res)).trans h.res, ⟨(hb.block _ (ltOf h.tb.p)).trans h.tb.p, (hb.block _ (ltOf h.tb.s)).trans h.tb.s, (hb.block _ (ltOf h.tb.r)).trans h.tb.r⟩, below_next h.below hb⟩
theorem R1.far {W w w' : World} {r : Txt} {B : Nat} (h : R1 W r w) (hB : W.heap.size + 4 ≤ B) (hb : Below B w w') : R1 W r w' :=
 ⟨(hb.block _ (by omega)).trans h.res, ⟨(hb.block _ (by omega)).trans h.tb.p, (hb.block _ (by omega)).trans h.tb.s, (hb.block _ (by omega)).trans h.tb.r⟩, h.below.trans (hb.mono (by omega))⟩
theorem R1.lt {W w : World} {r : Txt} (h : R1 W r w) : W.heap.size + 4 ≤ w.heap.size := ltOf h.tb.s
theorem R1.new (w : World) (s : Txt) : R1 w s ((((w.alloc (.cells (EC zeroE nilS nilS) 53)).alloc (.cells #[.string (mkS s)] 9)).alloc (.cells #[.pointer (some ⟨w.heap.size + 1, 0, none⟩)] 94)).alloc (.cells #[.string (mkS [13, 10])] 9)) := by
 refine ⟨?_, ⟨?_, ?_, ?_⟩, ((((Below.refl _ w).alloc (Nat.le_refl _) _).alloc (by simp) _).alloc (by simp; try omega) _).alloc (by simp; try omega) _⟩
 ·rw [Below.heap_alloc _ _ _ (by simp; try omega), Below.heap_alloc _ _ _ (by simp; try omega), Below.heap_alloc _ _ _ (by simp)]
  exact newOf w _
 ·rw [Below.heap_alloc _ _ _ (by simp)]
  exact (show ((w.alloc (.cells (EC zeroE nilS nilS) 53)).alloc (.cells #[.string (mkS s)] 9)).heap.size = w.heap.size + 1 + 1 by simp) ▸ newOf _ _
 ·exact (show (((w.alloc (.cells (EC zeroE nilS nilS) 53)).alloc (.cells #[.string (mkS s)] 9)).alloc (.cells #[.pointer (some ⟨w.heap.size + 1, 0, none⟩)] 94)).heap.size = w.heap.size + 1 + 1 + 1 by simp) ▸ newOf _ _
 ·rw [Below.heap_alloc _ _ _ (by simp; try omega), Below.heap_alloc _ _ _ (by simp)]
  exact (show (w.alloc (.cells (EC zeroE nilS nilS) 53)).heap.size = w.heap.size + 1 by simp) ▸ newOf _ _
structure R2 (W : World) (r : Txt) (F : Nat) (f : Txt) (w : World) : Prop where
 r1 : R1 W r w
 tb : TB (F + 1) (F + 1 + 1) F [32] f w
 lt : W.heap.size + 4 ≤ F
theorem R2.take {W w w' : World} {r f f' : Txt} {F : Nat} (h : R2 W r F f w) (h1 : w'.heap[F]? = some (.cells #[.string (mkS f')] 9 (0, 0))) (h2 : w.grownBy w' (some F)) : R2 W r F f' w' :=
 ⟨h.r1.far h.lt ((Below.refl F w).grown h2 (Nat.le_of_lt (ltOf h.tb.r)) (fun k hk => by injection hk with hk; omega)), ⟨gr_at h2 h.tb.p (fun e => by injection e with e; omega), gr_at h2 h.tb.s (fun e => by injection e with e; omega), h1⟩, h.lt⟩
theorem R2.new {W w : World} {r : Txt} (h : R1 W r w) (f : Txt) : R2 W r w.heap.size f (((w.alloc (.cells #[.string (mkS f)] 9)).alloc (.cells #[.pointer (some ⟨w.heap.size, 0, none⟩)] 94)).alloc (.cells #[.string (mkS [32])] 9)) := by
 refine ⟨h.next ((((Below.refl _ w).alloc (Nat.le_refl _) _).alloc (by simp) _).alloc (by simp; try omega) _), ⟨?_, ?_, ?_⟩, h.lt⟩
 ·rw [Below.heap_alloc _ _ _ (by simp)]
  exact (show (w.alloc (.cells #[.string (mkS f)] 9)).heap.size = w.heap.size + 1 by simp) ▸ newOf _ _
 ·exact (show ((w.alloc (.cells #[.string (mkS f)] 9)).alloc (.cells #[.pointer (some ⟨w.heap.size, 0, none⟩)] 94)).heap.size = w.heap.size + 1 + 1 by simp) ▸ newOf _ _
 ·rw [Below.heap_alloc _ _ _ (by simp; try omega), Below.heap_alloc _ _ _ (by simp)]
  exact newOf w _
structure R3 (W : World) (r : Txt) (M : Nat) (x : EM) (l : List Rc) (v : Value) (w : World) : Prop where
 r1 : R1 W r w
 box : w.heap[M]? = some (.cells (EC x v nilS) 53 (0, 0))
 row : w.ownsRow (M + 1) 79 5 v l.length (rcV l)
 lt : W.heap.size + 4 ≤ M
theorem R3.take {W w w' : World} {r r' : Txt} {M : Nat} {x : EM} {l : List Rc} {v : Value} (h : R3 W r M x l v w) (h1 : w'.heap[W.heap.size + 1]? = some (.cells #[.string (mkS r')] 9 (0, 0))) (h2 : w.grownBy w' (some (W.heap.size + 1))) : R3 W r' M x l v w' :=
 ⟨h.r1.take h1 h2, gr_at h2 h.box (fun e => by injection e with e; have := h.lt; omega), own_of h.row (fun k hk => h2.block k (h.row.lt k hk).2 (fun e => by injection e with e; have := (h.row.lt k hk).1; have := h.lt; omega)), h.lt⟩
theorem R3.next {W w w' : World} {r : Txt} {M : Nat} {x : EM} {l : List Rc} {v : Value} (h : R3 W r M x l v w) (hb : Below w.heap.size w w') : R3 W r M x l v w' :=
 ⟨h.r1.next hb, (hb.block _ (ltOf h.box)).trans h.box, own_below h.row hb, h.lt⟩
theorem R3.apart {W w w' : World} {o : Obj} {r : Txt} {M : Nat} {x : EM} {l : List Rc} {v : Value} (h : R3 W r M x l v w) (hA : Apart w.heap.size (w.alloc o).heap.size (w.alloc o) w') : R3 W r M x l v w' :=
 h.next (((Below.refl _ w).alloc (Nat.le_refl _) o).trans (hA.below (by simp) (Nat.le_refl _)))
theorem far_apart {w w' : World} {o : Obj} (hA : Apart w.heap.size (w.alloc o).heap.size (w.alloc o) w') : Below w.heap.size w w' :=
 ((Below.refl _ w).alloc (Nat.le_refl _) o).trans (hA.below (by simp) (Nat.le_refl _))
theorem R3.new {W w w' : World} {o : Obj} {r : Txt} {x : EM} (h : R1 W r w) (hb : w'.heap[w.heap.size]? = some (.cells (EC x nilS nilS) 53 (0, 0))) (hA : Apart w.heap.size (w.alloc o).heap.size (w.alloc o) w') : R3 W r w.heap.size x [] nilS w' :=
 ⟨h.next (far_apart hA), hb, ⟨rfl, .inl ⟨rfl, rfl⟩⟩, h.lt⟩
theorem EC_set (x : EM) (v v' u : Value) : (EC x v u).setIfInBounds 19 v' = EC x v' u := rfl
theorem EC_set2 (x : EM) (v u u' : Value) : (EC x v u).setIfInBounds 20 u' = EC x v u' := rfl
theorem R3.app {W w w' : World} {r : Txt} {M : Nat} {x : EM} {l l' : List Rc} {v v' : Value} {n : Nat} (h : R3 W r M x l v w) (hown : w'.ownsRow (M + 1) 79 5 v' n (rcV l')) (hn : n = l'.length) (hg : w.grownBy w' v.ownBlock) : R3 W r M x l' v' (w'.setCell ⟨M, 19, none⟩ v') := by
 subst hn
 have hlt := ltOf h.box
 have hne : ∀ k, v.ownBlock = some k → M + 1 ≤ k := fun k hk => (h.row.lt k hk).1
 have hb : Below (M + 1) w w' := (Below.refl (M + 1) w).grown hg hlt (fun k hk => hne k hk)
 have hbox := (hb.block M (by omega)).trans h.box
 have hb2 : Below M w (w'.setCell ⟨M, 19, none⟩ v') := Below.setCell (hb.mono (show M ≤ M + 1 by omega)) (p := ⟨M, 19, none⟩) (Nat.le_refl M) _
 refine ⟨h.r1.far h.lt hb2, ?_, ?_, h.lt⟩
 ·have := setOf hbox 19 v'
  rwa [EC_set] at this
 ·exact own_of hown fun k hk => Below.heap_setCell w' ⟨M, 19, none⟩ v' k (fun e => by have h1 := (hown.lt k hk).1; have e' : k = M := e; omega)
def toRc (c : CL) : Rc := ⟨c.p, c.r⟩
def RdPost (s : Txt) (w : World) (e : Ending) (w' : World) : Prop := ∃ vr vl, e = .returned (.agg (EC (readE s) vr vl)) ∧ EAt w' (readE s) vr vl ∧ Below w.heap.size w w' ∧ (∀ k, vr.ownBlock = some k → w.heap.size < k) ∧ (∀ k, vl.ownBlock = some k → w.heap.size < k)
theorem ln_le (r : Txt) : (ln r).length ≤ r.length := (tk_len [13, 10] r).1
theorem lx_le (r : Txt) : (lx r).length ≤ r.length := (tk_len [13, 10] r).2
theorem rcs_no {f : Nat} {r : Txt} (h : ln r = []) : rcs (f + 1) r = ([], lx r) := if_pos h
theorem rcs_yes {f : Nat} {r : Txt} (h : ln r ≠ []) : rcs (f + 1) r = (cpV (ln r) :: (rcs f (lx r)).1, (rcs f (lx r)).2) := if_neg h
theorem lx_less {r : Txt} (h : ln r ≠ []) : (lx r).length < r.length := tk_less (by simp) h
theorem CC_p (c : CL) : ∀ j, j < (#[.string (mkS c.p.1), .string (mkS c.p.2)] : Array Value).size → (CC c)[2 + j]? = (#[.string (mkS c.p.1), .string (mkS c.p.2)] : Array Value)[j]? := by
 intro j hj
 have : j = 0 ∨ j = 1 := by simp at hj; omega
 rcases this with rfl | rfl <;> rfl
def MA (m : ML) : Array Value := #[.bool m.hs, .bool m.hf, .bool m.hu, .bool m.hb, .bool m.hp, .int .i64 m.sz, .int .i64 m.fo, .int .i64 m.un, .int .i64 m.by_, .int .i64 m.pr, .string (mkS m.body), .string (mkS m.ret), .string (mkS m.env), .string (mkS m.mode)]
theorem CC_m (c : CL) : ∀ j, j < (MA c.m).size → (CC c)[4 + j]? = (MA c.m)[j]? := by
 intro j hj
 have hj' : j < 14 := hj
 match j, hj' with
 | 0, _ => rfl
 | 1, _ => rfl
 | 2, _ => rfl
 | 3, _ => rfl
 | 4, _ => rfl
 | 5, _ => rfl
 | 6, _ => rfl
 | 7, _ => rfl
 | 8, _ => rfl
 | 9, _ => rfl
 | 10, _ => rfl
 | 11, _ => rfl
 | 12, _ => rfl
 | 13, _ => rfl
 | j + 14, h => omega
theorem CC_r (c : CL) : ∀ j, j < (#[.string (mkS c.r.no), .string (mkS c.r.kind), .string (mkS c.r.oc)] : Array Value).size → (CC c)[18 + j]? = (#[.string (mkS c.r.no), .string (mkS c.r.kind), .string (mkS c.r.oc)] : Array Value)[j]? := by
 intro j hj
 have : j = 0 ∨ j = 1 ∨ j = 2 := by simp at hj; omega
 rcases this with rfl | rfl | rfl <;> rfl
theorem size_path : (Tryz.prog.info? 45).map (·.size) = some 2 := by kernel_rfl
theorem size_mail : (Tryz.prog.info? 49).map (·.size) = some 14 := by kernel_rfl
theorem size_rcpt : (Tryz.prog.info? 77).map (·.size) = some 3 := by kernel_rfl
theorem undata_w (s : Txt) (w : World) (hR : Rdy w) (hs : s.length ≤ 1000000) : Calls Tryz.prog 128 #[.string (mkS s)] w (L.UndPost s w) := by
 obtain ⟨m, hm⟩ := hR.mx
 exact L.undata_x s m w hm (cell_lt hm) (by omega)
theorem R3.lay {W w : World} {r : Txt} {M : Nat} {x : EM} {l : List Rc} {v o : Value} (h : R3 W r M x l v w) : (w.setCell ⟨M, 20, none⟩ o).heap[M]? = some (.cells (EC x v o) 53 (0, 0)) ∧ (w.setCell ⟨M, 20, none⟩ o).heap[W.heap.size]? = some (.cells (EC zeroE nilS nilS) 53 (0, 0)) := by
 refine ⟨?_, ?_⟩
 ·have := setOf h.box 20 o
  rwa [EC_set2] at this
 ·exact (Below.heap_setCell w ⟨M, 20, none⟩ o _ (fun e => by have e' : W.heap.size = M := e; have := h.lt; omega)).trans h.r1.res
theorem R3.fin {W w w3 : World} {r : Txt} {M B : Nat} {x y : EM} {l : List Rc} {v o : Value} {ls : List Txt} (h : R3 W r M x l v w) (hrow : w.ownsRow B 9 1 o ls.length (strsV ls)) (hB : M < B) (hA : Apart W.heap.size (w.setCell ⟨M, 20, none⟩ o).heap.size (w.setCell ⟨M, 20, none⟩ o) w3) (h1 : y.rc = l) (h2 : y.ls = ls) :
  EAt w3 y v o ∧ Below W.heap.size W w3 ∧ (∀ k, v.ownBlock = some k → W.heap.size < k) ∧ (∀ k, o.ownBlock = some k → W.heap.size < k) := by
 have hlt := h.lt
 have key : ∀ k, M < k → k < w.heap.size → w3.heap[k]? = w.heap[k]? := fun k hk hk2 =>
  (hA.block k (by simpa [World.setCell] using hk2) (by omega)).trans (Below.heap_setCell w ⟨M, 20, none⟩ o k (fun e => by have e' : k = M := e; omega))
 refine ⟨⟨?_, ?_⟩, ?_, fun k hk => (by have := (h.row.lt k hk).1; omega), fun k hk => (by have := (hrow.lt k hk).1; omega)⟩
 ·rw [h1]
  exact own_rcs (own_of h.row fun k hk => key k (by have := (h.row.lt k hk).1; omega) (h.row.lt k hk).2)
 ·rw [h2]
  exact own_txts (own_of hrow fun k hk => key k (by have := (hrow.lt k hk).1; omega) (hrow.lt k hk).2)
 ·exact (Below.setCell h.r1.below (p := ⟨M, 20, none⟩) (show W.heap.size ≤ M by omega) o).trans (hA.below (by have := h.r1.below.size; simpa [World.setCell] using this) (Nat.le_refl _))
theorem EC_read {x y : EM} (v o : Value) (h : y.id = x.id ∧ y.at_ = x.at_ ∧ y.rel = x.rel ∧ y.fr = x.fr ∧ y.m = x.m) : EC x v o = EC y v o := by
 obtain ⟨h1, h2, h3, h4, h5⟩ := h
 unfold EC
 rw [h1, h2, h3, h4, h5]
theorem one_ECs (x : EM) (a b : Option Addr) (n m c d : Nat) : (EC x (.slice a n c) (.slice b m d)).all (·.oneCell') = true := by kernel_rfl
theorem rc_cells (w : World) (c : Rc) : ∀ j u, (RC c).toList[j]? = some u → (w.alloc (.cells (RC c) 79)).cell? ((⟨w.heap.size, 0, none⟩ : Addr).add j) = some u := by
 intro j u hj
 rw [add_at, Nat.zero_add, cellOf (newOf w _)]
 rw [Array.getElem?_toList] at hj
 exact hj
theorem R3.mid {W w w' : World} {r : Txt} {M : Nat} {x : EM} {l : List Rc} {v : Value} (h : R3 W r M x l v w) (hg : w.grownBy w' v.ownBlock) : w'.heap[M]? = some (.cells (EC x v nilS) 53 (0, 0)) :=
 (hg.block M (ltOf h.box) (fun e => by have := (h.row.lt M e.symm).1; omega)).trans h.box
end Go.Proofs.YtbecdncnidcmdaaGreatDoor.E
namespace Go.Proofs.YtbecdncnidcmdaaGreatDoor.E
set_option maxRecDepth 100000
open Go.RowKit Go.Shelf
def x0 (n0 n1 n2 : Int) (c : CL) : EM := ⟨n0, n1, n2, c.p, c.m, [], []⟩
theorem readE_eq (s : Txt) : readE s = ⟨numV (wd (nx (ln s))), numV (wd (nx (nx (ln s)))), numV (wd (nx (nx (nx (ln s))))), (cpV (ln (lx s))).p, (cpV (ln (lx s))).m, (rcsV (lx (lx s))).1.map toRc, (L.undata (rcsV (lx (lx s))).2).1⟩ := rfl
set_option maxHeartbeats 16000000 in
theorem read_x (s : Txt) (w : World) (hs : s.length ≤ 9728) (hR : Rdy w) : Calls Tryz.prog 92 #[.string (mkS s)] w (RdPost s w) := by
 have e38 : ∀ args w, (callFunc 95 args).run Tryz.prog w = .ok (.enter 95 args) w := enters_of Tryz.func95 (by kernel_rfl) rfl
 have HS := Lib.hid (R1.new w s)
 have HR := Lib.hid (fun w' (h : Below w.heap.size w w') => hR.below h)
 have HT := Lib.hid (fun r (hr : r.length ≤ 9728) w' (h : R1 w r w') => tnext_x (w.heap.size + 1 + 1) (w.heap.size + 1 + 1 + 1) (w.heap.size + 1) [13, 10] r w' h.tb (hR.below h.below).mx (by omega))
 unfold TnPost at HT
 have l1 : (lx s).length ≤ 9728 := Nat.le_trans (lx_le s) hs
 have l2 : (lx (lx s)).length ≤ 9728 := Nat.le_trans (lx_le _) l1
 have f0 : (ln s).length ≤ 9728 := Nat.le_trans (ln_le s) hs
 have f1 : (nx (ln s)).length ≤ 9728 := Nat.le_trans (nx_le _) f0
 have m0 : (ln (lx s)).length ≤ 9728 := Nat.le_trans (ln_le _) l1
 have HTR := Lib.hid (taker_x (w.heap.size + 1) (mkS [13, 10]) ((w.alloc (.cells (EC zeroE nilS nilS) 53)).alloc (.cells #[.string (mkS s)] 9)))
 have HRE := Lib.hid (readE_eq s)
 go_enter Tryz.func92, Tryz.ntmps92
 go_wp2_with fail
 refine HTR.out.mono ?_
 rintro e w0 ⟨rfl, hw⟩
 have HS0 := Lib.hid (show R1 w s w0 by rw [hw]; exact HS.out)
 clear hw HS HTR hR
 go_wp2_with fail
 refine (HT.out s hs _ HS0.out).mono ?_
 rintro e w1 ⟨rfl, h1, h2⟩
 have HS1 := Lib.hid (show R1 w (lx s) w1 from HS0.out.take h1 h2)
 clear h1 h2 HS0
 rw [show (tk [13, 10] s).1 = ln s from rfl]
 have HQ0 := Lib.hid (R2.new HS1.out (ln s))
 have HTR := Lib.hid (taker_x w1.heap.size (mkS [32]) (w1.alloc (.cells #[.string (mkS (ln s))] 9)))
 go_wp2_with fail
 refine HTR.out.mono ?_
 rintro e w2 ⟨rfl, hw⟩
 have HQ := Lib.hid (show R2 w (lx s) w1.heap.size (ln s) w2 by rw [hw]; exact HQ0.out)
 clear hw HQ0 HTR HS1
 go_wp2_with fail
 generalize w1.heap.size = F at HQ ⊢
 have HTF := Lib.hid (fun f (hf : f.length ≤ 9728) w' (h : R2 w (lx s) F f w') => tnext_x (F + 1) (F + 1 + 1) F [32] f w' h.tb (HR.out _ h.r1.below).mx (by omega))
 unfold TnPost at HTF
 refine (HTF.out _ f0 _ HQ.out).mono ?_
 rintro e w3 ⟨rfl, h1, h2⟩
 have HQ3 := Lib.hid (show R2 w (lx s) F (nx (ln s)) w3 from HQ.out.take h1 h2)
 clear h1 h2 HQ HTF
 have HK := Lib.hid (taken_x (F + 1) (F + 1 + 1) F (nx (ln s)) w3 HQ3.out.tb ⟨by omega, by omega⟩ (fun w' h => HR.out _ (HQ3.out.r1.below.grown h HQ3.out.r1.below.size (fun k hk => by injection hk with hk; have := HQ3.out.lt; omega))) (by omega))
 unfold TnkPost at HK
 generalize numV (wd (nx (ln s))) = n1 at HK HRE
 generalize numV (wd (nx (nx (ln s)))) = n2 at HK HRE
 generalize numV (wd (nx (nx (nx (ln s))))) = n3 at HK HRE
 go_wp2_with fail
 refine HK.out.mono ?_
 rintro e w4 ⟨rfl, h1, h2⟩
 have HS4 := Lib.hid (HQ3.out.take h1 h2).r1
 clear h1 h2 HQ3 HK
 have HS4' := Lib.hid (HS4.out.next ((Below.refl _ w4).alloc (Nat.le_refl _) (.cells #[.int .i64 n1, .int .i64 n2, .int .i64 n3] 91)))
 have HAR := Lib.hid (newOf w4 (.cells #[.int .i64 n1, .int .i64 n2, .int .i64 n3] 91))
 have HAL := Lib.hid (HS4.out.lt)
 go_wp2_with fail
 refine (HT.out _ l1 _ HS4'.out).mono ?_
 rintro e w5 ⟨rfl, h1, h2⟩
 have HS5 := Lib.hid (show R1 w (lx (lx s)) w5 from HS4'.out.take h1 h2)
 have HAR5 := Lib.hid (gr_at h2 HAR.out (fun e => by injection e with e; have := HAL.out; omega))
 clear h1 h2 HS4 HS4' HAR
 rw [show (tk [13, 10] (lx s)).1 = ln (lx s) from rfl]
 generalize w4.heap.size = A at HAR5 HAL ⊢
 have HCP := Lib.hid (cparse_x (ln (lx s)) w5 (by omega) (HR.out _ HS5.out.below).r (HR.out _ HS5.out.below).n)
 unfold CpPost at HCP
 generalize cpE (ln (lx s)) = ce at HCP
 generalize cpV (ln (lx s)) = c at HCP HRE
 go_wp2_with fail
 refine HCP.out.mono ?_
 rintro e w6 ⟨rfl, hb⟩
 have HS6 := Lib.hid (HS5.out.next hb)
 have HAR6 := Lib.hid ((hb.block _ (ltOf HAR5.out)).trans HAR5.out)
 clear hb HS5 HAR5 HCP
 go_upto_region 8 with (first | ((with_reducible refine is_store (ty := 164) (x := .tmp 8) (y := .tmp 27) rfl ?_); refine wpList_store_blk rfl 164 (.tmp 8) (.tmp 27) rfl w6.heap.size 0 164 (CC zeroC) (CC c) (CC c) rfl rfl (newOf w6 _) size_cmd (one_CC _) (Nat.le_of_eq rfl) (whole_CC zeroC _) ?_; intro w7 hB7 hA7))
 have hb7 := far_apart hA7
 have HS7 := Lib.hid (HS6.out.next hb7)
 have HAR7 := Lib.hid ((hb7.block _ (ltOf HAR6.out)).trans HAR6.out)
 have HB7 := Lib.hid hB7
 have a0 : w7.cell? ⟨A, 0, none⟩ = some (.int .i64 n1) := cellOf HAR7.out 0
 have a1 : w7.cell? ⟨A, 1, none⟩ = some (.int .i64 n2) := cellOf HAR7.out 1
 have a2 : w7.cell? ⟨A, 2, none⟩ = some (.int .i64 n3) := cellOf HAR7.out 2
 clear hb7 hA7 hB7 HS6 HAR6
 generalize w6.heap.size = D at HB7 ⊢
 go_upto_region 9 with (first
  | ((with_reducible refine is_load (ty := 45) (x := .tmp 35) rfl ?_); refine wpList_load_blk rfl 45 (.tmp 35) rfl D 2 164 (CC c) #[.string (mkS c.p.1), .string (mkS c.p.2)] _ rfl HB7.out Tryz.underlying45 rfl size_path (CC_p c) ?_)
  | ((with_reducible refine is_load (ty := 49) (x := .tmp 37) rfl ?_); refine wpList_load_blk rfl 49 (.tmp 37) rfl D 4 164 (CC c) #[.bool c.m.hs, .bool c.m.hf, .bool c.m.hu, .bool c.m.hb, .bool c.m.hp, .int .i64 c.m.sz, .int .i64 c.m.fo, .int .i64 c.m.un, .int .i64 c.m.by_, .int .i64 c.m.pr, .string (mkS c.m.body), .string (mkS c.m.ret), .string (mkS c.m.env), .string (mkS c.m.mode)] _ rfl HB7.out Tryz.underlying49 rfl size_mail (CC_m c) ?_)
  | ((with_reducible refine is_store (ty := 53) (x := .tmp 10) (y := .tmp 39) rfl ?_); refine wpList_store_blk rfl 53 (.tmp 10) (.tmp 39) rfl w7.heap.size 0 53 (EC zeroE nilS nilS) (EC (x0 n1 n2 n3 c) nilS nilS) (EC (x0 n1 n2 n3 c) nilS nilS) rfl rfl (newOf w7 _) size_msg (one_EC (EAt.nil w7 _ rfl rfl)) (Nat.le_of_eq rfl) (whole_EC _ _ _ _ rfl) ?_; intro w8 hB8 hA8))
 have H3 := Lib.hid (R3.new HS7.out hB8 hA8)
 clear hA8 hB8 HB7 HS7 HAR7 a0 a1 a2
 generalize w7.heap.size = M at H3 ⊢
 generalize hx : x0 n1 n2 n3 c = x at H3
 have HX := Lib.hid hx
 clear hx
 generalize lx (lx s) = r0 at H3 HRE l2
 have HT3 := Lib.hid (fun r (hr : r.length ≤ 9728) l v w' (h : R3 w r M x l v w') => tnext_x (w.heap.size + 1 + 1) (w.heap.size + 1 + 1 + 1) (w.heap.size + 1) [13, 10] r w' h.r1.tb (HR.out _ h.r1.below).mx (by omega))
 unfold TnPost at HT3
 clear HT
 go_wp2_with fail
 refine (HT3.out r0 l2 _ _ _ H3.out).mono ?_
 rintro e w9 ⟨rfl, h1, h2⟩
 have H4 := Lib.hid (show R3 w (lx r0) M x [] nilS w9 from H3.out.take h1 h2)
 clear h1 h2 H3
 rw [show (tk [13, 10] r0).1 = ln r0 from rfl]
 go_wp2_with fail
 go_loopg [11] r0.length (fun gg tv wr => ∃ acc r, tv = .string (mkS (ln r)) ∧ Hid (∃ v, R3 w (lx r) M x acc v wr) ∧ Hid ((rcsV r0).1.map toRc = acc ++ (rcs (gg + 1) r).1.map toRc ∧ (rcsV r0).2 = (rcs (gg + 1) r).2) ∧ r.length ≤ gg ∧ acc.length + r.length ≤ r0.length)
 case atStart => exact ⟨[], r0, rfl, ⟨_, H4.out⟩, ⟨rfl, rfl⟩, Nat.le_refl _, by simp⟩
 case round =>
  obtain ⟨acc, r, rfl, HV, HE, hrl, hal⟩ := hrel
  obtain ⟨v, h3⟩ := HV.out
  have H3 := Lib.hid h3
  clear h3 HV H4
  obtain ⟨A1, cp, rfl⟩ : ∃ A c, v = .slice A acc.length c := own_slice H3.out.row
  by_cases ht : ln r = []
  ·have HE2 := Lib.hid (show (rcsV r0).1.map toRc = acc ∧ (rcsV r0).2 = lx r by rw [HE.out.1, HE.out.2, rcs_no ht]; simp)
   have hT0 := mkS_toList []
   rw [ht]
   have c3 : wr.cell? ⟨w.heap.size + 1, 0, none⟩ = some (.string (mkS (lx r))) := cellOf H3.out.r1.tb.r 0
   have hlr : (lx r).length ≤ 9728 := Nat.le_trans (lx_le r) (by omega)
   have HU := Lib.hid (undata_w (lx r) wr (HR.out _ H3.out.r1.below) (by omega))
   unfold L.UndPost at HU
   clear ht HE
   go_wp2_with fail
   refine HU.out.mono ?_
   rintro e w10 ⟨o, rfl, hrow, hb⟩
   obtain ⟨lb, lc, rfl⟩ : ∃ A c, o = .slice A _ c := own_slice hrow
   have HU2 := Lib.hid (show w10.ownsRow wr.heap.size 9 1 (.slice lb (L.undata (lx r)).1.length lc) (L.undata (lx r)).1.length (strsV (L.undata (lx r)).1) from hrow)
   have H5 := Lib.hid (H3.out.next hb)
   have HMB := Lib.hid (ltOf H3.out.box)
   clear hb H3 HU hrow c3
   have hre : readE s = ⟨x.id, x.at_, x.rel, x.fr, x.m, acc, (L.undata (lx r)).1⟩ := by rw [HRE.out, HE2.out.1, HE2.out.2, ← HX.out]; rfl
   have HEC := Lib.hid (EC_read (x := x) (y := readE s) (.slice A1 acc.length cp) (.slice lb (L.undata (lx r)).1.length lc) (by rw [hre]; exact ⟨rfl, rfl, rfl, rfl, rfl⟩))
   have HFI := Lib.hid (fun w3 hA => H5.out.fin (w3 := w3) (y := readE s) HU2.out HMB.out hA (by rw [hre]) (by rw [hre]))
   have HLY := Lib.hid (H5.out.lay (o := .slice lb (L.undata (lx r)).1.length lc))
   have HON := Lib.hid (one_ECs x A1 lb acc.length (L.undata (lx r)).1.length cp lc)
   have c20 : w10.cell? ⟨M, 20, none⟩ = some nilS := cellOf H5.out.box 20
   have f20 := freeOf H5.out.box 20
   clear hre HRE HX HE2
   generalize hud : (L.undata (lx r)).1.length = udn at HEC HLY HON HFI ⊢
   clear hud HU2
   go_wp2_with (first | ((with_reducible refine is_load (ty := 53) (x := .tmp 10) rfl ?_); refine wpList_load_blk rfl 53 (.tmp 10) rfl M 0 53 (EC x (.slice A1 acc.length cp) (.slice lb udn lc)) (EC x (.slice A1 acc.length cp) (.slice lb udn lc)) _ rfl HLY.out.1 Tryz.underlying53 rfl size_msg (fun j _ => by rw [Nat.zero_add]) ?_) | ((with_reducible refine is_store (ty := 53) (x := .tmp 2) (y := .tmp 68) rfl ?_); refine wpList_store_blk rfl 53 (.tmp 2) (.tmp 68) rfl w.heap.size 0 53 (EC zeroE nilS nilS) (EC x (.slice A1 acc.length cp) (.slice lb udn lc)) (EC x (.slice A1 acc.length cp) (.slice lb udn lc)) rfl rfl HLY.out.2 size_msg HON.out (Nat.le_of_eq rfl) (whole_EC _ _ _ _ rfl) ?_; intro w12 hB12 hA12))
   refine bodyPost_ret (v := .agg (EC x (.slice A1 acc.length cp) (.slice lb udn lc))) (results_cell_row rfl _ _ w.heap.size 53 (EC x (.slice A1 acc.length cp) (.slice lb udn lc)) (0, 0) _ rfl hB12 Tryz.underlying53 rfl size_msg) rfl ⟨_, _, by rw [HEC.out], (HFI.out _ hA12).1, (HFI.out _ hA12).2⟩
  ·have hll := lx_less ht
   have hgk : ∃ g', gk = g' + 1 := by
    cases gk with
    | zero => omega
    | succ g' => exact ⟨g', rfl⟩
   obtain ⟨g', rfl⟩ := hgk
   have HE2 := Lib.hid (show (rcsV r0).1.map toRc = (acc ++ [toRc (cpV (ln r))]) ++ (rcs (g' + 1) (lx r)).1.map toRc ∧ (rcsV r0).2 = (rcs (g' + 1) (lx r)).2 by rw [HE.out.1, HE.out.2, rcs_yes ht]; simp)
   have hT0 := mkS_toList (ln r)
   have hq : (ln r == []) = false := beq_eq_false_iff_ne.2 ht
   have hq2 : (ln r != []) = true := by rw [bne, hq]; rfl
   have hlr : (lx r).length ≤ 9728 := Nat.le_trans (lx_le r) (by omega)
   have hnr : (ln r).length ≤ 9728 := Nat.le_trans (ln_le r) (by omega)
   have HCP := Lib.hid (cparse_x (ln r) wr (by omega) (HR.out _ H3.out.r1.below).r (HR.out _ H3.out.r1.below).n)
   unfold CpPost at HCP
   generalize cpE (ln r) = ce2 at HCP
   generalize cpV (ln r) = c2 at HCP HE2
   clear ht HE
   generalize ln r = t at HCP hT0 hq hq2 hnr ⊢
   go_wp2_with fail
   refine HCP.out.mono ?_
   rintro e w10 ⟨rfl, hb⟩
   have H5 := Lib.hid (H3.out.next hb)
   clear hb H3 HCP
   go_upto_region 13 with (first | ((with_reducible refine is_store (ty := 164) (x := .tmp 12) (y := .tmp 49) rfl ?_); refine wpList_store_blk rfl 164 (.tmp 12) (.tmp 49) rfl w10.heap.size 0 164 (CC zeroC) (CC c2) (CC c2) rfl rfl (newOf w10 _) size_cmd (one_CC _) (Nat.le_of_eq rfl) (whole_CC zeroC _) ?_; intro w11 hB11 hA11))
   have H6 := Lib.hid (H5.out.apart hA11)
   have HB11 := Lib.hid hB11
   clear hA11 hB11 H5
   generalize w10.heap.size = D2 at HB11 ⊢
   have c19 : w11.cell? ⟨M, 19, none⟩ = some (.slice A1 acc.length cp) := cellOf H6.out.box 19
   have f19 := freeOf H6.out.box 19
   have hal2 : acc.length ≤ 1000000 := by omega
   go_wp2_with (first | ((with_reducible refine is_load (ty := 45) (x := .tmp 53) rfl ?_); refine wpList_load_blk rfl 45 (.tmp 53) rfl D2 2 164 (CC c2) #[.string (mkS c2.p.1), .string (mkS c2.p.2)] _ rfl HB11.out Tryz.underlying45 rfl size_path (CC_p c2) ?_) | ((with_reducible refine is_load (ty := 77) (x := .tmp 55) rfl ?_); refine wpList_load_blk rfl 77 (.tmp 55) rfl D2 18 164 (CC c2) #[.string (mkS c2.r.no), .string (mkS c2.r.kind), .string (mkS c2.r.oc)] _ rfl HB11.out Tryz.underlying77 rfl size_rcpt (CC_r c2) ?_) | (at_builtin; refine app_rcs rfl (.tmp 52) (.tmp 58) rfl (M + 1) (.slice A1 acc.length cp) acc rfl (H6.out.row.alloc _) ⟨w11.heap.size, 0, none⟩ (toRc c2) 1 rfl ?a1 hal2 ?a2 ?_))
   case a1 => exact rc_cells w11 (toRc c2)
   case a2 => have := ltOf H6.out.box; simp; omega
   intro v1 w12 hown hg
   have H6b := Lib.hid (H6.out.next ((Below.refl _ w11).alloc (Nat.le_refl _) (.cells (RC (toRc c2)) 79)))
   have hbx := H6b.out.mid hg
   have c19' : w12.cell? ⟨M, 19, none⟩ = some (.slice A1 acc.length cp) := cellOf hbx 19
   have f19' := freeOf hbx 19
   have H7 := Lib.hid (H6b.out.app (l' := acc ++ [toRc c2]) hown (by simp) hg)
   obtain ⟨A2, cp2, hv1⟩ : ∃ A c, v1 = .slice A (acc.length + 1) c := own_slice hown
   clear hbx hown hg H6b H6 c19 f19 HB11
   subst hv1
   go_wp2_with fail
   refine (HT3.out _ hlr _ _ _ H7.out).mono ?_
   rintro e w13 ⟨rfl, h1, h2⟩
   have H8 := Lib.hid (show R3 w (lx (lx r)) M x (acc ++ [toRc c2]) (.slice A2 (acc.length + 1) cp2) w13 from H7.out.take h1 h2)
   clear h1 h2 H7
   rw [show (tk [13, 10] (lx r)).1 = ln (lx r) from rfl]
   go_wp2_with fail
   go_roundg g'
   case measure => omega
   case rel => exact ⟨acc ++ [toRc c2], lx r, rfl, ⟨_, H8.out⟩, HE2, by omega, by simp; omega⟩
end Go.Proofs.YtbecdncnidcmdaaGreatDoor.E
