import Derived.Test.YtojpkbonioglbaaGreatDoorMaEvB
import Derived.Deep.RegionWith
import Derived.Laws.ResultCell
import Derived.Test.YtojpkbonioglbaaGreatDoorMaBuild
import Derived.Test.YtojpkbonioglbaaGreatDoorMaEvA
namespace Go.Proofs.YtojpkbonioglbaaGreatDoor.E
set_option maxRecDepth 100000
open Go.RowKit Go.Shelf
def TnPost (rb : Nat) (sg r : Txt) (w : World) (e : Ending) (w' : World) : Prop :=
 e = .returned (.string (mkS (tk sg r).1)) ∧ w'.heap[rb]? = some (.cells #[.string (mkS (tk sg r).2.1)] 9 (0, 0)) ∧ w.grownBy w' (some rb)
end Go.Proofs.YtojpkbonioglbaaGreatDoor.E
namespace Go.Proofs.YtojpkbonioglbaaGreatDoor.E
set_option maxRecDepth 100000
open Go.RowKit Go.Shelf
theorem gr_trans {a b c : World} {r : Option Nat} (h : a.grownBy b r) (k : b.grownBy c r) : a.grownBy c r :=
 ⟨k.os.trans h.os, k.tape.trans h.tape, k.output.trans h.output, Nat.le_trans h.size k.size, fun i hi hr => (k.block i (Nat.lt_of_lt_of_le hi h.size) hr).trans (h.block i hi hr)⟩
theorem gr_below {a b c : World} {r : Option Nat} (h : a.grownBy b r) (k : Below b.heap.size b c) : a.grownBy c r :=
 ⟨k.os.trans h.os, k.tape.trans h.tape, k.output.trans h.output, Nat.le_trans h.size k.size, fun i hi hr => (k.block i (Nat.lt_of_lt_of_le hi h.size)).trans (h.block i hi hr)⟩
theorem gr_at {a b : World} {r : Option Nat} (h : a.grownBy b r) {g : Nat} {o : Obj} (hg : a.heap[g]? = some o) (hr : some g ≠ r) : b.heap[g]? = some o := (h.block g (ltOf hg) hr).trans hg
def arr3 (r : Txt) (k : Nat) : Array Value := #[.int .i64 (if 0 < k then numV (wd r) else 0), .int .i64 (if 1 < k then numV (wd (nx r)) else 0), .int .i64 (if 2 < k then numV (wd (nx (nx r))) else 0)]
def nxk : Nat → Txt → Txt
 | 0, r => r
 | k + 1, r => nx (nxk k r)
theorem nxk_len (r : Txt) : ∀ k, (nxk k r).length ≤ r.length
 | 0 => Nat.le_refl _
 | k + 1 => Nat.le_trans (tk_len [32] (nxk k r)).2 (nxk_len r k)
theorem arr3_set (r : Txt) {k : Nat} (h : k < 3) : (arr3 r k).setIfInBounds k (.int .i64 (numV (wd (nxk k r)))) = arr3 r (k + 1) := by
 have : k = 0 ∨ k = 1 ∨ k = 2 := by omega
 rcases this with rfl | rfl | rfl <;> rfl
theorem size_arr : (Tryz.prog.info? 35).map (·.size) = some 3 := by kernel_rfl
theorem one_arr (r : Txt) : (arr3 r 3).all (·.oneCell') = true := by kernel_rfl
theorem whole_arr (r : Txt) : arr3 r 3 = ((arr3 r 3).toList.take 0 ++ (arr3 r 3).toList ++ (arr3 r 3).toList.drop (0 + (arr3 r 3).size)).toArray := by kernel_rfl
def TnkPost (rb : Nat) (r : Txt) (w : World) (e : Ending) (w' : World) : Prop :=
 e = .returned (.agg #[.int .i64 (numV (wd r)), .int .i64 (numV (wd (nx r))), .int .i64 (numV (wd (nx (nx r))))]) ∧ w'.heap[rb]? = some (.cells #[.string (mkS (nx (nx (nx r))))] 9 (0, 0)) ∧ w.grownBy w' (some rb)
end Go.Proofs.YtojpkbonioglbaaGreatDoor.E
namespace Go.Proofs.YtojpkbonioglbaaGreatDoor.E
set_option maxRecDepth 100000
open Go.RowKit Go.Shelf
theorem answer_g {ty : TypeId} {d : TypeDesc} {fn : Func} {p u : Tmp} (hf : fn.results = #[.cell p ty, .tmp u]) {tmps : Array Value} {w : World} {b : Nat} {cs : Array Value} {n : Int} (hp : tmps.getD p undef = .pointer (some ⟨b, 0, none⟩)) (hu : tmps.getD u undef = .int .i64 n)
  (hb : w.heap[b]? = some (.cells cs ty (0, 0))) (hd : Tryz.prog.underlying ty = some d) (hr : d.isRow = true) (hi : (Tryz.prog.info? ty).map (·.size) = some cs.size) : (results fn tmps).run Tryz.prog w = .ok (.tuple #[.agg cs, .int .i64 n]) w := by
 rw [results_cell_tmp hf, hp, hu]
 have hl := loadVar_blk (P := Tryz.prog) (ty := ty) (o := 0) (vs := cs) hb hd hr hi (fun j _ => by rw [Nat.zero_add])
 simp [asAddr, Result.andThen, hl]
def TD (t : ST) : Array Value := #[.int .i64 t.pl, .string (mkS t.st), .int .i64 t.tr, .int .i64 t.ne, .int .i64 t.told]
theorem one_TD (t : ST) : (TD t).all (·.oneCell') = true := by kernel_rfl
theorem whole_TD (a b : ST) : TD b = ((TD a).toList.take 0 ++ (TD b).toList ++ (TD a).toList.drop (0 + (TD b).size)).toArray := by kernel_rfl
def PtPost (s : Txt) (w : World) (e : Ending) (w' : World) : Prop := e = .returned (.tuple #[.agg (TD (ptV s)), .int .i64 (ptE s)]) ∧ Below w.heap.size w w'
theorem pt_no {s : Txt} {w w' : World} (h : ¬ (stE (readT s) = 0 ∧ stV (readT s) = s)) (hb : Below w.heap.size w w') : PtPost s w (.returned (.tuple #[.agg (TD zeroT), .int .i64 2])) w' := by
 have e : ptE s = 2 := if_neg h
 unfold PtPost ptV
 rw [e, if_neg (by decide)]
 exact ⟨rfl, hb⟩
theorem pt_yes {s : Txt} {w w' : World} (h : stE (readT s) = 0 ∧ stV (readT s) = s) (hb : Below w.heap.size w w') : PtPost s w (.returned (.tuple #[.agg (TD (readT s)), .int .i64 0])) w' := by
 have e : ptE s = 0 := if_pos h
 unfold PtPost ptV
 rw [e, if_pos rfl]
 exact ⟨rfl, hb⟩
theorem clone_w (l : Txt) (w : World) (hl : l.length ≤ 1000000000000) : Calls Tryz.prog 27 #[.string (mkS l)] w fun e w' => e = .returned (.string (mkS l)) ∧ Below w.heap.size w w' := P.clone_x l w hl
theorem nx_le (r : Txt) : (nx r).length ≤ r.length := (tk_len [32] r).2
theorem wd_le (r : Txt) : (wd r).length ≤ r.length := (tk_len [32] r).1
end Go.Proofs.YtojpkbonioglbaaGreatDoor.E
namespace Go.Proofs.YtojpkbonioglbaaGreatDoor.E
set_option maxRecDepth 100000
open Go.RowKit Go.Shelf
theorem is_load {P : Program} {ops : Array Oper} {rest : List Oper} {op : Oper} {a : Act} {w : World} {Q : Exit → Act → World → Prop} {ty : TypeId} {x : Operand} (_ : op.op = .load ty x) (h : wpList P ops Q (op :: rest) a w) : wpList P ops Q (op :: rest) a w := h
theorem is_store {P : Program} {ops : Array Oper} {rest : List Oper} {op : Oper} {a : Act} {w : World} {Q : Exit → Act → World → Prop} {ty : TypeId} {x y : Operand} (_ : op.op = .store ty x y) (h : wpList P ops Q (op :: rest) a w) : wpList P ops Q (op :: rest) a w := h
def nilS : Value := .slice none 0 0
theorem EAt.nil (w : World) (x : EM) (h1 : x.rc = []) (h2 : x.ls = []) : EAt w x nilS nilS := ⟨by rw [h1]; exact rcs_nil w, by rw [h2]; exact txts_nil w⟩
theorem far_apart {w w' : World} {o : Obj} (hA : Apart w.heap.size (w.alloc o).heap.size (w.alloc o) w') : Below w.heap.size w w' :=
 ((Below.refl _ w).alloc (Nat.le_refl _) o).trans (hA.below (by simp) (Nat.le_refl _))
theorem EC_set (x : EM) (v v' u : Value) : (EC x v u).setIfInBounds 19 v' = EC x v' u := rfl
theorem EC_set2 (x : EM) (v u u' : Value) : (EC x v u).setIfInBounds 20 u' = EC x v u' := rfl
def toRc (c : CL) : Rc := ⟨c.p, c.r⟩
def RdPost (s : Txt) (w : World) (e : Ending) (w' : World) : Prop := ∃ vr vl, e = .returned (.agg (EC (readE s) vr vl)) ∧ EAt w' (readE s) vr vl ∧ Below w.heap.size w w' ∧ (∀ k, vr.ownBlock = some k → w.heap.size < k) ∧ (∀ k, vl.ownBlock = some k → w.heap.size < k)
theorem ln_le (r : Txt) : (ln r).length ≤ r.length := (tk_len [13, 10] r).1
theorem lx_le (r : Txt) : (lx r).length ≤ r.length := (tk_len [13, 10] r).2
theorem rcs_no {f : Nat} {r : Txt} (h : ln r = []) : rcs (f + 1) r = ([], lx r) := if_pos h
theorem rcs_yes {f : Nat} {r : Txt} (h : ln r ≠ []) : rcs (f + 1) r = (cpV (ln r) :: (rcs f (lx r)).1, (rcs f (lx r)).2) := if_neg h
theorem lx_less {r : Txt} (h : ln r ≠ []) : (lx r).length < r.length := tk_less (by simp) h
theorem CC_p (c : CL) : ∀ j, j < (#[.string (mkS c.p.1), .string (mkS c.p.2)] : Array Value).size → (CC c)[2 + j]? = (#[.string (mkS c.p.1), .string (mkS c.p.2)] : Array Value)[j]? := by
 intro j hj
 have : j = 0 ∨ j = 1 := by simp at hj; omega
 rcases this with rfl | rfl <;> rfl
def MA (m : ML) : Array Value := #[.bool m.hs, .bool m.hf, .bool m.hu, .bool m.hb, .bool m.hp, .int .i64 m.sz, .int .i64 m.fo, .int .i64 m.un, .int .i64 m.by_, .int .i64 m.pr, .string (mkS m.body), .string (mkS m.ret), .string (mkS m.env), .string (mkS m.mode)]
theorem CC_m (c : CL) : ∀ j, j < (MA c.m).size → (CC c)[4 + j]? = (MA c.m)[j]? := by
 intro j hj
 have hj' : j < 14 := hj
 match j, hj' with
 | 0, _ => rfl
 | 1, _ => rfl
 | 2, _ => rfl
 | 3, _ => rfl
 | 4, _ => rfl
 | 5, _ => rfl
 | 6, _ => rfl
 | 7, _ => rfl
 | 8, _ => rfl
 | 9, _ => rfl
 | 10, _ => rfl
 | 11, _ => rfl
 | 12, _ => rfl
 | 13, _ => rfl
 | j + 14, h => omega
theorem CC_r (c : CL) : ∀ j, j < (#[.string (mkS c.r.no), .string (mkS c.r.kind), .string (mkS c.r.oc)] : Array Value).size → (CC c)[18 + j]? = (#[.string (mkS c.r.no), .string (mkS c.r.kind), .string (mkS c.r.oc)] : Array Value)[j]? := by
 intro j hj
 have : j = 0 ∨ j = 1 ∨ j = 2 := by simp at hj; omega
 rcases this with rfl | rfl | rfl <;> rfl
theorem size_path : (Tryz.prog.info? 27).map (·.size) = some 2 := by kernel_rfl
theorem size_mail : (Tryz.prog.info? 31).map (·.size) = some 14 := by kernel_rfl
theorem size_rcpt : (Tryz.prog.info? 47).map (·.size) = some 3 := by kernel_rfl
theorem EC_read {x y : EM} (v o : Value) (h : y.id = x.id ∧ y.at_ = x.at_ ∧ y.rel = x.rel ∧ y.fr = x.fr ∧ y.m = x.m) : EC x v o = EC y v o := by
 obtain ⟨h1, h2, h3, h4, h5⟩ := h
 unfold EC
 rw [h1, h2, h3, h4, h5]
theorem one_ECs (x : EM) (a b : Option Addr) (n m c d : Nat) : (EC x (.slice a n c) (.slice b m d)).all (·.oneCell') = true := by kernel_rfl
theorem rc_cells (w : World) (c : Rc) : ∀ j u, (RC c).toList[j]? = some u → (w.alloc (.cells (RC c) 49)).cell? ((⟨w.heap.size, 0, none⟩ : Addr).add j) = some u := by
 intro j u hj
 rw [add_at, Nat.zero_add, cellOf (newOf w _)]
 rw [Array.getElem?_toList] at hj
 exact hj
end Go.Proofs.YtojpkbonioglbaaGreatDoor.E
namespace Go.Proofs.YtojpkbonioglbaaGreatDoor.E
set_option maxRecDepth 100000
open Go.RowKit Go.Shelf
def x0 (n0 n1 n2 : Int) (c : CL) : EM := ⟨n0, n1, n2, c.p, c.m, [], []⟩
theorem readE_eq (s : Txt) : readE s = ⟨numV (wd (nx (ln s))), numV (wd (nx (nx (ln s)))), numV (wd (nx (nx (nx (ln s))))), (cpV (ln (lx s))).p, (cpV (ln (lx s))).m, (rcsV (lx (lx s))).1.map toRc, (L.undata (rcsV (lx (lx s))).2).1⟩ := rfl
end Go.Proofs.YtojpkbonioglbaaGreatDoor.E
