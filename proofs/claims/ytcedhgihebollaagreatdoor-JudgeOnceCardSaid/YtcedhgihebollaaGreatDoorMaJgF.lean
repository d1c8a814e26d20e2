/-
  JgCls · JgMay, in one text.
-/
import Derived.Test.YtcedhgihebollaaGreatDoorMaJgP
import Derived.BigQuiet
/-
  A status's box, the reports' box, what a reporter holds; regions that draw their order over the class of worlds in which nothing older has turned.
-/
namespace Go.Proofs.YtcedhgihebollaaGreatDoor.E.J
set_option maxRecDepth 100000
open Go.RowKit Go.Shelf
theorem jregion {P : Program} {id : Nat} {Q : Exit → Act → World → Prop} {a : Act} {w : World} {l : List Oper} (hm : P.follows .mixedOrders = true) (hB : Region.lexB .any l.toArray = true) {Y : Type} (F : Y → World) (y0 : Y) (hy : F y0 = w.drew)
    (h : wpQuiet P l.toArray (fun w' => ∃ y, w' = F y) (fun a' => ∀ w', (∃ y, w' = F y) → Q .normal a' w') l a) : (Code.region id l.toArray true).wp P Q a w :=
  wp_region_quiet (C := fun w' => ∃ y, w' = F y) hm hB ⟨y0, hy.symm⟩ (by simpa using h)
theorem jcls (w0 : World) : ∃ (Y : Type) (F : Y → World) (y0 : Y), F y0 = w0.drew ∧ (∀ y, Below w0.heap.size w0 (F y)) ∧ (∀ w', Below w0.heap.size w0 w' → ∃ y, w' = F y) :=
  ⟨{w' // Below w0.heap.size w0 w'}, Subtype.val, ⟨w0.drew, (Below.refl _ _).drew⟩, rfl, fun y => y.2, fun w' h => ⟨⟨w', h⟩, rfl⟩⟩
theorem jin_cls {Y : Type} {F : Y → World} {w0 : World} (h1 : ∀ y, Below w0.heap.size w0 (F y)) (h2 : ∀ w', Below w0.heap.size w0 w' → ∃ y, w' = F y) {f : FuncId} {args : Array Value} {v : Value} (H : ∀ w', Below w0.heap.size w0 w' → Calls Tryz.prog f args w' fun e w'' => e = .returned v ∧ Below w'.heap.size w' w'') (y : Y) :
    Calls Tryz.prog f args (F y) fun e w' => e = .returned v ∧ ∃ y, w' = F y :=
  (H (F y) (h1 y)).mono fun _ _ ⟨he, hb⟩ => ⟨he, h2 _ (below_next (h1 y) hb)⟩
theorem jis_load {P : Program} {ops : Array Oper} {rest : List Oper} {op : Oper} {a : Act} {w : World} {Q : Exit → Act → World → Prop} {ty : TypeId} {x : Operand} (_ : op.op = .load ty x) (h : wpList P ops Q (op :: rest) a w) : wpList P ops Q (op :: rest) a w := h
/-- A load of a block's cells, from o on; guarded too, where it is wanted. -/
theorem jload {P : Program} {ops : Array Oper} {rest : List Oper} {op : Oper} {a : Act} {w : World} {Q : Exit → Act → World → Prop} (hw : Region.wanted op (yielded ops a.tmps) = true) (ty : TypeId) (x : Operand) (ho : op.op = .load ty x) (b o : Nat) (t : TypeId) (cs vs : Array Value) (d : TypeDesc) (hx : a.eval x = .pointer (some ⟨b, o, none⟩)) (hb : w.heap[b]? = some (.cells cs t (0, 0)))
    (hu : P.underlying ty = some d) (hd : d.isRow = true) (hi : (P.info? ty).map (·.size) = some vs.size) (hc : ∀ j, j < vs.size → cs[o + j]? = vs[j]?)
    (h : wpList P ops Q rest (a.put op.dst (.agg vs)) w) : wpList P ops Q (op :: rest) a w := by
  refine wpList_step fun K hK => ?_
  rw [if_pos hw]
  refine wp_load_mid ty x ho b o hx vs.toList d (fun j v hv => ?_) hu hd (by simpa using hi) (hK _ _ (by simpa using h))
  rw [cellOf hb]
  rw [Array.getElem?_toList] at hv
  rw [hc j (Array.getElem?_eq_some_iff.1 hv).1]; exact hv
abbrev jnil : Value := .slice none 0 0
def TC (t : ST) : Array Value := #[.int .i64 t.pl, .string (mkS t.st), .int .i64 t.tr, .int .i64 t.ne, .int .i64 t.told]
abbrev stA (t : ST) : Value := .agg #[.int .i64 t.pl, .string (mkS t.st), .int .i64 t.tr, .int .i64 t.ne, .int .i64 t.told]
/-- Nothing turned but two blocks, and what is new. -/
structure F2 (b m : Nat) (w w' : World) : Prop where
  os : w'.os = w.os
  tape : w'.tape = w.tape
  output : w'.output = w.output
  size : w.heap.size ≤ w'.heap.size
  block : ∀ k, k < w.heap.size → k ≠ b → k ≠ m → w'.heap[k]? = w.heap[k]?
theorem F2.of {b m : Nat} {w w' : World} (h : Below w.heap.size w w') : F2 b m w w' := ⟨h.os, h.tape, h.output, h.size, fun k hk _ _ => h.block k hk⟩
theorem F2.refl (b m : Nat) (w : World) : F2 b m w w := F2.of (Below.refl _ _)
theorem F2.trans {b m : Nat} {w w' w2 : World} (h : F2 b m w w') (k : F2 b m w' w2) : F2 b m w w2 :=
  ⟨k.os.trans h.os, k.tape.trans h.tape, k.output.trans h.output, Nat.le_trans h.size k.size, fun i hi h1 h2 => (k.block i (Nat.lt_of_lt_of_le hi h.size) h1 h2).trans (h.block i hi h1 h2)⟩
theorem F2.set1 (b m : Nat) (w : World) (i : Nat) (v : Value) : F2 b m w (w.setCell ⟨b, i, none⟩ v) := ⟨rfl, rfl, rfl, by rw [World.size_setCell]; exact Nat.le_refl _, fun k _ h1 _ => Below.heap_setCell _ _ _ k (fun e => h1 e)⟩
theorem F2.set2 (b m : Nat) (w : World) (i : Nat) (v : Value) : F2 b m w (w.setCell ⟨m, i, none⟩ v) := ⟨rfl, rfl, rfl, by rw [World.size_setCell]; exact Nat.le_refl _, fun k _ _ h2 => Below.heap_setCell _ _ _ k (fun e => h2 e)⟩
theorem F2.below {b m B : Nat} {w w' : World} (h : F2 b m w w') (hB : B ≤ w.heap.size) (h1 : B ≤ b) (h2 : B ≤ m) : Below B w w' := ⟨h.os, h.tape, h.output, h.size, fun k hk => h.block k (by omega) (by omega) (by omega)⟩
theorem F2.at_ {b m g : Nat} {w w' : World} (h : F2 b m w w') {o : Obj} (hg : w.heap[g]? = some o) (h1 : g ≠ b) (h2 : g ≠ m) : w'.heap[g]? = some o := (h.block g (ltOf hg) h1 h2).trans hg
theorem blk_ne {w : World} {a b : Nat} {cs ds : Array Value} {t u : TypeId} (ha : w.heap[a]? = some (.cells cs t (0, 0))) (hb : w.heap[b]? = some (.cells ds u (0, 0))) (h : t ≠ u) : a ≠ b := fun e => by
  rw [e, hb] at ha
  injection ha with ha
  injection ha with _ ha
  exact h ha.symm
/-- A status and its reports, each in its box. -/
structure TB (W : World) (bt bm : Nat) (t : ST) (v : Value) (l : List Txt) (w : World) : Prop where
  t_ : w.heap[bt]? = some (.cells (TC t) 41 (0, 0))
  m_ : w.heap[bm]? = some (.cells #[v] 31 (0, 0))
  row : w.ownsRow W.heap.size 9 1 v l.length (strsV l)
  gt : W.heap.size ≤ bt
  gm : W.heap.size ≤ bm
  below : Below W.heap.size W w
section
variable {W w w' : World} {bt bm : Nat} {t t' : ST} {v v' : Value} {l l' : List Txt}
theorem TB.ne (h : TB W bt bm t v l w) : bt ≠ bm := blk_ne h.t_ h.m_ (by decide)
theorem TB.next (h : TB W bt bm t v l w) (hb : Below w.heap.size w w') : TB W bt bm t v l w' :=
  ⟨(hb.block _ (ltOf h.t_)).trans h.t_, (hb.block _ (ltOf h.m_)).trans h.m_, own_below h.row hb, h.gt, h.gm, below_next h.below hb⟩
theorem TB.set (h : TB W bt bm t v l w) (i : Nat) (u : Value) (e : (TC t).setIfInBounds i u = TC t') : TB W bt bm t' v l (w.setCell ⟨bt, i, none⟩ u) := by
  have f := F2.set1 bt bm w i u
  refine ⟨by have := setOf h.t_ i u; rwa [e] at this, (Below.heap_setCell _ _ _ bm (fun e => h.ne e.symm)).trans h.m_, own_of h.row fun k hk => Below.heap_setCell _ _ _ k (fun e => ?_), h.gt, h.gm, h.below.trans (f.below h.below.size h.gt h.gm)⟩
  have hn := own_not h.row h.t_ (by decide)
  exact hn (by rw [hk, show k = bt from e])
theorem TB.put (h : TB W bt bm t v l w) (g : w.grownBy w' v.ownBlock) (r : w'.ownsRow W.heap.size 9 1 v' l'.length (strsV l')) : TB W bt bm t v' l' (w'.setCell ⟨bm, 0, none⟩ v') := by
  have n1 := own_not h.row h.t_ (by decide)
  have n2 := own_not h.row h.m_ (by decide)
  have m' : w'.heap[bm]? = some (.cells #[v] 31 (0, 0)) := (g.block bm (ltOf h.m_) (fun e => n2 e.symm)).trans h.m_
  have t' : w'.heap[bt]? = some (.cells (TC t) 41 (0, 0)) := (g.block bt (ltOf h.t_) (fun e => n1 e.symm)).trans h.t_
  refine ⟨(Below.heap_setCell _ _ _ bt (fun e => h.ne e)).trans t', by have := setOf m' 0 v'; simpa using this, own_of r fun k hk => Below.heap_setCell _ _ _ k (fun e => ?_), h.gt, h.gm, ?_⟩
  · have hn := own_not r m' (by decide)
    exact hn (by rw [hk, show k = bm from e])
  · have hb : Below W.heap.size W w' := h.below.grown g h.below.size (fun k hk => (h.row.lt k hk).1)
    exact hb.trans ((F2.set2 bt bm w' 0 v').below hb.size h.gt h.gm)
end
/-- What a reporter holds. -/
structure RP (x : EM) (vr vl : Value) (no : Txt) (bt bm b1 b2 b3 b4 : Nat) (w : World) : Prop where
  m : w.heap[b1]? = some (.cells (EC x vr vl) 33 (0, 0))
  t : w.heap[b2]? = some (.cells #[.pointer (some ⟨bt, 0, none⟩)] 71 (0, 0))
  n : w.heap[b3]? = some (.cells #[.string (mkS no)] 9 (0, 0))
  l : w.heap[b4]? = some (.cells #[.pointer (some ⟨bm, 0, none⟩)] 72 (0, 0))
theorem RP.next {x : EM} {vr vl : Value} {no : Txt} {bt bm b1 b2 b3 b4 : Nat} {w w' : World} (h : RP x vr vl no bt bm b1 b2 b3 b4 w) (hb : Below w.heap.size w w') : RP x vr vl no bt bm b1 b2 b3 b4 w' :=
  ⟨(hb.block _ (ltOf h.m)).trans h.m, (hb.block _ (ltOf h.t)).trans h.t, (hb.block _ (ltOf h.n)).trans h.n, (hb.block _ (ltOf h.l)).trans h.l⟩
theorem RP.f2 {x : EM} {vr vl : Value} {no : Txt} {bt bm b1 b2 b3 b4 : Nat} {w w' : World} {csT csM : Array Value} (h : RP x vr vl no bt bm b1 b2 b3 b4 w) (hT : w.heap[bt]? = some (.cells csT 41 (0, 0))) (hM : w.heap[bm]? = some (.cells csM 31 (0, 0))) (f : F2 bt bm w w') : RP x vr vl no bt bm b1 b2 b3 b4 w' :=
  ⟨f.at_ h.m (blk_ne h.m hT (by decide)) (blk_ne h.m hM (by decide)), f.at_ h.t (blk_ne h.t hT (by decide)) (blk_ne h.t hM (by decide)), f.at_ h.n (blk_ne h.n hT (by decide)) (blk_ne h.n hM (by decide)), f.at_ h.l (blk_ne h.l hT (by decide)) (blk_ne h.l hM (by decide))⟩
theorem and_has : ∀ {n b : Int}, 0 ≤ n → n ≤ 7 → (b = 1 ∨ b = 2 ∨ b = 4) → (bits .and .i64 n b != 0) = hasB n b := by
  intro n b h0 h7 hb
  have hn : n = 0 ∨ n = 1 ∨ n = 2 ∨ n = 3 ∨ n = 4 ∨ n = 5 ∨ n = 6 ∨ n = 7 := by omega
  rcases hn with rfl | rfl | rfl | rfl | rfl | rfl | rfl | rfl <;> rcases hb with rfl | rfl | rfl <;> decide +kernel
theorem or_add : ∀ {n b : Int}, 0 ≤ n → n ≤ 7 → (b = 1 ∨ b = 2 ∨ b = 4) → hasB n b = false → bits .or .i64 n b = n + b := by
  intro n b h0 h7 hb
  have hn : n = 0 ∨ n = 1 ∨ n = 2 ∨ n = 3 ∨ n = 4 ∨ n = 5 ∨ n = 6 ∨ n = 7 := by omega
  rcases hn with rfl | rfl | rfl | rfl | rfl | rfl | rfl | rfl <;> rcases hb with rfl | rfl | rfl <;> decide +kernel
theorem kbits {k : KJ} (h : kindB4 k) : k.bit = 1 ∨ k.bit = 2 ∨ k.bit = 4 := by rcases h with rfl | rfl | rfl | rfl <;> simp [kD, kF, kS, kG]
end Go.Proofs.YtcedhgihebollaaGreatDoor.E.J
/-
  The walk of may.
-/
namespace Go.Proofs.YtcedhgihebollaaGreatDoor.E.J
set_option maxRecDepth 100000
open Go.RowKit Go.Shelf
/-- The boxes of a plan, a message, a status, one above the other. -/
structure XB (W : World) (p : PJ) (x : EM) (vr vl : Value) (t : ST) (w : World) : Prop where
  pb : w.heap[W.heap.size]? = some (.cells #[.int .i64 p.base, .int .i64 p.most, .int .i64 p.life, .int .i64 p.warn] 23 (0, 0))
  mb : w.heap[W.heap.size + 1]? = some (.cells (EC x vr vl) 33 (0, 0))
  tb : w.heap[W.heap.size + 1 + 1]? = some (.cells (TC t) 41 (0, 0))
  below : Below W.heap.size W w
theorem XB.new (w : World) (p : PJ) (x : EM) (vr vl : Value) (t : ST) : XB w p x vr vl t (((w.alloc (.cells #[.int .i64 p.base, .int .i64 p.most, .int .i64 p.life, .int .i64 p.warn] 23)).alloc (.cells (EC x vr vl) 33)).alloc (.cells (TC t) 41)) := by
  have h := PB.new w p x vr vl
  generalize hW : (w.alloc (.cells #[.int .i64 p.base, .int .i64 p.most, .int .i64 p.life, .int .i64 p.warn] 23)).alloc (.cells (EC x vr vl) 33) = w2 at h
  have hs : w2.heap.size = w.heap.size + 1 + 1 := by rw [← hW]; simp
  have b := below_box w2 (.cells (TC t) 41)
  refine ⟨(b.block _ (ltOf h.pb)).trans h.pb, (b.block _ (ltOf h.mb)).trans h.mb, ?_, below_next h.below b⟩
  rw [← hs]
  exact newOf w2 _
theorem XB.next {W w w' : World} {p : PJ} {x : EM} {vr vl : Value} {t : ST} (h : XB W p x vr vl t w) (hb : Below w.heap.size w w') : XB W p x vr vl t w' := ⟨(hb.block _ (ltOf h.pb)).trans h.pb, (hb.block _ (ltOf h.mb)).trans h.mb, (hb.block _ (ltOf h.tb)).trans h.tb, below_next h.below hb⟩
theorem may_1 {p : PJ} {x : EM} {t : ST} {now : Int} (h : okP p = false) : mayJ p x t now = 1 := by unfold mayJ; rw [h]; rfl
theorem may_2 {p : PJ} {x : EM} {t : ST} {now : Int} (h : okP p = true) (k : inI now 0 1099511627776 = false) : mayJ p x t now = 1 := by unfold mayJ; rw [h, k]; rfl
theorem may_3 {p : PJ} {x : EM} {t : ST} {now : Int} (h : okP p = true) (k : inI now 0 1099511627776 = true) (s : (t.st == [82]) = false) : mayJ p x t now = 9 := by unfold mayJ; rw [h, k, s]; rfl
theorem may_4 {p : PJ} {x : EM} {t : ST} {now : Int} (h : okP p = true) (k : inI now 0 1099511627776 = true) (s : (t.st == [82]) = true) (i : inI t.pl 0 ((x.rc.length : Int) - 1) = false) : mayJ p x t now = 9 := by unfold mayJ; rw [h, k, s, i]; rfl
theorem may_5 {p : PJ} {x : EM} {t : ST} {now : Int} (h : okP p = true) (k : inI now 0 1099511627776 = true) (s : (t.st == [82]) = true) (i : inI t.pl 0 ((x.rc.length : Int) - 1) = true) : mayJ p x t now = 0 := by unfold mayJ; rw [h, k, s, i]; rfl
set_option maxHeartbeats 16000000 in
theorem may_x1 (p : PJ) (x : EM) (vr vl : Value) (t : ST) (now : Int) (w : World) (hE : EAt w x vr vl) (hn : x.rc.length ≤ 1000000) (hp : okP p = false) : Calls Tryz.prog 24 #[.agg #[.int .i64 p.base, .int .i64 p.most, .int .i64 p.life, .int .i64 p.warn], .agg #[.int .i64 x.id, .int .i64 x.at_, .int .i64 x.rel, .string (mkS x.fr.1), .string (mkS x.fr.2), .bool x.m.hs, .bool x.m.hf, .bool x.m.hu, .bool x.m.hb, .bool x.m.hp, .int .i64 x.m.sz, .int .i64 x.m.fo, .int .i64 x.m.un, .int .i64 x.m.by_, .int .i64 x.m.pr, .string (mkS x.m.body), .string (mkS x.m.ret), .string (mkS x.m.env), .string (mkS x.m.mode), vr, vl], .agg #[.int .i64 t.pl, .string (mkS t.st), .int .i64 t.tr, .int .i64 t.ne, .int .i64 t.told], .int .i64 now] w fun e w' => e = .returned (.int .i64 (mayJ p x t now)) ∧ Below w.heap.size w w' := by
  rw [may_1 hp]
  have HB := Lib.hid (XB.new w p x vr vl t)
  have HRG := Lib.hid (fun w => jright_x p w)
  have HW1 := Lib.hid (fun w => jwithin_x now 0 1099511627776 w)
  have HW2 := Lib.hid (fun w => jwithin_x t.pl 0 ((x.rc.length : Int) - 1) w)
  have e1 : ((mkS t.st).toList == [82]) = (t.st == [82]) := by rw [mkS_toList]
  obtain ⟨ra, rcap, rfl, _, _, _⟩ := hE.rc
  have q1 : IntKind.i64.wrap ((x.rc.length : Int) - 1) = (x.rc.length : Int) - 1 := IntWalk.i64_in _ (by omega)
  clear hE hn
  go_enter Tryz.func24, Tryz.ntmps24
  go_wp2_with (first | ((with_reducible refine jis_load (ty := 23) (x := .tmp 4) rfl ?_); refine jload ?_ 23 (.tmp 4) rfl (w.heap.size) 0 23 #[.int .i64 p.base, .int .i64 p.most, .int .i64 p.life, .int .i64 p.warn] #[.int .i64 p.base, .int .i64 p.most, .int .i64 p.life, .int .i64 p.warn] _ rfl HB.out.pb Tryz.underlying23 rfl jsize_plan (fun j _ => by rw [Nat.zero_add]) ?_; (focus (first | rfl | (go_simp; done)))))
  refine (HRG.out _).mono ?_
  rintro e w1 ⟨rfl, hb⟩
  have HB1 := Lib.hid (HB.out.next hb)
  clear hb HB
  rw [hp]
  simp only [Bool.false_eq_true, if_false]
  go_wp2_with fail
  go_ret
  exact ⟨rfl, HB1.out.below⟩
set_option maxHeartbeats 16000000 in
theorem may_x2 (p : PJ) (x : EM) (vr vl : Value) (t : ST) (now : Int) (w : World) (hE : EAt w x vr vl) (hn : x.rc.length ≤ 1000000) (hp : okP p = true) (hk : inI now 0 1099511627776 = false) : Calls Tryz.prog 24 #[.agg #[.int .i64 p.base, .int .i64 p.most, .int .i64 p.life, .int .i64 p.warn], .agg #[.int .i64 x.id, .int .i64 x.at_, .int .i64 x.rel, .string (mkS x.fr.1), .string (mkS x.fr.2), .bool x.m.hs, .bool x.m.hf, .bool x.m.hu, .bool x.m.hb, .bool x.m.hp, .int .i64 x.m.sz, .int .i64 x.m.fo, .int .i64 x.m.un, .int .i64 x.m.by_, .int .i64 x.m.pr, .string (mkS x.m.body), .string (mkS x.m.ret), .string (mkS x.m.env), .string (mkS x.m.mode), vr, vl], .agg #[.int .i64 t.pl, .string (mkS t.st), .int .i64 t.tr, .int .i64 t.ne, .int .i64 t.told], .int .i64 now] w fun e w' => e = .returned (.int .i64 (mayJ p x t now)) ∧ Below w.heap.size w w' := by
  rw [may_2 hp hk]
  have HB := Lib.hid (XB.new w p x vr vl t)
  have HRG := Lib.hid (fun w => jright_x p w)
  have HW1 := Lib.hid (fun w => jwithin_x now 0 1099511627776 w)
  have HW2 := Lib.hid (fun w => jwithin_x t.pl 0 ((x.rc.length : Int) - 1) w)
  have e1 : ((mkS t.st).toList == [82]) = (t.st == [82]) := by rw [mkS_toList]
  obtain ⟨ra, rcap, rfl, _, _, _⟩ := hE.rc
  have q1 : IntKind.i64.wrap ((x.rc.length : Int) - 1) = (x.rc.length : Int) - 1 := IntWalk.i64_in _ (by omega)
  clear hE hn
  go_enter Tryz.func24, Tryz.ntmps24
  go_wp2_with (first | ((with_reducible refine jis_load (ty := 23) (x := .tmp 4) rfl ?_); refine jload ?_ 23 (.tmp 4) rfl (w.heap.size) 0 23 #[.int .i64 p.base, .int .i64 p.most, .int .i64 p.life, .int .i64 p.warn] #[.int .i64 p.base, .int .i64 p.most, .int .i64 p.life, .int .i64 p.warn] _ rfl HB.out.pb Tryz.underlying23 rfl jsize_plan (fun j _ => by rw [Nat.zero_add]) ?_; (focus (first | rfl | (go_simp; done)))))
  refine (HRG.out _).mono ?_
  rintro e w1 ⟨rfl, hb⟩
  have HB1 := Lib.hid (HB.out.next hb)
  clear hb HB
  rw [hp]
  simp only [if_true]
  go_wp2_with fail
  refine (HW1.out _).mono ?_
  rintro e w1' ⟨rfl, rfl⟩
  rw [hk]
  have c1 : w1.cell? ⟨w.heap.size + 1 + 1, 1, none⟩ = some (.string (mkS t.st)) := cellOf HB1.out.tb 1
  have c0 : w1.cell? ⟨w.heap.size + 1 + 1, 0, none⟩ = some (.int .i64 t.pl) := cellOf HB1.out.tb 0
  have c5 : w1.cell? ⟨w.heap.size + 1, 19, none⟩ = some (.slice ra x.rc.length rcap) := cellOf HB1.out.mb 19
  go_wp2_with fail
  go_ret
  exact ⟨rfl, HB1.out.below⟩
set_option maxHeartbeats 16000000 in
theorem may_x3 (p : PJ) (x : EM) (vr vl : Value) (t : ST) (now : Int) (w : World) (hE : EAt w x vr vl) (hn : x.rc.length ≤ 1000000) (hp : okP p = true) (hk : inI now 0 1099511627776 = true) (hs : (t.st == [82]) = false) : Calls Tryz.prog 24 #[.agg #[.int .i64 p.base, .int .i64 p.most, .int .i64 p.life, .int .i64 p.warn], .agg #[.int .i64 x.id, .int .i64 x.at_, .int .i64 x.rel, .string (mkS x.fr.1), .string (mkS x.fr.2), .bool x.m.hs, .bool x.m.hf, .bool x.m.hu, .bool x.m.hb, .bool x.m.hp, .int .i64 x.m.sz, .int .i64 x.m.fo, .int .i64 x.m.un, .int .i64 x.m.by_, .int .i64 x.m.pr, .string (mkS x.m.body), .string (mkS x.m.ret), .string (mkS x.m.env), .string (mkS x.m.mode), vr, vl], .agg #[.int .i64 t.pl, .string (mkS t.st), .int .i64 t.tr, .int .i64 t.ne, .int .i64 t.told], .int .i64 now] w fun e w' => e = .returned (.int .i64 (mayJ p x t now)) ∧ Below w.heap.size w w' := by
  rw [may_3 hp hk hs]
  have HB := Lib.hid (XB.new w p x vr vl t)
  have HRG := Lib.hid (fun w => jright_x p w)
  have HW1 := Lib.hid (fun w => jwithin_x now 0 1099511627776 w)
  have HW2 := Lib.hid (fun w => jwithin_x t.pl 0 ((x.rc.length : Int) - 1) w)
  have e1 : ((mkS t.st).toList == [82]) = (t.st == [82]) := by rw [mkS_toList]
  obtain ⟨ra, rcap, rfl, _, _, _⟩ := hE.rc
  have q1 : IntKind.i64.wrap ((x.rc.length : Int) - 1) = (x.rc.length : Int) - 1 := IntWalk.i64_in _ (by omega)
  clear hE hn
  rw [hs] at e1
  go_enter Tryz.func24, Tryz.ntmps24
  go_wp2_with (first | ((with_reducible refine jis_load (ty := 23) (x := .tmp 4) rfl ?_); refine jload ?_ 23 (.tmp 4) rfl (w.heap.size) 0 23 #[.int .i64 p.base, .int .i64 p.most, .int .i64 p.life, .int .i64 p.warn] #[.int .i64 p.base, .int .i64 p.most, .int .i64 p.life, .int .i64 p.warn] _ rfl HB.out.pb Tryz.underlying23 rfl jsize_plan (fun j _ => by rw [Nat.zero_add]) ?_; (focus (first | rfl | (go_simp; done)))))
  refine (HRG.out _).mono ?_
  rintro e w1 ⟨rfl, hb⟩
  have HB1 := Lib.hid (HB.out.next hb)
  clear hb HB
  rw [hp]
  simp only [if_true]
  go_wp2_with fail
  refine (HW1.out _).mono ?_
  rintro e w1' ⟨rfl, rfl⟩
  rw [hk]
  have c1 : w1.cell? ⟨w.heap.size + 1 + 1, 1, none⟩ = some (.string (mkS t.st)) := cellOf HB1.out.tb 1
  have c0 : w1.cell? ⟨w.heap.size + 1 + 1, 0, none⟩ = some (.int .i64 t.pl) := cellOf HB1.out.tb 0
  have c5 : w1.cell? ⟨w.heap.size + 1, 19, none⟩ = some (.slice ra x.rc.length rcap) := cellOf HB1.out.mb 19
  go_wp2_with fail
  go_ret
  exact ⟨rfl, HB1.out.below⟩
set_option maxHeartbeats 16000000 in
theorem may_x4 (p : PJ) (x : EM) (vr vl : Value) (t : ST) (now : Int) (w : World) (hE : EAt w x vr vl) (hn : x.rc.length ≤ 1000000) (hp : okP p = true) (hk : inI now 0 1099511627776 = true) (hs : (t.st == [82]) = true) (hi : inI t.pl 0 ((x.rc.length : Int) - 1) = false) : Calls Tryz.prog 24 #[.agg #[.int .i64 p.base, .int .i64 p.most, .int .i64 p.life, .int .i64 p.warn], .agg #[.int .i64 x.id, .int .i64 x.at_, .int .i64 x.rel, .string (mkS x.fr.1), .string (mkS x.fr.2), .bool x.m.hs, .bool x.m.hf, .bool x.m.hu, .bool x.m.hb, .bool x.m.hp, .int .i64 x.m.sz, .int .i64 x.m.fo, .int .i64 x.m.un, .int .i64 x.m.by_, .int .i64 x.m.pr, .string (mkS x.m.body), .string (mkS x.m.ret), .string (mkS x.m.env), .string (mkS x.m.mode), vr, vl], .agg #[.int .i64 t.pl, .string (mkS t.st), .int .i64 t.tr, .int .i64 t.ne, .int .i64 t.told], .int .i64 now] w fun e w' => e = .returned (.int .i64 (mayJ p x t now)) ∧ Below w.heap.size w w' := by
  rw [may_4 hp hk hs hi]
  have HB := Lib.hid (XB.new w p x vr vl t)
  have HRG := Lib.hid (fun w => jright_x p w)
  have HW1 := Lib.hid (fun w => jwithin_x now 0 1099511627776 w)
  have HW2 := Lib.hid (fun w => jwithin_x t.pl 0 ((x.rc.length : Int) - 1) w)
  have e1 : ((mkS t.st).toList == [82]) = (t.st == [82]) := by rw [mkS_toList]
  obtain ⟨ra, rcap, rfl, _, _, _⟩ := hE.rc
  have q1 : IntKind.i64.wrap ((x.rc.length : Int) - 1) = (x.rc.length : Int) - 1 := IntWalk.i64_in _ (by omega)
  clear hE hn
  rw [hs] at e1
  go_enter Tryz.func24, Tryz.ntmps24
  go_wp2_with (first | ((with_reducible refine jis_load (ty := 23) (x := .tmp 4) rfl ?_); refine jload ?_ 23 (.tmp 4) rfl (w.heap.size) 0 23 #[.int .i64 p.base, .int .i64 p.most, .int .i64 p.life, .int .i64 p.warn] #[.int .i64 p.base, .int .i64 p.most, .int .i64 p.life, .int .i64 p.warn] _ rfl HB.out.pb Tryz.underlying23 rfl jsize_plan (fun j _ => by rw [Nat.zero_add]) ?_; (focus (first | rfl | (go_simp; done)))))
  refine (HRG.out _).mono ?_
  rintro e w1 ⟨rfl, hb⟩
  have HB1 := Lib.hid (HB.out.next hb)
  clear hb HB
  rw [hp]
  simp only [if_true]
  go_wp2_with fail
  refine (HW1.out _).mono ?_
  rintro e w1' ⟨rfl, rfl⟩
  rw [hk]
  have c1 : w1.cell? ⟨w.heap.size + 1 + 1, 1, none⟩ = some (.string (mkS t.st)) := cellOf HB1.out.tb 1
  have c0 : w1.cell? ⟨w.heap.size + 1 + 1, 0, none⟩ = some (.int .i64 t.pl) := cellOf HB1.out.tb 0
  have c5 : w1.cell? ⟨w.heap.size + 1, 19, none⟩ = some (.slice ra x.rc.length rcap) := cellOf HB1.out.mb 19
  go_wp2_with fail
  refine (HW2.out _).mono ?_
  rintro e w1'' ⟨rfl, rfl⟩
  rw [hi]
  go_wp2_with fail
  go_ret
  exact ⟨rfl, HB1.out.below⟩
set_option maxHeartbeats 16000000 in
theorem may_x5 (p : PJ) (x : EM) (vr vl : Value) (t : ST) (now : Int) (w : World) (hE : EAt w x vr vl) (hn : x.rc.length ≤ 1000000) (hp : okP p = true) (hk : inI now 0 1099511627776 = true) (hs : (t.st == [82]) = true) (hi : inI t.pl 0 ((x.rc.length : Int) - 1) = true) : Calls Tryz.prog 24 #[.agg #[.int .i64 p.base, .int .i64 p.most, .int .i64 p.life, .int .i64 p.warn], .agg #[.int .i64 x.id, .int .i64 x.at_, .int .i64 x.rel, .string (mkS x.fr.1), .string (mkS x.fr.2), .bool x.m.hs, .bool x.m.hf, .bool x.m.hu, .bool x.m.hb, .bool x.m.hp, .int .i64 x.m.sz, .int .i64 x.m.fo, .int .i64 x.m.un, .int .i64 x.m.by_, .int .i64 x.m.pr, .string (mkS x.m.body), .string (mkS x.m.ret), .string (mkS x.m.env), .string (mkS x.m.mode), vr, vl], .agg #[.int .i64 t.pl, .string (mkS t.st), .int .i64 t.tr, .int .i64 t.ne, .int .i64 t.told], .int .i64 now] w fun e w' => e = .returned (.int .i64 (mayJ p x t now)) ∧ Below w.heap.size w w' := by
  rw [may_5 hp hk hs hi]
  have HB := Lib.hid (XB.new w p x vr vl t)
  have HRG := Lib.hid (fun w => jright_x p w)
  have HW1 := Lib.hid (fun w => jwithin_x now 0 1099511627776 w)
  have HW2 := Lib.hid (fun w => jwithin_x t.pl 0 ((x.rc.length : Int) - 1) w)
  have e1 : ((mkS t.st).toList == [82]) = (t.st == [82]) := by rw [mkS_toList]
  obtain ⟨ra, rcap, rfl, _, _, _⟩ := hE.rc
  have q1 : IntKind.i64.wrap ((x.rc.length : Int) - 1) = (x.rc.length : Int) - 1 := IntWalk.i64_in _ (by omega)
  clear hE hn
  rw [hs] at e1
  go_enter Tryz.func24, Tryz.ntmps24
  go_wp2_with (first | ((with_reducible refine jis_load (ty := 23) (x := .tmp 4) rfl ?_); refine jload ?_ 23 (.tmp 4) rfl (w.heap.size) 0 23 #[.int .i64 p.base, .int .i64 p.most, .int .i64 p.life, .int .i64 p.warn] #[.int .i64 p.base, .int .i64 p.most, .int .i64 p.life, .int .i64 p.warn] _ rfl HB.out.pb Tryz.underlying23 rfl jsize_plan (fun j _ => by rw [Nat.zero_add]) ?_; (focus (first | rfl | (go_simp; done)))))
  refine (HRG.out _).mono ?_
  rintro e w1 ⟨rfl, hb⟩
  have HB1 := Lib.hid (HB.out.next hb)
  clear hb HB
  rw [hp]
  simp only [if_true]
  go_wp2_with fail
  refine (HW1.out _).mono ?_
  rintro e w1' ⟨rfl, rfl⟩
  rw [hk]
  have c1 : w1.cell? ⟨w.heap.size + 1 + 1, 1, none⟩ = some (.string (mkS t.st)) := cellOf HB1.out.tb 1
  have c0 : w1.cell? ⟨w.heap.size + 1 + 1, 0, none⟩ = some (.int .i64 t.pl) := cellOf HB1.out.tb 0
  have c5 : w1.cell? ⟨w.heap.size + 1, 19, none⟩ = some (.slice ra x.rc.length rcap) := cellOf HB1.out.mb 19
  go_wp2_with fail
  refine (HW2.out _).mono ?_
  rintro e w1'' ⟨rfl, rfl⟩
  rw [hi]
  go_wp2_with fail
  go_ret
  exact ⟨rfl, HB1.out.below⟩
set_option maxHeartbeats 4000000 in
theorem may_x (p : PJ) (x : EM) (vr vl : Value) (t : ST) (now : Int) (w : World) (hE : EAt w x vr vl) (hn : x.rc.length ≤ 1000000) : Calls Tryz.prog 24 #[.agg #[.int .i64 p.base, .int .i64 p.most, .int .i64 p.life, .int .i64 p.warn], .agg #[.int .i64 x.id, .int .i64 x.at_, .int .i64 x.rel, .string (mkS x.fr.1), .string (mkS x.fr.2), .bool x.m.hs, .bool x.m.hf, .bool x.m.hu, .bool x.m.hb, .bool x.m.hp, .int .i64 x.m.sz, .int .i64 x.m.fo, .int .i64 x.m.un, .int .i64 x.m.by_, .int .i64 x.m.pr, .string (mkS x.m.body), .string (mkS x.m.ret), .string (mkS x.m.env), .string (mkS x.m.mode), vr, vl], .agg #[.int .i64 t.pl, .string (mkS t.st), .int .i64 t.tr, .int .i64 t.ne, .int .i64 t.told], .int .i64 now] w fun e w' => e = .returned (.int .i64 (mayJ p x t now)) ∧ Below w.heap.size w w' := by
  cases hp : okP p with
  | false => exact may_x1 p x vr vl t now w hE hn hp
  | true =>
    cases hk : inI now 0 1099511627776 with
    | false => exact may_x2 p x vr vl t now w hE hn hp hk
    | true =>
      cases hs : t.st == [82] with
      | false => exact may_x3 p x vr vl t now w hE hn hp hk hs
      | true =>
        cases hi : inI t.pl 0 ((x.rc.length : Int) - 1) with
        | false => exact may_x4 p x vr vl t now w hE hn hp hk hs hi
        | true => exact may_x5 p x vr vl t now w hE hn hp hk hs hi
theorem may_ok {p : PJ} {x : EM} {t : ST} {now : Int} (h : mayJ p x t now = 0) : okP p = true ∧ (0 ≤ now ∧ now ≤ 1099511627776) ∧ t.st = [82] ∧ 0 ≤ t.pl ∧ t.pl < x.rc.length := by
  unfold mayJ at h
  split at h
  · cases h
  · rename_i h1
    split at h
    · cases h
    · rename_i h2
      simp only [Bool.not_eq_false, Bool.and_eq_true, inI_iff, beq_iff_eq] at h1 h2
      exact ⟨h1.1, h1.2, h2.1, h2.2.1, by omega⟩
end Go.Proofs.YtcedhgihebollaaGreatDoor.E.J
