/-
  The walk of awake.
-/
import Derived.Test.YtcedhgihebollaaGreatDoorJgTry
import Derived.Test.YtcedhgihebollaaGreatDoorMaJgE
import Derived.Deep.Cut
namespace Go.Proofs.YtcedhgihebollaaGreatDoor.E.J
set_option maxRecDepth 100000
open Go.RowKit Go.Shelf
theorem jis_store {P : Program} {ops : Array Oper} {rest : List Oper} {op : Oper} {a : Act} {w : World} {Q : Exit → Act → World → Prop} {ty : TypeId} {x y : Operand} (_ : op.op = .store ty x y) (h : wpList P ops Q (op :: rest) a w) : wpList P ops Q (op :: rest) a w := h
theorem jstep_store {op : Oper} {a : Act} {w : World} {ops : Array Oper} {K : Act → World → Prop} {Q : Exit → Act → World → Prop} {E : Prop} (hgd : op.guard = none) (ty : TypeId) (x y : Operand) (ho : op.op = .store ty x y) (b : Nat) (t : TypeId) (cs vs : Array Value) (hx : a.eval x = .pointer (some ⟨b, 0, none⟩)) (hy : a.eval y = .agg vs)
    (hb : w.heap[b]? = some (.cells cs t (0, 0))) (hi : (Tryz.prog.info? ty).map (·.size) = some vs.size) (h1 : vs.all (·.oneCell') = true) (hs : vs.size = cs.size)
    (h : ∀ w', w'.heap[b]? = some (.cells vs t (0, 0)) → Apart b w.heap.size w w' → K (a.put op.dst undef) w') : if Region.wanted op (yielded ops a.tmps) = true then Oper.wp Tryz.prog op a w K Q else E := by
  have hw : Region.wanted op (yielded ops a.tmps) = true := by simp [Region.wanted, hgd]
  rw [if_pos hw]
  refine wp_store_mid ty x y ho b 0 vs hx hy (fun j hj => ⟨?_, freeOf hb _⟩) hi h1 ?_
  · rw [cellOf hb, Array.getElem?_eq_getElem (by omega)]; rfl
  · obtain ⟨c2, k1, k2, k3, k4, k5⟩ := setCells_block b t vs.toList 0 cs w hb (by simp; omega)
    refine h _ ?_ (setCells_apart b vs.toList 0 w)
    rw [k1]
    have : c2 = vs := by
      apply Array.toList_inj.1
      apply List.ext_getElem?
      intro i
      by_cases hi2 : i < vs.size
      · have := k4 i (by rw [Array.length_toList]; omega)
        rw [Nat.zero_add] at this
        rw [Array.getElem?_toList, this]
      · have := k5 i (by rw [Array.length_toList]; omega)
        rw [Array.getElem?_toList, this, Array.getElem?_toList, Array.getElem?_eq_none (by omega), Array.getElem?_eq_none (by omega)]
    rw [this]
def pU : PJ := ⟨10, 60, 500, 100⟩
def pZ : PJ := ⟨0, 0, 0, 0⟩
def xA : EM := ⟨1, 100, 100, ([97], [98]), { zeroM with hb := true, by_ := 50, mode := [82] }, [⟨([99], [100]), zeroR⟩], []⟩
def tA : ST := ⟨0, [82], 0, 100, 0⟩
def tB : ST := ⟨0, [82], 1, 120, 0⟩
def tC : ST := ⟨0, [70], 1, 120, 2⟩
def tD : ST := ⟨0, [68], 1, 100, 0⟩
theorem new2 (w : World) (a b : Obj) : ((w.alloc a).alloc b).heap[w.heap.size + 1]? = some b := by
  have h := newOf (w.alloc a) b
  rwa [show (w.alloc a).heap.size = w.heap.size + 1 by simp] at h
theorem jone_EC (x : EM) (a b : Option Addr) (m n c d : Nat) : (EC x (.slice a m c) (.slice b n d)).all (·.oneCell') = true := by kernel_rfl
theorem jl_st {w : World} {z : Nat} {t : ST} (h : w.heap[z]? = some (.cells (TC t) 41 (0, 0))) : (loadVar 41 ⟨z, 0, none⟩).run Tryz.prog w = .ok (.agg (TC t)) w :=
  loadVar_blk (P := Tryz.prog) (ty := 41) (o := 0) (vs := TC t) h Tryz.underlying41 rfl jsize_st (fun j _ => by rw [Nat.zero_add])
/-- awake's message, its statuses, what was reported. -/
structure AW (W : World) (gm gr : Nat) (B : List (Nat × ST)) (Q : List (Value × List Txt)) (w : World) : Prop where
  m : w.heap[gm]? = some (.cells (EC xA (.slice (some ⟨gr, 0, none⟩) 1 1) jnil) 33 (0, 0))
  r : w.heap[gr]? = some (.cells #[.string { data := #[99] }, .string { data := #[100] }, .string { data := #[] }, .string { data := #[] }, .string { data := #[] }] 50 (0, 0))
  b : ∀ p ∈ B, w.heap[p.1]? = some (.cells (TC p.2) 41 (0, 0))
  q : ∀ p ∈ Q, w.ownsRow 0 9 1 p.1 p.2.length (strsV p.2)
  below : Below W.heap.size W w
section
variable {W w w' : World} {gm gr : Nat} {B : List (Nat × ST)} {Q : List (Value × List Txt)}
theorem AW.next (h : AW W gm gr B Q w) (hb : Below w.heap.size w w') : AW W gm gr B Q w' := ⟨(hb.block _ (ltOf h.m)).trans h.m, (hb.block _ (ltOf h.r)).trans h.r, fun p hp => (hb.block _ (ltOf (h.b p hp))).trans (h.b p hp), fun p hp => own_below (h.q p hp) hb, below_next h.below hb⟩
theorem AW.at_ (h : AW W gm gr B Q w) : EAt w xA (.slice (some ⟨gr, 0, none⟩) 1 1) jnil := ⟨⟨some ⟨gr, 0, none⟩, 1, rfl, Nat.le_refl _, fun e => (by cases e), fun i c hi => by
  match i with
  | 0 =>
    have hc : c = ⟨([99], [100]), zeroR⟩ := by simpa [xA] using hi.symm
    subst hc
    exact ⟨_, rfl, ltOf h.r, ⟨ltOf h.r, cellOf h.r 0, cellOf h.r 1, cellOf h.r 2, cellOf h.r 3, cellOf h.r 4⟩⟩
  | i + 1 => simp [xA] at hi⟩, txts_nil _⟩
theorem AW.addB (h : AW W gm gr B Q w) {g : Nat} {t : ST} (hg : w.heap[g]? = some (.cells (TC t) 41 (0, 0))) : AW W gm gr ((g, t) :: B) Q w := ⟨h.m, h.r, fun p hp => by
  rcases List.mem_cons.1 hp with rfl | hp
  · exact hg
  · exact h.b p hp, h.q, h.below⟩
theorem AW.addQ (h : AW W gm gr B Q w) {B0 : Nat} {v : Value} {l : List Txt} (hg : w.ownsRow B0 9 1 v l.length (strsV l)) : AW W gm gr B ((v, l) :: Q) w := ⟨h.m, h.r, h.b, fun p hp => by
  rcases List.mem_cons.1 hp with rfl | hp
  · exact own_mono hg (Nat.zero_le _)
  · exact h.q p hp, h.below⟩
theorem AW.apart (h : AW W gm gr B Q w) {g : Nat} {cs : Array Value} (hg : w.heap[g]? = some (.cells cs 41 (0, 0))) (hB : ∀ p ∈ B, p.1 ≠ g) (hW : W.heap.size ≤ g) (hA : Apart g w.heap.size w w') : AW W gm gr B Q w' :=
  ⟨(hA.block _ (ltOf h.m) (blk_ne h.m hg (by decide))).trans h.m, (hA.block _ (ltOf h.r) (blk_ne h.r hg (by decide))).trans h.r, fun p hp => (hA.block _ (ltOf (h.b p hp)) (hB p hp)).trans (h.b p hp), fun p hp => own_of (h.q p hp) fun k hk => hA.block k ((h.q p hp).lt k hk).2 (fun e => own_not (h.q p hp) hg (by decide) (by rw [hk, e])), h.below.trans (hA.below h.below.size hW)⟩
end
theorem bdA : BdJ xA := ⟨by decide, fun _ => by decide⟩
theorem uC (w : World) : Calls Tryz.prog 19 #[] w fun e w' => e = .returned (plA pU) ∧ Below w.heap.size w w' := by
  have HB := Lib.hid (below_box w (.cells #[.int .i64 10, .int .i64 60, .int .i64 500, .int .i64 100] 23))
  go_enter Tryz.func19, Tryz.ntmps19
  go_wp2_with fail
  refine bodyPost_ret (v := .agg #[.int .i64 10, .int .i64 60, .int .i64 500, .int .i64 100]) (results_cell_row rfl _ _ w.heap.size 23 #[.int .i64 10, .int .i64 60, .int .i64 500, .int .i64 100] (0, 0) _ rfl (newOf w _) Tryz.underlying23 rfl jsize_plan) rfl ⟨rfl, HB.out⟩
theorem txt1 (w : World) (t : Txt) : TxtsAt (w.alloc (.cells #[.string (mkS t)] 9)) (.slice (some ⟨w.heap.size, 0, none⟩) 1 1) [t] :=
  ⟨some ⟨w.heap.size, 0, none⟩, 1, rfl, Nat.le_refl _, fun e => (by cases e), fun i c hi => by
    match i with
    | 0 =>
      have hc : c = t := by simpa using hi.symm
      subst hc
      exact ⟨_, rfl, by simp, cellOf (newOf w (.cells #[.string (mkS c)] 9)) 0⟩
    | i + 1 => simp at hi⟩
theorem dlA (w : World) (gr : Nat) : Calls Tryz.prog 17 #[.agg (EC xA (.slice (some ⟨gr, 0, none⟩) 1 1) jnil)] w fun e w' => e = .returned (.tuple #[.int .i64 150, .bool true]) ∧ Below w.heap.size w w' := deadline_x xA (.slice (some ⟨gr, 0, none⟩) 1 1) jnil w bdA
theorem exA (w : World) (gr : Nat) : Calls Tryz.prog 14 #[plA pU, .agg (EC xA (.slice (some ⟨gr, 0, none⟩) 1 1) jnil)] w fun e w' => e = .returned (.int .i64 600) ∧ Below w.heap.size w w' := expires_x pU xA (.slice (some ⟨gr, 0, none⟩) 1 1) jnil w (by decide) bdA
theorem alA (w : World) (gr : Nat) : Calls Tryz.prog 16 #[plA pU, .agg (EC xA (.slice (some ⟨gr, 0, none⟩) 1 1) jnil), .agg (TC tB)] w fun e w' => e = .returned (.int .i64 120) ∧ Below w.heap.size w w' := by
  have k := alarm_x pU xA (.slice (some ⟨gr, 0, none⟩) 1 1) jnil tB w (by decide) bdA (by decide) (by decide)
  rwa [show alarmJ pU xA tB = 120 by decide] at k
theorem waA (w : World) : Calls Tryz.prog 18 #[plA pU, .int .i64 4] w fun e w' => e = .returned (.int .i64 60) ∧ Below w.heap.size w w' := by
  have k := jwait_x pU 4 w (by decide) (by decide) (by decide)
  rwa [show waitJ pU 4 = 60 by decide] at k
theorem riA (w : World) : Calls Tryz.prog 9 #[plA pU] w fun e w' => e = .returned (.int .i64 0) ∧ Below w.heap.size w w' := by
  have k := jright_x pU w
  rwa [show (if okP pU then (0 : Int) else 1) = 0 by decide] at k
theorem eqB (w : World) : (Op.equalIn 10000 41 (.agg #[.int .i64 0, .string { data := #[82] }, .int .i64 1, .int .i64 120, .int .i64 0]) (.agg #[.int .i64 0, .string { data := #[82] }, .int .i64 1, .int .i64 120, .int .i64 0])).run Tryz.prog w = .ok true w := (eqSt tB tB w).trans (by rw [eqST_iff.2 rfl])
section
variable {W w : World} {gm gr : Nat} {B : List (Nat × ST)} {Q : List (Value × List Txt)}
theorem tryA (h : AW W gm gr B Q w) (t : ST) (now o : Int) (T : ST) (l : List Txt) (code : Int) (e1 : tryT pU xA t now o = T) (e2 : tryL pU xA t now o = l) (e3 : tryE pU xA t now o = code) (h0 : 0 ≤ t.told ∧ t.told ≤ 7 ∧ 0 ≤ t.tr) :
    Calls Tryz.prog 11 #[plA pU, .agg (EC xA (.slice (some ⟨gr, 0, none⟩) 1 1) jnil), .agg (TC t), .int .i64 now, .int .i64 o] w fun e w2 => ∃ v, e = .returned (.tuple #[.agg (TC T), v, .int .i64 code]) ∧ Hid (AW W gm gr B ((v, l) :: Q) w2 ∧ Below w.heap.size w w2) := by
  have k := try_x pU xA (.slice (some ⟨gr, 0, none⟩) 1 1) jnil t now o w h.at_ (by decide) bdA h0.1 h0.2.1 h0.2.2
  rw [e1, e2, e3] at k
  refine Calls.mono k ?_
  rintro e w2 ⟨v, g1, g2, g3⟩
  exact ⟨v, g1, Lib.hid ⟨(h.next g3).addQ g2, g3⟩⟩
theorem timeA (h : AW W gm gr B Q w) (p : PJ) (t : ST) (now : Int) (T : ST) (l : List Txt) (code : Int) (e1 : timeT p xA t now = T) (e2 : timeL p xA t now = l) (e3 : mayJ p xA t now = code) (h0 : 0 ≤ t.told ∧ t.told ≤ 7) :
    Calls Tryz.prog 12 #[plA p, .agg (EC xA (.slice (some ⟨gr, 0, none⟩) 1 1) jnil), .agg (TC t), .int .i64 now] w fun e w2 => ∃ v, e = .returned (.tuple #[.agg (TC T), v, .int .i64 code]) ∧ Hid (AW W gm gr B ((v, l) :: Q) w2 ∧ Below w.heap.size w w2) := by
  have k := time_x p xA (.slice (some ⟨gr, 0, none⟩) 1 1) jnil t now w h.at_ (by decide) bdA h0.1 h0.2
  rw [e1, e2, e3] at k
  refine Calls.mono k ?_
  rintro e w2 ⟨v, g1, g2, g3⟩
  exact ⟨v, g1, Lib.hid ⟨(h.next g3).addQ g2, g3⟩⟩
end
end Go.Proofs.YtcedhgihebollaaGreatDoor.E.J
