/-
  A row of acts as a law's argument; the walk of target.
-/
import Derived.Test.YtmmghdnlppjgbaaWhOnce
import Derived.Lib.SmallJoins
import Derived.Deep.Slices
namespace Go.Proofs.Ytmmghdnlppjgbaa
set_option maxRecDepth 100000
open Go.ChangeShapes Go.WideShapes Go.ChangeAt Go.RowKit
structure Ac where
  kind : Int
  id : Int
  n : Int
  batch : Int
abbrev acV (c : Ac) : Array Value := #[.int .i64 c.kind, .int .i64 c.id, .int .i64 c.n, .int .i64 c.batch]
/-- An act's four cells, from an address on. -/
structure AcAt (w : World) (A : Addr) (c : Ac) : Prop where
  lt : A.block < w.heap.size
  c0 : w.cell? A = some (.int .i64 c.kind)
  c1 : w.cell? ⟨A.block, A.off + 1, none⟩ = some (.int .i64 c.id)
  c2 : w.cell? ⟨A.block, A.off + 2, none⟩ = some (.int .i64 c.n)
  c3 : w.cell? ⟨A.block, A.off + 3, none⟩ = some (.int .i64 c.batch)
  idr : Nm c.id
  nr : Nm c.n
def ActsAt (w : World) (v : Value) (l : List Ac) : Prop := ∃ (a : Option Addr) (cap : Nat), v = .slice a l.length cap ∧ l.length ≤ cap ∧ ∀ i c, l[i]? = some c → ∃ A, a = some A ∧ A.block < w.heap.size ∧ AcAt w (A.add (i * 4)) c
theorem nm_of {n : Int} (h : (Lit.int .i64 n).wf = true) : Nm n := by
  rw [Lit.wf, Bool.and_eq_true, decide_eq_true_eq, decide_eq_true_eq] at h
  exact h
theorem AcAt.below {w w' : World} {B : Nat} {A : Addr} {c : Ac} (h : AcAt w A c) (hb : Below B w w') (hB : A.block < B) : AcAt w' A c :=
  ⟨Nat.lt_of_lt_of_le h.lt hb.size, (hb.cell (p := A) hB).trans h.c0, (hb.cell (p := ⟨A.block, A.off + 1, none⟩) hB).trans h.c1, (hb.cell (p := ⟨A.block, A.off + 2, none⟩) hB).trans h.c2, (hb.cell (p := ⟨A.block, A.off + 3, none⟩) hB).trans h.c3, h.idr, h.nr⟩
theorem ActsAt.below {w w' : World} {v : Value} {l : List Ac} (h : ActsAt w v l) (hb : Below w.heap.size w w') : ActsAt w' v l := by
  obtain ⟨a, cap, hv, hc, hx⟩ := h
  refine ⟨a, cap, hv, hc, fun i c hi => ?_⟩
  obtain ⟨A, hA, hl, hat⟩ := hx i c hi
  exact ⟨A, hA, Nat.lt_of_lt_of_le hl hb.size, hat.below hb hat.lt⟩
theorem add_off (a : Addr) (k j : Nat) (hj : 0 < j) : a.add (k + j) = ⟨(a.add k).block, (a.add k).off + j, none⟩ := by
  obtain ⟨i, rfl⟩ : ∃ i, j = i + 1 := ⟨j - 1, by omega⟩
  unfold Addr.add
  split
  · rename_i h; omega
  · split
    · rename_i h; subst h; simp
    · simp [Nat.add_assoc]
theorem acts_len {w : World} {v : Value} {l : List Ac} (h : ActsAt w v l) : ∃ a cap, v = .slice a l.length cap := by obtain ⟨a, cap, hv, _⟩ := h; exact ⟨a, cap, hv⟩
theorem arg_acts {H : Type} {enc : TypeId × Value → H} {W : World} {base : Nat} {v : Value} {d : DataW H} {p : List MemPlace} (hv : Value.okWide Try.prog W .any base 22 v) (h : DataW.Trod enc Try.prog W 0 (fun _ => true) true 22 v d p) :
    ∃ l : List Ac, ActsAt W v l := by
  obtain ⟨a0, len, cap, rfl⟩ := okWide_slice Try.underlying22 hv
  obtain ⟨fuel, hf⟩ := h
  rcases Go.Deep.open_slice Try.underlying22 hf with ⟨hcs, _⟩ | ⟨a, len', cap', m, n, D, Pl, hcs, _, hl, _, hm, _, hx⟩
  · simp [Value.cells] at hcs
    obtain ⟨rfl, rfl, rfl⟩ := hcs
    exact ⟨[], none, 0, rfl, Nat.le_refl _, fun i c hi => by simp at hi⟩
  · simp [Value.cells] at hcs
    obtain ⟨rfl, rfl, rfl⟩ := hcs
    have hlm : len ≤ m := by rw [hm]; simp; exact hl
    have c4 : Try.prog.cellsOf 32 = 4 := by kernel_rfl
    have key : ∀ i, i < len → ∃ q : Ac, AcAt W (a.add (i * 4)) q := by
      intro i hi
      obtain ⟨cs', h1, h2⟩ := hx i (by omega)
      rw [c4] at h1
      obtain ⟨_, hlen, hcell⟩ := World.cells?_some h1
      obtain ⟨y0, y1, y2, y3, n1, _, _, t0, t1, t2, t3⟩ := Go.Joins.trod_struct4 Try.underlying32 h2
      match cs', hlen with
      | [v0, v1, v2, v3], _ =>
        have t0' : DataW.trod enc Try.prog W 0 (fun _ => true) true n1 3 [v0] = some y0 := t0
        have t1' : DataW.trod enc Try.prog W 0 (fun _ => true) true n1 3 [v1] = some y1 := t1
        have t2' : DataW.trod enc Try.prog W 0 (fun _ => true) true n1 3 [v2] = some y2 := t2
        have t3' : DataW.trod enc Try.prog W 0 (fun _ => true) true n1 3 [v3] = some y3 := t3
        obtain ⟨k0, e0, _, z0⟩ := DataW.trod_int Try.underlying3 t0'
        obtain ⟨k1, e1, _, z1⟩ := DataW.trod_int Try.underlying3 t1'
        obtain ⟨k2, e2, _, z2⟩ := DataW.trod_int Try.underlying3 t2'
        obtain ⟨k3, e3, _, z3⟩ := DataW.trod_int Try.underlying3 t3'
        injection e0 with e0
        injection e1 with e1
        injection e2 with e2
        injection e3 with e3
        subst e0 e1 e2 e3
        have a0 := hcell 0 (by decide)
        exact ⟨⟨k0, k1, k2, k3⟩, World.block_lt_of_cell? W (a.add (i * 4)) a0, a0, hcell 1 (by decide), hcell 2 (by decide), hcell 3 (by decide), nm_of z1, nm_of z2⟩
    have key2 : ∃ f : Nat → Ac, ∀ i, i < len → AcAt W (a.add (i * 4)) (f i) := by
      refine ⟨fun i => if h : i < len then (key i h).choose else ⟨0, 0, 0, 0⟩, fun i hi => ?_⟩
      simp only [hi, dif_pos]
      exact (key i hi).choose_spec
    obtain ⟨f, hfi⟩ := key2
    refine ⟨(List.range len).map f, some a, cap, by simp, by simpa using hl, fun i c hi => ?_⟩
    rw [List.getElem?_map] at hi
    obtain ⟨j, hj, rfl⟩ := Option.map_eq_some_iff.1 hi
    obtain ⟨hlt, e⟩ := List.getElem?_eq_some_iff.1 hj
    simp at hlt e
    subst e
    have hb := (hfi i hlt).lt
    rw [add_block] at hb
    exact ⟨a, rfl, hb, hfi i hlt⟩
/-- So far on, as a law has it. -/
def tgt (now n : Int) : Int := now + max (-2199023255552) (min n 2199023255552)
set_option maxHeartbeats 2000000 in
theorem target_x (now n : Int) (w : World) (h : 0 ≤ now ∧ now ≤ 1099511627776) (hn : Nm n) : Calls Try.prog 14 #[.int .i64 now, .int .i64 n] w fun e w' => e = .returned (.int .i64 (tgt now n)) ∧ w' = w := by
  obtain ⟨h1, h2⟩ := h
  obtain ⟨n1, n2⟩ := hn
  by_cases g1 : 2199023255552 < n
  · have d1 : decide ((2199023255552 : Int) < n) = true := decide_eq_true g1
    have e1 : tgt now n = now + 2199023255552 := by unfold tgt; omega
    rw [e1]
    go_enter Try.func14, Try.ntmps14
    go_wp2_with fail
    go_ret
    exact ⟨rfl, rfl⟩
  have d1 : decide ((2199023255552 : Int) < n) = false := decide_eq_false g1
  by_cases g2 : n < -2199023255552
  · have d2 : decide (n < -2199023255552) = true := decide_eq_true g2
    have e1 : tgt now n = now + -2199023255552 := by unfold tgt; omega
    rw [e1]
    go_enter Try.func14, Try.ntmps14
    go_wp2_with fail
    go_ret
    exact ⟨rfl, rfl⟩
  have d2 : decide (n < -2199023255552) = false := decide_eq_false g2
  have e1 : tgt now n = now + n := by unfold tgt; omega
  rw [e1]
  go_enter Try.func14, Try.ntmps14
  go_wp2_with fail
  go_ret
  exact ⟨rfl, rfl⟩
end Go.Proofs.Ytmmghdnlppjgbaa
